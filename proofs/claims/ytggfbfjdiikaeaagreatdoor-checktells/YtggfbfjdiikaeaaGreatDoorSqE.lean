/-
  The program's parser: a node that is added.
  The program's parser: words and signs that are asked for, a token of a kind.
  The program's parser: a token of a kind; names.
  The program's parser: what a function that reads a tree leaves; names; what stands in brackets.
  Expressions read by how tight signs bind, from the left: the same as level by level.
-/
import Derived.Test.YtggfbfjdiikaeaaGreatDoorSqD
import Derived.Deep.LoopGhost
import Derived.Test.YtggfbfjdiikaeaaGreatDoorSynO
namespace Go.Proofs.YtggfbfjdiikaeaaGreatDoor
section
open Go.RowKit

attribute [local go_sem ↓] appS_eq

section
variable {C : Cx9} {w w' : World} {d : Nat} {bx : Option (Nat × Obj)} {ps : List (List Int × Value)} {l : List Tok} {rows : List Row} {lv : Value} {i : Nat} {ys : List (Row × Value)}
set_option maxRecDepth 100000 in
set_option maxHeartbeats 1600000 in
theorem qadd_raw (h : GpL C w d bx ps l rows lv i ys) (k n p : Int) (t : List UInt8) (ks : List Int) (ka : Option Addr) (kn kc : Nat) :
    Calls Tryz.prog 86 #[.pointer (some ⟨C.P, 0, none⟩), .agg #[.int .i64 k, .int .i64 n, .int .i64 p, .string ⟨⟨t⟩⟩, .slice ka kn kc]] w fun e w' => e = .returned (.int .i64 (ys.length : Int)) ∧ ∃ lv', Qs w' C.P C.T C.E i d C.tv lv' ∧ Lst w' C.B C.P C.tv lv' (ys ++ [(⟨k, n, p, t, ks⟩, .slice ka kn kc)]) ∧ FrN C.P w lv w' lv' := by
  have hfew := h.few
  have hT := h.q.few
  have c3 := h.q.c3
  have kf := h.q.free
  have hPl := h.q.lt
  have hB := h.lst.low
  have hP := h.lst.apart
  have hown := h.lst.own
  have HQ := Hid.out (p := Hid _) h.q
  have HL := Hid.out (p := Hid _) h.lst
  obtain ⟨la, lc, rfl⟩ := owns_slice hown
  clear h
  have hb2 : Below w.heap.size w ((w.alloc (.cells #[.int .i64 k, .int .i64 n, .int .i64 p, .string ⟨⟨t⟩⟩, .slice ka kn kc] 60)).drew) := ((Below.refl _ _).alloc (Nat.le_refl _) _).drew
  obtain ⟨g, cap, w3, r1, r2, r3, r4⟩ := app_row (T := 32) Tryz.underlying32 infoNod rfl (by omega) hown hb2 hB 1 #[.int .i64 k, .int .i64 n, .int .i64 p, .string ⟨⟨t⟩⟩, .slice ka kn kc] rfl (by simp [Value.oneCell']) (by omega) (by omega) (by omega)
  have es : ((w.alloc (.cells #[.int .i64 k, .int .i64 n, .int .i64 p, .string ⟨⟨t⟩⟩, .slice ka kn kc] 60)).drew).heap.size = w.heap.size + 1 := by simp
  rw [es] at r1 r4
  replace r1 : (AppS #[32, 32] 32 #[.slice la ys.length lc, .slice (some ⟨w.heap.size + 1, 0, none⟩) 1 1]).run Tryz.prog (((w.alloc (.cells #[.int .i64 k, .int .i64 n, .int .i64 p, .string ⟨⟨t⟩⟩, .slice ka kn kc] 60)).alloc (.cells #[.int .i64 k, .int .i64 n, .int .i64 p, .string ⟨⟨t⟩⟩, .slice ka kn kc] 60)).drew) = .ok (.slice (some ⟨g, 0, none⟩) (ys.length + 1) cap) w3 := r1
  have d3 : w3.cell? ⟨C.P, 3, none⟩ = some (.slice la ys.length lc) := (r3.cell_far ⟨C.P, 3, none⟩ (by simp; omega) (fun e => hP e.symm)).trans (cell_up (cell_drw (cell_up c3 _)) _)
  have df : ∀ j, w3.frozen? ⟨C.P, j, none⟩ = false := fun j => (r3.frozen_far ⟨C.P, j, none⟩ (by simp; omega) (fun e => hP e.symm)).trans ((hb2.alloc (by simp) _).frozen (p := ⟨C.P, j, none⟩) hPl |>.trans (kf j))
  have HR : Hid (w3.ownsRow C.B 60 5 (.slice (some ⟨g, 0, none⟩) (ys.length + 1) cap) (ys.length + 1) (nodsV ys ++ (#[.int .i64 k, .int .i64 n, .int .i64 p, .string ⟨⟨t⟩⟩, .slice ka kn kc] : Array Value).toList)) := r2
  have HG := Hid.out (p := Hid _) (And.intro r3 r4)
  have hys : ys.length ≤ 4000 := by omega
  clear r2 r3 r4 es hb2 hown
  go_enter Tryz.func86, Tryz.ntmps86
  go_wp2_with fail
  go_region
  all_goals go_wp2_with fail
  go_ret
  obtain ⟨r3, r4⟩ := HG.out
  have hgP : g ≠ C.P := by
    rcases r4 with r4 | r4
    · exact fun e => hP (by rw [r4, e])
    · omega
  have hblk : ∀ j, j < w.heap.size → some j ≠ (Value.slice la ys.length lc).ownBlock → w3.heap[j]? = w.heap[j]? := fun j hj hne => by
    refine (r3.block j (by simp; omega) hne).trans ?_
    exact ((((Below.refl w.heap.size w).alloc (Nat.le_refl _) _).drew).alloc (by simp) _).block j hj
  have hPb : w3.heap[C.P]? = w.heap[C.P]? := hblk C.P hPl fun e => hP e.symm
  have hfr : FrN C.P w (.slice la ys.length lc) (w3.setCell ⟨C.P, 3, none⟩ (.slice (some ⟨g, 0, none⟩) (ys.length + 1) cap)) (.slice (some ⟨g, 0, none⟩) (ys.length + 1) cap) := by
    refine ⟨r3.os, r3.tape, r3.output, ?_, fun j hj hjP hne => (Below.heap_setCell _ _ _ _ hjP).trans (hblk j hj hne), ?_⟩
    · have := r3.size
      simp at this ⊢
      omega
    · rcases r4 with r4 | r4
      · exact Or.inl (by rw [r4]; rfl)
      · refine Or.inr fun j hj => ?_
        have : g = j := by simpa [Value.ownBlock] using hj
        omega
  refine ⟨ret_int (by omega), _, ⟨heap_set9 (hPb.trans HQ.out.box), ?_, HQ.out.apart, HQ.out.le, HQ.out.few, HQ.out.okt, HQ.out.dle⟩, ⟨?_, Nat.le_trans HL.out.low hfr.size, ?_, fun j hj ht => ?_⟩, hfr⟩
  · exact fam_keeps HQ.out.toks fun j hj => hfr.block j (HQ.out.toks.lt j hj).2 (fun e => HQ.out.apart (by rw [hj, e])) fun e => HL.out.far j e.symm hj
  · unfold OwnN
    rw [List.length_append, nodsV_snoc]
    exact fam_keeps HR.out fun j hj => Below.heap_setCell _ _ _ _ (by
      have : g = j := by simpa [Value.ownBlock] using hj
      rw [← this]; exact hgP)
  · intro e
    exact hgP (by simpa [Value.ownBlock] using e)
  · rcases hfr.own with h5 | h5
    · exact HL.out.far j (h5 ▸ hj) ht
    · have := h5 j hj
      have := (HQ.out.toks.lt j ht).2
      omega
/-- One more node. -/
theorem qadd (h : GoP C w d bx ps l rows) (k n p : Int) (t : List UInt8) (ks : List Int) (ka : Option Addr) (kn kc : Nat) (hk : (ks, Value.slice ka kn kc) ∈ ps ∨ (ks = [] ∧ Value.slice ka kn kc = nilV)) (hfew : rows.length + 1 + l.length ≤ C.T.length) (ps' : List (List Int × Value) := []) (hps : ∀ p, p ∈ ps' → p ∈ ps ∧ ∀ g, (Value.slice ka kn kc).ownBlock = some g → p.2.ownBlock ≠ some g := by simp) :
    Calls Tryz.prog 86 #[.pointer (some ⟨C.P, 0, none⟩), .agg #[.int .i64 k, .int .i64 n, .int .i64 p, .string ⟨⟨t⟩⟩, .slice ka kn kc]] w fun e w' => e = .returned (.int .i64 (rows.length : Int)) ∧ GoP C w' d bx ps' l (rows ++ [⟨k, n, p, t, ks⟩]) := by
  obtain ⟨lv, i, ys, h⟩ := h
  have hl : ys.length = rows.length := by rw [← h.map, List.length_map]
  refine (qadd_raw h k n p t ks ka kn kc).mono ?_
  rintro e w' ⟨rfl, lv', hq, hl', hfr⟩
  refine ⟨by rw [hl], lv', i, _, h.fr.trans hfr, fun z hz => (h.bx z hz).fr hfr, fun p hp => ⟨(h.ps p (hps p hp).1).kd.fr hfr, (h.ps p (hps p hp).1).new⟩, hq, h.is, hl', fun x hx => ?_, by simp; omega, by rw [List.map_append, h.map]; rfl, fun y hy g hg => ?_⟩
  · rcases List.mem_append.1 hx with hx | hx
    · exact (h.kid x hx).fr hfr
    · obtain rfl : x = (⟨k, n, p, t, ks⟩, .slice ka kn kc) := by simpa using hx
      rcases hk with hk1 | ⟨rfl, hk1⟩
      · have := ((h.ps _ hk1).kd).fr hfr
        exact ⟨this.own, this.apart, this.far⟩
      · rw [hk1]; exact kd_none _ _ _ _ _ _ _
  · rcases List.mem_append.1 hy with hy | hy
    · exact ⟨(h.kb y hy g hg).1, fun p hp => (h.kb y hy g hg).2 p (hps p hp).1⟩
    · obtain rfl : y = (⟨k, n, p, t, ks⟩, .slice ka kn kc) := by simpa using hy
      rcases hk with hk1 | ⟨_, hk1⟩
      · exact ⟨Or.inr ((h.ps _ hk1).new g hg), fun p hp => (hps p hp).2 g hg⟩
      · simp only [hk1] at hg
        simp [Value.ownBlock] at hg
end
end

section
open Go.RowKit

/-- What opens, what shuts. -/
def opB (z : List UInt8) : Prop := z = [40] ∨ z = [123]
def shB (z : List UInt8) : Prop := z = [41] ∨ z = [125]
instance (z : List UInt8) : Decidable (opB z) := inferInstanceAs (Decidable (_ ∨ _))
instance (z : List UInt8) : Decidable (shB z) := inferInstanceAs (Decidable (_ ∨ _))
/-- How many things are open behind it. -/
def stepD (z : List UInt8) (d : Nat) : Nat := if opB z then d + 1 else if shB z then d - 1 else d
/-- Words and signs that are asked for, one behind the other. -/
def wordsR (E : Int) : Nat → List (List UInt8) → List Tok → Except (Int × Int) (Nat × List Tok)
  | d, [], l => .ok (d, l)
  | d, z :: zs, l => if isTok z l = true then (if opB z ∧ d = 20 then .error (6, posOf E l) else wordsR E (stepD z d) zs l.tail) else .error (5, posOf E l)
/-- What shuts has been opened. -/
def shOk : Nat → List (List UInt8) → Prop
  | _, [] => True
  | d, z :: zs => (shB z → 1 ≤ d) ∧ shOk (stepD z d) zs
section
variable {C : Cx9} {w w' : World} {d : Nat} {bx : Option (Nat × Obj)} {ps : List (List Int × Value)} {l : List Tok} {rows : List Row}
theorem qtakeL {t : Tok} {r : List Tok} {lv : Value} {i : Nat} {ys : List (Row × Value)} (h : GpL C w d bx ps (t :: r) rows lv i ys) (ho : opB t.text → d ≠ 20) (hs : shB t.text → 1 ≤ d) :
    Calls Tryz.prog 111 #[.pointer (some ⟨C.P, 0, none⟩)] w fun e w' => e = .returned (.agg #[.int .i64 t.kind, .int .i64 t.num, .int .i64 t.pos, .string ⟨⟨t.text⟩⟩]) ∧ w'.heap[C.P]? = some (.cells #[C.tv, .int .i64 ((i + 1 : Nat) : Int), .int .i64 ((stepD t.text d : Nat) : Int), lv] 111) ∧ Only C.P w w' := by
  unfold stepD
  by_cases h1 : opB t.text
  · rw [if_pos h1]
    rcases h1 with h2 | h2
    · exact qtake_oround h h2 (ho (Or.inl h2))
    · exact qtake_ocurly h h2 (ho (Or.inr h2))
  · rw [if_neg h1]
    by_cases h2 : shB t.text
    · rw [if_pos h2]
      have h3 := hs h2
      obtain ⟨d', rfl⟩ : ∃ d', d = d' + 1 := ⟨d - 1, by omega⟩
      rw [Nat.add_sub_cancel]
      rcases h2 with h2 | h2
      · exact qtake_sround h h2
      · exact qtake_scurly h h2
    · rw [if_neg h2]
      exact qtake h (fun e => h1 (Or.inl e)) (fun e => h1 (Or.inr e)) (fun e => h2 (Or.inl e)) (fun e => h2 (Or.inr e))
/-- The parser behind a token. -/
theorem GpL.over {t : Tok} {r : List Tok} {lv : Value} {i : Nat} {ys : List (Row × Value)} (h : GpL C w d bx ps (t :: r) rows lv i ys) (ho : opB t.text → d ≠ 20) (hbx : w'.heap[C.P]? = some (.cells #[C.tv, .int .i64 ((i + 1 : Nat) : Int), .int .i64 ((stepD t.text d : Nat) : Int), lv] 111)) (hon : Only C.P w w') : GoP C w' (stepD t.text d) bx ps r rows := by
  have hdl := h.q.dle
  have hlt : i < C.T.length := by
    rcases Nat.lt_or_ge i C.T.length with h1 | h1
    · exact h1
    · have := h.is; rw [List.drop_eq_nil_of_le h1] at this; cases this
  have hd2 := getD_drop hlt
  rw [h.is] at hd2
  simp only [List.cons.injEq] at hd2
  have hst : stepD t.text d ≤ 20 := by
    unfold stepD
    split
    · rename_i h1
      have := ho h1
      omega
    · split <;> omega
  have hgo := h.only (d' := stepD t.text d) hon (Nat.le_succ i) hlt hst hbx
  rw [← hd2.2] at hgo
  exact hgo
theorem qtake_any {t : Tok} {r : List Tok} (h : GoP C w d bx ps (t :: r) rows) (ho : opB t.text → d ≠ 20) (hs : shB t.text → 1 ≤ d) :
    Calls Tryz.prog 111 #[.pointer (some ⟨C.P, 0, none⟩)] w fun e w' => e = .returned (.agg #[.int .i64 t.kind, .int .i64 t.num, .int .i64 t.pos, .string ⟨⟨t.text⟩⟩]) ∧ GoP C w' (stepD t.text d) bx ps r rows ∧ Only C.P w w' := by
  obtain ⟨lv, i, ys, h⟩ := h
  refine (qtakeL h ho hs).mono ?_
  rintro e w' ⟨rfl, hbx, hon⟩
  exact ⟨rfl, h.over ho hbx hon, hon⟩
theorem qtake_deep {t : Tok} {r : List Tok} (h : GoP C w 20 bx ps (t :: r) rows) (ho : opB t.text) :
    Calls Tryz.prog 111 #[.pointer (some ⟨C.P, 0, none⟩)] w fun e w' => e = .panicked (badF (6, t.pos)) ∧ FrP C w' := by
  rcases ho with h1 | h1
  · exact qtake_dround h h1
  · exact qtake_dcurly h h1
/-- A round of words. -/
structure WdI (C : Cx9) (w wr : World) (bx : Option (Nat × Obj)) (ps : List (List Int × Value)) (rows : List Row) (g : Nat) (zs : List ByteArray) (R : Except (Int × Int) (Nat × List Tok)) (j d : Nat) (l : List Tok) : Prop where
  go : GoP C wr d bx ps l rows
  is : wordsR C.E d ((zs.drop j).map fun z => z.data.toList) l = R
  sh : shOk d ((zs.drop j).map fun z => z.data.toList)
  tx : wr.heap[g]? = some (.cells (zs.map Value.string).toArray 9)
  on : Only C.P w wr
/-- What words and signs leave. -/
def WdQ (C : Cx9) (w : World) (bx : Option (Nat × Obj)) (ps : List (List Int × Value)) (rows : List Row) (R : Except (Int × Int) (Nat × List Tok)) (e : Ending) (w' : World) : Prop :=
  match R with
  | .ok (d', l') => e = .returned (.tuple #[]) ∧ GoP C w' d' bx ps l' rows ∧ Only C.P w w'
  | .error q => e = .panicked (badF q) ∧ FrP C w'
set_option maxRecDepth 100000 in
set_option maxHeartbeats 1600000 in
theorem qwords (h : GoP C w d bx ps l rows) (g n : Nat) (zs : List ByteArray) (hn : n = zs.length) (hn2 : n ≤ 100) (hz : w.heap[g]? = some (.cells (zs.map Value.string).toArray 9)) (hgP : g ≠ C.P) (hlit : ∀ z, z ∈ zs → isLit z.data.toList) (hsh : shOk d (zs.map fun z => z.data.toList)) (R : Except (Int × Int) (Nat × List Tok)) (HR : Hid (wordsR C.E d (zs.map fun z => z.data.toList) l = R)) :
    Calls Tryz.prog 114 #[.pointer (some ⟨C.P, 0, none⟩), .slice (some ⟨g, 0, none⟩) n n] w fun e w' => WdQ C w bx ps rows R e w' := by
  subst hn
  have HI : Hid (WdI C w w bx ps rows g zs R 0 d l) := ⟨h, by simpa using HR.out, by simpa using hsh, hz, Only.refl _ _⟩
  have HLT := Hid.out (p := Hid _) hlit
  clear h hz hlit hsh
  go_enter Tryz.func114, Tryz.ntmps114
  go_wp2_with fail
  go_loopg [8] (zs.length + 1) (fun gh x wr => ∃ j d' l', x = .int .i64 ((j : Nat) : Int) ∧ j ≤ zs.length ∧ zs.length + 1 ≤ gh + j ∧ Hid (WdI C w wr bx ps rows g zs R j d' l'))
  case atStart => exact ⟨0, d, l, rfl, Nat.zero_le _, by omega, HI⟩
  case round =>
    obtain ⟨j, d', l', rfl, hj, hgh, HJ⟩ := hrel
    clear HI
    by_cases hlt : j < zs.length
    · have hlt' : (j : Int) < (zs.length : Int) := by omega
      obtain ⟨z, hz⟩ : ∃ z, zs[j]? = some z := ⟨_, List.getElem?_eq_getElem hlt⟩
      have hzd : zs.drop j = z :: zs.drop (j + 1) := by
        rw [List.drop_eq_getElem_cons hlt]
        rw [List.getElem?_eq_getElem hlt] at hz
        rw [Option.some.inj hz]
      have hzm : z ∈ zs := List.mem_of_getElem? hz
      have hzl := HLT.out z hzm
      have x0 : wr.cell? ⟨g, j, none⟩ = some (.string z) := box_cell HJ.out.tx (by simp [hz])
      have hgl : g < wr.heap.size := lt_of_cell x0
      have his := HJ.out.is
      have hsk := HJ.out.sh
      rw [hzd, List.map_cons] at his hsk
      have hA := (Below.refl wr.heap.size wr).alloc (Nat.le_refl _) (.cells #[.string z] 9)
      have HQI := Hid.out (p := Hid _) (qis (HJ.out.go.below hA) wr.heap.size 1 [z] rfl (by decide) (heap_alloc_new _ _) (fun y hy => by simp at hy; rw [hy]; exact hzl))
      have hlb : litB [z] l' = isTok z.data.toList l' := by simp [litB]
      rw [hlb] at HQI
      have HG := Hid.out (p := Hid _) (HJ.out.go.below hA)
      have HA := Hid.out (p := Hid _) hA
      have HIS := Hid.out (p := Hid _) his
      have HSK := Hid.out (p := Hid _) hsk
      clear his hsk hA hlb hz hzm hzl
      cases hb : isTok z.data.toList l' with
      | false =>
        rw [hb] at HQI
        have hRx : R = .error (5, posOf C.E l') := by
          rw [← HIS.out, wordsR, if_neg (by rw [hb]; decide)]
        clear hb
        go_wp2_with (first
          | (go_at_call 81; refine Calls.mono HQI.out ?_; rintro e w2 ⟨rfl, hb2⟩; have HG2 := Hid.out (p := Hid _) (HG.out.below hb2); clear hb2)
          | (go_at_call 85; refine Calls.mono (qfault HG2.out 5) ?_; rintro e w3 ⟨rfl, hb3⟩; have HF3 : Hid (FrP C w3) := HG2.out.frp.below hb3; clear hb3))
        rw [hRx]
        exact ⟨rfl, rfl, HF3.out⟩
      | true =>
        rw [hb] at HQI
        obtain ⟨t, r, rfl⟩ : ∃ t r, l' = t :: r := by
          cases l' with
          | nil => cases hb
          | cons t r => exact ⟨t, r, rfl⟩
        have htx : t.text = z.data.toList := by
          simp only [isTok, Bool.and_eq_true, decide_eq_true_eq] at hb
          exact hb.2
        by_cases hdp : opB z.data.toList ∧ d' = 20
        · have hRx : R = .error (6, t.pos) := by
            rw [← HIS.out, wordsR, if_pos hb, if_pos hdp]; rfl
          obtain ⟨hop, rfl⟩ := hdp
          rw [← htx] at hop
          have HOP := Hid.out (p := Hid _) hop
          clear hb hop htx
          go_wp2_with (first
            | (go_at_call 81; refine Calls.mono HQI.out ?_; rintro e w2 ⟨rfl, hb2⟩; have HG2 := Hid.out (p := Hid _) (HG.out.below hb2); clear hb2)
            | (go_at_call 111; refine Calls.mono (qtake_deep HG2.out HOP.out) ?_; rintro e w3 ⟨rfl, hf3⟩))
          rw [hRx]
          exact ⟨rfl, rfl, hf3⟩
        · have HRX : Hid (wordsR C.E (stepD t.text d') ((zs.drop (j + 1)).map fun z => z.data.toList) r = R) := by
            show _ = R
            rw [← HIS.out, wordsR, if_pos hb, if_neg hdp, htx]; rfl
          have HOP : Hid (opB t.text → d' ≠ 20) := fun h1 h2 => hdp ⟨htx ▸ h1, h2⟩
          have HSH : Hid ((shB t.text → 1 ≤ d') ∧ shOk (stepD t.text d') ((zs.drop (j + 1)).map fun z => z.data.toList)) := by rw [htx]; exact HSK.out
          clear hb hdp htx
          go_wp2_with (first
            | (go_at_call 81; refine Calls.mono HQI.out ?_; rintro e w2 ⟨rfl, hb2⟩; have HG2 := Hid.out (p := Hid _) (HG.out.below hb2); have HB2 : Hid (Below wr.heap.size wr w2) := HA.out.trans (hb2.mono HA.out.size); clear hb2)
            | (go_at_call 111; refine Calls.mono (qtake_any HG2.out HOP.out HSH.out.1) ?_; rintro e w3 ⟨rfl, hg3, ho3⟩; have HN : Hid (WdI C w w3 bx ps rows g zs R (j + 1) (stepD t.text d') r) := ⟨hg3, HRX.out, HSH.out.2, (ho3.block g (Nat.lt_of_lt_of_le hgl HB2.out.size) hgP).trans ((HB2.out.block g hgl).trans HJ.out.tx), HJ.out.on.trans ((Only.of HB2.out).trans ho3)⟩; clear hg3 ho3))
          go_roundg (gk - 1)
          case rel => exact ⟨j + 1, _, _, by first | rfl | simp, by omega, by omega, HN⟩
          case measure => omega
    · have hlt' : ¬ (j : Int) < (zs.length : Int) := by omega
      have hje : zs.drop j = [] := List.drop_eq_nil_of_le (by omega)
      have HRX : Hid (R = .ok (d', l')) := by
        show R = _
        rw [← HJ.out.is, hje]; rfl
      have HG := Hid.out (p := Hid _) (And.intro HJ.out.go HJ.out.on)
      clear hje
      go_wp2_with fail
      go_end0
      rw [HRX.out]
      exact ⟨rfl, HG.out.1, HG.out.2⟩
end
end

section
open Go.RowKit

section
variable {C : Cx9} {w w' : World} {d : Nat} {bx : Option (Nat × Obj)} {ps : List (List Int × Value)} {l : List Tok} {rows : List Row}
set_option maxRecDepth 100000 in
set_option maxHeartbeats 1600000 in
theorem qkind_no (h : GoP C w d bx ps l rows) (k : Int) (hk : (tokE C.E l).kind ≠ k) :
    Calls Tryz.prog 112 #[.pointer (some ⟨C.P, 0, none⟩), .int .i64 k] w fun e w' => e = .panicked (badF (5, posOf C.E l)) ∧ FrP C w' := by
  have hA := (Below.refl w.heap.size w).alloc (Nat.le_refl _) (.cells #[.int .i64 0, .int .i64 0, .int .i64 0, .string ⟨#[]⟩] 98)
  have HN := Hid.out (p := Hid _) (qnext (h.below hA))
  have HH := Hid.out (p := Hid _) (h.below hA)
  have hfd := fld0
  have hne : ((tokE C.E l).kind != k) = true := by simpa using hk
  clear h hA hk
  go_enter Tryz.func112, Tryz.ntmps112
  go_wp2_with (first
    | (go_at_call 84; refine Calls.mono HN.out ?_; rintro e w1 ⟨rfl, hb⟩; have HG := Hid.out (p := Hid _) (HH.out.below hb); clear hb)
    | (go_at_call 85; refine Calls.mono (qfault HG.out 5) ?_; rintro e w2 ⟨rfl, hb2⟩; have HF2 : Hid (FrP C w2) := HG.out.frp.below hb2; clear hb2))
  exact ⟨rfl, rfl, HF2.out⟩
theorem name_plain {t : List UInt8} (h : NameOk t) : ¬ opB t ∧ ¬ shB t := by
  obtain ⟨⟨b, r, rfl, hb, _⟩, _⟩ := h
  constructor
  · rintro (h | h) <;> (simp only [List.cons.injEq] at h; obtain ⟨rfl, _⟩ := h; revert hb; decide)
  · rintro (h | h) <;> (simp only [List.cons.injEq] at h; obtain ⟨rfl, _⟩ := h; revert hb; decide)
theorem num_plain (u : Nat) : ¬ opB (Lib.decDigits u) ∧ ¬ shB (Lib.decDigits u) := by
  obtain ⟨b, r, hd, hb⟩ := dec_head9 u
  rw [hd]
  constructor
  · rintro (h | h) <;> (simp only [List.cons.injEq] at h; obtain ⟨rfl, _⟩ := h; revert hb; decide)
  · rintro (h | h) <;> (simp only [List.cons.injEq] at h; obtain ⟨rfl, _⟩ := h; revert hb; decide)
theorem kind_plain {t : Tok} (h : TokOk t) (hk : t.kind = 1 ∨ t.kind = 3) : ¬ opB t.text ∧ ¬ shB t.text := by
  rcases h with ⟨_, _, h2⟩ | ⟨h1, _, _⟩ | ⟨_, _, _, h4⟩ | ⟨h1, _, _⟩
  · exact name_plain h2
  · rw [h1] at hk; rcases hk with hk | hk <;> cases hk
  · rw [h4]; exact num_plain _
  · rw [h1] at hk; rcases hk with hk | hk <;> cases hk
set_option maxRecDepth 100000 in
set_option maxHeartbeats 1600000 in
theorem qkind_yes {t : Tok} {r : List Tok} (h : GoP C w d bx ps (t :: r) rows) (k : Int) (hk : t.kind = k) (hk2 : k = 1 ∨ k = 3) :
    Calls Tryz.prog 112 #[.pointer (some ⟨C.P, 0, none⟩), .int .i64 k] w fun e w' => e = .returned (.agg #[.int .i64 t.kind, .int .i64 t.num, .int .i64 t.pos, .string ⟨⟨t.text⟩⟩]) ∧ GoP C w' d bx ps r rows ∧ Only C.P w w' := by
  have hA := (Below.refl w.heap.size w).alloc (Nat.le_refl _) (.cells #[.int .i64 0, .int .i64 0, .int .i64 0, .string ⟨#[]⟩] 98)
  have HN := Hid.out (p := Hid _) (qnext (h.below hA))
  have HA := Hid.out (p := Hid _) hA
  have htok := h.fewR.2.2.2 t (List.mem_cons_self ..)
  have hpl := kind_plain htok (by rw [hk]; exact hk2)
  have hst : stepD t.text d = d := by unfold stepD; rw [if_neg hpl.1, if_neg hpl.2]
  have HPL := Hid.out (p := Hid _) hpl
  have HST := Hid.out (p := Hid _) hst
  obtain ⟨lv, i, ys, h⟩ := h
  have HL := Hid.out (p := Hid _) h
  have hPw := h.q.lt
  have hfd := fld0
  have hne : (k != k) = false := by simp
  clear h hA htok hpl hst
  go_enter Tryz.func112, Tryz.ntmps112
  go_wp2_with fail
  refine Calls.mono HN.out ?_
  rintro e w1 ⟨rfl, hb⟩
  simp only [tokE]
  rw [hk]
  have hx := (hb.block w.heap.size (by simp)).trans (heap_alloc_new w _)
  have hb1 : Below w.heap.size w w1 := HA.out.trans (hb.mono HA.out.size)
  have hg1 := HL.out.below hb1
  go_wp2_with fail
  refine Calls.mono (qtakeL hg1 (fun h => absurd h HPL.out.1) (fun h => absurd h HPL.out.2)) ?_
  rintro e w2 ⟨rfl, hg2, ho2⟩
  have hx2 := (ho2.block w.heap.size (lt_of_cell (box4 hx).1) (by omega)).trans hx
  obtain ⟨p0, p1, p2, p3, pf⟩ := box4 hx2
  have hne2 : ¬ C.P = w.heap.size := by omega
  have HO2 : Hid (Only C.P w w2) := (Only.of hb1).trans ho2
  have HG2 := Hid.out (p := Hid _) hg2
  clear hx hb hb1 hg1 hx2 hg2 ho2
  go_wp2_with fail
  rw [hk]
  refine bodyPost_ret (v := .agg #[.int .i64 k, .int .i64 t.num, .int .i64 t.pos, .string ⟨⟨t.text⟩⟩]) (by simp [results, Tryz.results112, go_sem, p0, p1, p2, p3]) rfl ?_
  have ho := (((HO2.out.setn (Nat.le_refl _) 0 (.int .i64 k)).setn (Nat.le_refl _) 1 (.int .i64 t.num)).setn (Nat.le_refl _) 2 (.int .i64 t.pos)).setn (Nat.le_refl _) 3 (.string ⟨⟨t.text⟩⟩)
  have hbx := (Below.heap_setCell _ ⟨w.heap.size, 3, none⟩ (.string ⟨⟨t.text⟩⟩) C.P hne2).trans ((Below.heap_setCell _ ⟨w.heap.size, 2, none⟩ (.int .i64 t.pos) C.P hne2).trans ((Below.heap_setCell _ ⟨w.heap.size, 1, none⟩ (.int .i64 t.num) C.P hne2).trans ((Below.heap_setCell _ ⟨w.heap.size, 0, none⟩ (.int .i64 k) C.P hne2).trans HG2.out)))
  have hgo := HL.out.over (fun h => absurd h HPL.out.1) hbx ho
  rw [HST.out] at hgo
  exact ⟨rfl, hgo, ho⟩
end
end

section
open Go.RowKit

/-- What a function leaves that reads a tree. -/
def PrQ (C : Cx9) (w : World) (d : Nat) (bx : Option (Nat × Obj)) (ps : List (List Int × Value)) (rows : List Row) (r : TRes Nd) (e : Ending) : Prop :=
  match r with
  | .ok (x, q) => e = .returned (.int .i64 (((rows.length + ndSize x : Nat) : Int) - 1)) ∧ GoP C w d bx ps q (rows ++ flat rows.length x)
  | .error f => e = .panicked (badF f) ∧ FrP C w
/-- It does so. -/
def Cpr (fn : Nat) (av : List Value) (E : Int) (d : Nat) (l : List Tok) (r : TRes Nd) : Prop := ∀ (C : Cx9) (w : World) (bx : Option (Nat × Obj)) (ps : List (List Int × Value)) (rows : List Row), C.E = E → GoP C w d bx ps l rows →
  Calls Tryz.prog fn (Value.pointer (some ⟨C.P, 0, none⟩) :: av).toArray w fun e w' => PrQ C w' d bx ps rows r e
theorem cpr_of {fn : Nat} {av : List Value} {E : Int} {d : Nat} {l : List Tok} {r : TRes Nd} (h : ∀ (C : Cx9) (w : World) (rows : List Row), C.E = E → GoP C w d none [] l rows → Calls Tryz.prog fn (Value.pointer (some ⟨C.P, 0, none⟩) :: av).toArray w fun e w' => PrQ C w' d none [] rows r e) : Cpr fn av E d l r := by
  intro C w bx ps rows hE hg
  obtain ⟨C', e1, e2, e3, e4, e5, e6, h1, h2, h3⟩ := hg.lift
  rw [← e2]
  refine (h C' w rows (e4.trans hE) h1).mono ?_
  intro e w' hq
  match r, hq with
  | .ok (x, q), ⟨hv, hq⟩ => exact ⟨hv, h2 hq⟩
  | .error f, ⟨hv, hq⟩ => exact ⟨hv, h3 hq⟩
/-- So many things open. -/
def liftD (x : Except (Int × Int) (List Tok)) (d : Nat) : Except (Int × Int) (Nat × List Tok) :=
  match x with
  | .ok r => .ok (d, r)
  | .error q => .error q
section
variable {E : Int} {d : Nat} {l : List Tok}
theorem words_one {z : List UInt8} (h1 : ¬ opB z) (h2 : ¬ shB z) : wordsR E d [z] l = liftD (takeT E z l) d := by
  rw [wordsR, takeT]
  split
  · rw [if_neg (fun h => h1 h.1)]
    unfold stepD
    rw [if_neg h1, if_neg h2]
    rfl
  · rfl
theorem words_open {z : List UInt8} (h1 : opB z) : wordsR E d [z] l = liftD (openT E z d l) (d + 1) := by
  rw [wordsR, openT]
  by_cases hi : isTok z l = true
  · rw [if_pos hi]
    by_cases hd : d = 20
    · rw [if_pos ⟨h1, hd⟩, if_pos ⟨hi, hd⟩]; rfl
    · rw [if_neg (fun h => hd h.2), if_neg (fun h => hd h.2), takeT, if_pos hi]
      unfold stepD
      rw [if_pos h1]
      rfl
  · rw [if_neg hi, if_neg (fun h => hi h.1), takeT, if_neg hi]; rfl
theorem words_shut {z : List UInt8} (h2 : shB z) : wordsR E (d + 1) [z] l = liftD (takeT E z l) d := by
  have h1 : ¬ opB z := by rcases h2 with rfl | rfl <;> decide
  rw [wordsR, takeT]
  split
  · rw [if_neg (fun h => h1 h.1)]
    unfold stepD
    rw [if_neg h1, if_pos h2]
    rfl
  · rfl
end
section
variable {C : Cx9} {w w' : World} {d : Nat} {bx : Option (Nat × Obj)} {ps : List (List Int × Value)} {l : List Tok} {rows : List Row}
theorem wdq_only {w0 : World} {R : Except (Int × Int) (Nat × List Tok)} {e : Ending} (h : WdQ C w bx ps rows R e w') (ho : Only C.P w0 w) : WdQ C w0 bx ps rows R e w' := by
  match R, h with
  | .ok (d', l'), ⟨h1, h2, h3⟩ => exact ⟨h1, h2, ho.trans h3⟩
  | .error q, h => exact h
/-- One word or sign that is asked for. -/
theorem qword1 (h : GoP C w d bx ps l rows) (z : ByteArray) (hlit : isLit z.data.toList) (hsh : shB z.data.toList → 1 ≤ d) (R : Except (Int × Int) (Nat × List Tok)) (HR : wordsR C.E d [z.data.toList] l = R) :
    Calls Tryz.prog 114 #[.pointer (some ⟨C.P, 0, none⟩), .slice (some ⟨w.heap.size, 0, none⟩) 1 1] (w.alloc (.cells #[.string z] 9)) fun e w' => WdQ C w bx ps rows R e w' := by
  have hA := (Below.refl w.heap.size w).alloc (Nat.le_refl _) (.cells #[.string z] 9)
  have hP := h.cells
  obtain ⟨i, -, -, -, hP⟩ := hP
  refine (qwords (h.below hA) w.heap.size 1 [z] rfl (by decide) (heap_alloc_new _ _) (by omega) (fun y hy => by simp at hy; rw [hy]; exact hlit) ⟨hsh, trivial⟩ R HR).mono ?_
  intro e w' hq
  exact wdq_only hq (Only.of hA)
/-- Does one stand next? -/
theorem qis1 (h : GoP C w d bx ps l rows) (z : ByteArray) (hlit : isLit z.data.toList) :
    Calls Tryz.prog 81 #[.pointer (some ⟨C.P, 0, none⟩), .slice (some ⟨w.heap.size, 0, none⟩) 1 1] (w.alloc (.cells #[.string z] 9)) fun e w' => e = .returned (.bool (isTok z.data.toList l)) ∧ Below w.heap.size w w' := by
  have hA := (Below.refl w.heap.size w).alloc (Nat.le_refl _) (.cells #[.string z] 9)
  refine (qis (h.below hA) w.heap.size 1 [z] rfl (by decide) (heap_alloc_new _ _) (fun y hy => by simp at hy; rw [hy]; exact hlit)).mono ?_
  rintro e w' ⟨rfl, hb⟩
  exact ⟨by simp [litB], hA.trans (hb.mono hA.size)⟩
theorem lit_sign {b : UInt8} (h : b ∈ oneS) : isLit [b] := Or.inr (Or.inr ⟨b, rfl, h⟩)
end
section
variable {E : Int} {d : Nat} {l : List Tok}
/-- A name as a tree. -/
def nmT (E : Int) (l : List Tok) : TRes Nd := bindT (nameT E l) fun s r => .ok (.mk 16 0 (posOf E l) s [], r)
set_option maxRecDepth 100000 in
set_option maxHeartbeats 1600000 in
theorem qname : Cpr 168 [] E d l (nmT E l) := by
  refine cpr_of fun C w rows hE hg => ?_
  subst hE
  have hfw := hg.fewR
  by_cases hk : ∃ t r, l = t :: r ∧ t.kind = 1
  · obtain ⟨t, r, rfl, hk⟩ := hk
    have hR : nmT C.E (t :: r) = .ok (.mk 16 0 t.pos t.text [], r) := by
      unfold nmT
      rw [nameT_yes hk]
      rfl
    rw [hR]
    have HK := Hid.out (p := Hid _) (qkind_yes hg 1 hk (Or.inl rfl))
    have hfe : rows.length + 1 + r.length ≤ C.T.length := by have := hfw.1; simp only [List.length_cons] at this; omega
    clear hg hR
    go_enter Tryz.func168, Tryz.ntmps168
    go_wp2_with (first
      | (go_at_call 112; refine Calls.mono HK.out ?_; rintro e w1 ⟨rfl, hg1, -⟩; have HG1 := Hid.out (p := Hid _) hg1; clear hg1)
      | (go_at_call 86; refine Calls.mono (qadd (HG1.out.below ((Below.refl _ _).alloc (Nat.le_refl _) _)) 16 0 t.pos t.text [] none 0 0 (Or.inr ⟨rfl, rfl⟩) hfe) ?_; rintro e w2 ⟨rfl, hg2⟩))
    go_ret
    refine ⟨by rw [size_none]; simp, ?_⟩
    simpa [flat, flats, idxs] using hg2
  · have hk2 : (tokE C.E l).kind ≠ 1 := fun h => by
      cases l with
      | nil => cases h
      | cons t r => exact hk ⟨t, r, rfl, h⟩
    have hR : nmT C.E l = .error (5, posOf C.E l) := by
      unfold nmT
      cases l with
      | nil => rfl
      | cons t r => rw [nameT_no (show ¬ t.kind = 1 from hk2)]; rfl
    rw [hR]
    have HK := Hid.out (p := Hid _) (qkind_no hg 1 hk2)
    clear hg hR hk hk2
    go_enter Tryz.func168, Tryz.ntmps168
    go_wp2_with (go_at_call 112; refine Calls.mono HK.out ?_; rintro e w1 ⟨rfl, hf1⟩)
    exact ⟨rfl, rfl, hf1⟩
set_option maxRecDepth 100000 in
set_option maxHeartbeats 1600000 in
theorem qprim_held (h4 : isTok [40] l = true) (IH : ∀ r, r.length < l.length → d + 1 ≤ 20 → Cpr 162 [.int .i64 1] E (d + 1) r (exprT E 0 (d + 1) r)) : Cpr 175 [] E d l (heldT E d l) := by
  refine cpr_of fun C w rows hE hg => ?_
  subst hE
  have HN := Hid.out (p := Hid _) (qnext hg)
  have HG := Hid.out (p := Hid _) hg
  have hfd := fld0
  have hk3 : ((tokE C.E l).kind == 3) = false := by
    cases l with
    | nil => cases h4
    | cons t r =>
      simp only [isTok, Bool.and_eq_true, Bool.or_eq_true, decide_eq_true_eq] at h4
      simp only [tokE]
      rcases h4.1 with h | h <;> (rw [h]; decide)
  have HI4 := Hid.out (p := Hid _) h4
  rw [heldT_is]
  obtain ⟨R, hR⟩ : ∃ R, R = bindL (openT C.E [40] d l) fun r => bindT (exprT C.E 0 (d + 1) r) fun x q => bindL (takeT C.E [41] q) fun p => .ok (x, p) := ⟨_, rfl⟩
  rw [← hR]
  have HR := Hid.out (p := Hid _) hR
  clear hg hR h4
  go_enter Tryz.func175, Tryz.ntmps175
  go_wp2_with (first
    | (go_at_call 84; refine Calls.mono HN.out ?_; rintro e w1 ⟨rfl, hb⟩; have HG1 := Hid.out (p := Hid _) (HG.out.below hb); clear hb)
    | (go_at_call 81; refine Calls.mono (qis1 HG1.out _ (lit_sign (by decide))) ?_; rintro e w2 ⟨rfl, hb⟩; rw [show isTok (⟨#[40]⟩ : ByteArray).data.toList l = true from HI4.out]; have HG2 := Hid.out (p := Hid _) (HG1.out.below hb); clear hb))
  refine Calls.mono (qword1 HG2.out _ (lit_sign (by decide)) (fun h => absurd h (by decide)) _ (words_open (Or.inl rfl))) ?_
  intro e w3 hq
  have hRR := HR.out
  change WdQ C w2 none [] rows (liftD (openT C.E [40] d l) (d + 1)) e w3 at hq
  cases ho : openT C.E [40] d l with
  | error f =>
    rw [ho] at hq hRR
    obtain ⟨rfl, hf⟩ := hq
    subst hRR
    exact ⟨rfl, rfl, hf⟩
  | ok r =>
    rw [ho] at hq hRR
    obtain ⟨rfl, hg3, -⟩ := hq
    have hd1 : d + 1 ≤ 20 := hg3.fewR.2.2.1
    have HX := Hid.out (p := Hid _) (IH r (open_len ho) hd1 C w3 none [] rows rfl hg3)
    simp only [bindL] at hRR
    clear hg3 ho
    go_wp2_with fail
    refine Calls.mono HX.out ?_
    intro e w4 hq
    cases hx : exprT C.E 0 (d + 1) r with
    | error f =>
      rw [hx] at hq hRR
      obtain ⟨rfl, hf⟩ := hq
      subst hRR
      exact ⟨rfl, rfl, hf⟩
    | ok y =>
      obtain ⟨x, q⟩ := y
      rw [hx] at hq hRR
      obtain ⟨rfl, hg4⟩ := hq
      simp only [bindT] at hRR
      have HG4 := Hid.out (p := Hid _) hg4
      clear hg4 hx HX
      go_wp2_with fail
      refine Calls.mono (qword1 HG4.out _ (lit_sign (by decide)) (fun _ => Nat.le_add_left 1 d) _ (words_shut (Or.inl rfl))) ?_
      intro e w5 hq
      change WdQ C w4 none [] _ (liftD (takeT C.E [41] q) d) e w5 at hq
      cases ht : takeT C.E [41] q with
      | error f =>
        rw [ht] at hq hRR
        obtain ⟨rfl, hf⟩ := hq
        subst hRR
        exact ⟨rfl, rfl, hf⟩
      | ok p =>
        rw [ht] at hq hRR
        obtain ⟨rfl, hg5, -⟩ := hq
        have HG5 := Hid.out (p := Hid _) hg5
        clear hg5 ht
        go_wp2_with fail
        go_ret
        rw [hRR]
        exact ⟨rfl, HG5.out⟩
end
end

section
section
variable {e : Int}
/-- More of the levels 4 down to 5 - j behind what stands. -/
noncomputable def restJ (e : Int) : Nat → Nat → Nd → List Tok → TRes Nd
  | 0, _, x, l => .ok (x, l)
  | j + 1, d, x, l => bindT (restJ e j d x l) (loopT e (4 - j) d)
theorem bindT_assoc {α β γ : Type} (x : TRes α) (f : α → List Tok → TRes β) (g : β → List Tok → TRes γ) : bindT (bindT x f) g = bindT x fun a l => bindT (f a l) g := by
  cases x with
  | error q => rfl
  | ok y => rfl
theorem expr_rest (d : Nat) (l : List Tok) : ∀ j k : Nat, k + j = 5 → exprT e k d l = bindT (unaryT e d l) (restJ e j d)
  | 0, k, hk => by
    obtain rfl : k = 5 := by omega
    rw [exprT_five]
    cases unaryT e d l with
    | error q => rfl
    | ok y => rfl
  | j + 1, k, hk => by
    rw [exprT_low (by omega), expr_rest d l j (k + 1) (by omega), bindT_assoc]
    have h4 : 4 - j = k := by omega
    congr 1
    funext x q
    rw [restJ, h4]
theorem sign_more {k : Nat} {l : List Tok} (h : NoSign (k + 1) l) (hs : signAt k l = none) : NoSign k l := by
  match l, h with
  | [], _ => trivial
  | t :: r, h =>
    intro h4
    have h1 := h h4
    rw [signAt] at hs
    split at hs
    · cases hs
    · rename_i hn
      have : lvl t.text ≠ (k : Int) := fun e => hn ⟨h4, e⟩
      omega
theorem loop_ns {k d : Nat} (hx : ∀ r y q, exprT e (k + 1) d r = .ok (y, q) → NoSign (k + 1) q ∧ q.length < r.length) : ∀ (N : Nat) (l : List Tok), l.length ≤ N → ∀ x y q, NoSign (k + 1) l → loopT e k d x l = .ok (y, q) → NoSign k q := by
  intro N
  induction N with
  | zero =>
    intro l hl x y q hn h
    have : l = [] := by cases l with
      | nil => rfl
      | cons a b => simp at hl
    subst this
    rw [loopT_is] at h
    have h1 := Except.ok.inj h
    simp only [Prod.mk.injEq] at h1
    rw [← h1.2]
    trivial
  | succ N ih =>
    intro l hl x y q hn h
    rw [loopT_is] at h
    cases hs : signAt k l with
    | none =>
      rw [hs] at h
      have h1 := Except.ok.inj h
      simp only [Prod.mk.injEq] at h1
      rw [← h1.2]
      exact sign_more hn hs
    | some p =>
      obtain ⟨t, r⟩ := p
      rw [hs] at h
      have hr := sign_tl hs
      simp only at h
      cases he : exprT e (k + 1) d r with
      | error f => rw [he] at h; cases h
      | ok z =>
        obtain ⟨z, q2⟩ := z
        rw [he] at h
        have h2 := hx r z q2 he
        exact ih q2 (by omega) _ y q h2.1 h
theorem exprT_len {k d : Nat} (hk : k ≤ 5) {l q : List Tok} {x : Nd} (h : exprT e k d l = .ok (x, q)) : q.length < l.length ∧ ndSize x + q.length ≤ l.length := by
  obtain ⟨n, y, hy⟩ := ex_tot (e := e) k d l hk
  have h3 := tld_is (ex_up k l) hy
  have h4 := hy.trans (congrArg some (h3.symm.trans h))
  exact ⟨(expr_len n).1 _ _ _ _ _ h4, (expr_size n).1 _ _ _ _ _ h4⟩
/-- Behind an expression of a level no sign of it stands. -/
theorem expr_ns : ∀ j k : Nat, k + j = 5 → ∀ d l x q, exprT e k d l = .ok (x, q) → NoSign k q
  | 0, k, hk, d, l, x, q, _ => by
    obtain rfl : k = 5 := by omega
    cases q with
    | nil => trivial
    | cons t r => exact fun _ => by have := lvl_le t.text; omega
  | j + 1, k, hk, d, l, x, q, h => by
    rw [exprT_low (by omega)] at h
    cases he : exprT e (k + 1) d l with
    | error f => rw [he] at h; cases h
    | ok z =>
      obtain ⟨z, q2⟩ := z
      rw [he] at h
      exact loop_ns (fun r y q hr => ⟨expr_ns j (k + 1) (by omega) d r y q hr, (exprT_len (by omega) hr).1⟩) q2.length q2 (Nat.le_refl _) z x q (expr_ns j (k + 1) (by omega) d l z q2 he) h
/-- No sign that binds so tight: nothing more. -/
theorem rest_none {d : Nat} {x : Nd} {l : List Tok} : ∀ j k : Nat, k + j = 5 → NoSign k l → restJ e j d x l = .ok (x, l)
  | 0, _, _, _ => rfl
  | j + 1, k, hk, h => by
    have h4 : 4 - j = k := by omega
    rw [restJ, rest_none j (k + 1) (by omega) (h.up (by omega)), h4]
    show loopT e k d x l = _
    rw [loopT_is, h.none (Nat.le_refl k)]
/-- A sign that binds so tight: what stands behind it, and more. -/
theorem rest_sign {d m : Nat} {x : Nd} {l r : List Tok} {t : Tok} (hs : signAt m l = some (t, r)) (hm : m ≤ 4) (hn : NoSign (m + 1) l) : ∀ i j k : Nat, k + j = 5 → k + i = m → restJ e j d x l = bindT (exprT e (m + 1) d r) fun y q => restJ e j d (.mk 19 0 t.pos t.text [x, y]) q
  | 0, j, k, hk, hi => by
    obtain rfl : k = m := by omega
    obtain ⟨j, rfl⟩ : ∃ j', j = j' + 1 := ⟨j - 1, by omega⟩
    have h4 : 4 - j = k := by omega
    rw [restJ, rest_none j (k + 1) (by omega) hn, h4]
    show loopT e k d x l = _
    rw [loopT_is, hs]
    simp only
    cases he : exprT e (k + 1) d r with
    | error f => rfl
    | ok z =>
      obtain ⟨y, q⟩ := z
      simp only [bindT]
      rw [restJ, rest_none j (k + 1) (by omega) (expr_ns j (k + 1) (by omega) d r y q he), h4]
      rfl
  | i + 1, j, k, hk, hi => by
    obtain ⟨j, rfl⟩ : ∃ j', j = j' + 1 := ⟨j - 1, by omega⟩
    rw [restJ, rest_sign hs hm hn i j (k + 1) (by omega) (by omega), bindT_assoc]
    rfl
end
end

end Go.Proofs.YtggfbfjdiikaeaaGreatDoor
