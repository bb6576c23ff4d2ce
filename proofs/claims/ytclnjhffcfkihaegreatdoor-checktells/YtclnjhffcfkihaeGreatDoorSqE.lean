/-
  The program's checker: how many of a kind.
  The program's parser: a node that is added.
  The program's parser: words and signs that are asked for, a token of a kind.
-/
import Derived.Test.YtclnjhffcfkihaeGreatDoorChkD7
import Derived.Test.YtclnjhffcfkihaeGreatDoorSqD
import Derived.Deep.LoopGhost
namespace Go.Proofs.YtclnjhffcfkihaeGreatDoor
section
open Go.RowKit

section
variable {w0 w : World} {a : Option Addr} {c : Nat} {rows : List Row} {P : Nat} {v : Rk → Value} {ms : List Nat} {cm : Nat} {s : Cs}
set_option maxRecDepth 100000 in
set_option maxHeartbeats 3200000 in
theorem ccount_any (h : CPs w0 w a c rows P v ms cm s) {i : Nat} (hi : i < rows.length) {k : Nat} (hk : (rowA rows i).kind = (k : Int)) (hk3 : k = 2 ∨ k = 3 ∨ k = 4) (m : Nat) (hle : s.cn (k : Int) ≤ m) (hm : m ≤ 16) (hcn : ∀ k, s.cn k ≤ 16) :
    Calls Tryz.prog 127 #[.pointer (some ⟨P, 0, none⟩), .int .i64 (i : Int), .int .i64 (m : Int)] w fun e w' => PQ w0 a c rows P s.sc.length (mostC rows i m s) e w' ∧ KpC w w' := by
  obtain ⟨n, D, hn, hown, hat⟩ := h.cnt
  obtain ⟨g, ka, kc, rfl, hnd⟩ := h.node hi
  have x0 := hnd.k
  rw [hk] at x0
  have c0 := h.c0
  have c3 := h.c3
  obtain ⟨q, hq⟩ : ∃ q : Nat, s.cn (k : Int) = q := ⟨_, rfl⟩
  have hk30 : k < 30 := by omega
  have hkey : keyOf Tryz.prog 3 (.int .i64 (k : Int)) = some (.int .i64 (k : Int)) := Maps.keyOf_int_mk Tryz.underlying3 (wf_nat9 (by omega))
  have HAT : Hid (D.atKey (.int .i64 (k : Int)) (.lit (.int .i64 0)) = .lit (.int .i64 (q : Int))) := by
    show _ = _
    rw [hat (k : Int) (by omega) (by omega), hq]
  have hnb : n ≤ 48 := by have := hcn 2; have := hcn 3; have := hcn 4; omega
  have HNM : Hid (n < maxLen) := by show _ < _; unfold maxLen; omega
  have HFL : Hid (Calls Tryz.prog 77 #[.pointer (some ⟨P, 0, none⟩), .int .i64 1, .int .i64 (i : Int)] w fun e w' => e = .returned (.agg #[.int .i64 1, .int .i64 0, .int .i64 (rowA rows i).pos]) ∧ Below w.heap.size w w') := cfault_any h hi 1
  have HPU : Hid (∀ w', w'.ownsMap Tryz.prog 3 (plainElem (H := Unit) Tryz.prog 3) cm (n + 1) (D.put (.int .i64 (k : Int)) (.lit (.int .i64 ((q : Int) + 1)))) → w.grownBy w' (some cm) → CPs w0 w' (some ⟨g, 0, none⟩) c rows P v ms cm (moreC s (k : Int)) ∧ KpC w w') := fun w' ho hg => by
    obtain ⟨f1, f2, f3, f4⟩ := h.famMap (List.mem_cons_self ..) hg
    have hnod := h.nod
    refine ⟨⟨?_, h.box, f2, h.nds, h.len, fun j S b h1 h2 => ?_, ?_, h.ge, hnod⟩, f3⟩
    · refine f1.same (fun r => ?_) (fun r => ?_) <;> cases r <;> rfl
    · refine (h.maps j S b h1 h2).keep (f4 b (List.mem_cons_of_mem _ (List.mem_of_getElem? h2)) (fun e => ?_))
      exact (List.nodup_cons.1 hnod).1 (by rw [← e]; exact List.mem_of_getElem? h2)
    · refine ⟨n + 1, _, ?_, ho, fun j hj0 hj3 => ?_⟩
      · have e : ∀ j : Int, (moreC s (k : Int)).cn j = if j = (k : Int) then s.cn (k : Int) + 1 else s.cn j := fun j => rfl
        rw [e, e, e]
        rcases hk3 with rfl | rfl | rfl
        · rw [if_pos (by decide), if_neg (by decide), if_neg (by decide)]
          have : s.cn ((2 : Nat) : Int) = s.cn 2 := rfl
          omega
        · rw [if_neg (by decide), if_pos (by decide), if_neg (by decide)]
          have : s.cn ((3 : Nat) : Int) = s.cn 3 := rfl
          omega
        · rw [if_neg (by decide), if_neg (by decide), if_pos (by decide)]
          have : s.cn ((4 : Nat) : Int) = s.cn 4 := rfl
          omega
      · show _ = DataW.lit (.int .i64 (((if j = (k : Int) then s.cn (k : Int) + 1 else s.cn j) : Nat) : Int))
        by_cases hj : j = (k : Int)
        · subst hj
          have hkl : WideAt.IsKeyLit (.int .i64 (k : Int)) := trivial
          rw [if_pos rfl, Maps.atKey_put_same hown.isMap hkl, hq]
          rfl
        · rw [if_neg hj, Maps.atKey_put_other (fun e => hj (by simpa using e))]
          exact hat j hj0 hj3
  have HVL : Hid (plainElem (H := Unit) Tryz.prog 3 (.int .i64 ((q : Int) + 1)) = some (.lit (.int .i64 ((q : Int) + 1)), [])) := by
    show _ = _
    have := plainElem_int (H := Unit) (P := Tryz.prog) Tryz.underlying3 (wf_nat9 (n := q + 1) (by omega))
    simpa using this
  have HO := Hid.out (p := Hid _) hown
  have HW := Hid.out (p := Hid _) h.weak
  have hi' : (i : Int) < (rows.length : Int) := by omega
  have hq16 : q ≤ 16 := by omega
  have HR : Hid (mostC rows i m s = if m ≤ q then .error (1, (rowA rows i).pos) else .ok (moreC s (k : Int))) := by
    show _ = _
    unfold mostC
    rw [hk, hq]
  have HLE : Hid (q ≤ m) := by show _ ≤ _; omega
  clear h hown hat hnd hi hk hk3 hle hcn hn hq
  by_cases hqm : q = m
  · have hb : ((q : Int) == (m : Int)) = true := by simp [hqm]
    have HQM := Hid.out (p := Hid _) hqm
    clear hqm
    go_enter Tryz.func127, Tryz.ntmps127
    go_wp2_with (at_lookup; refine wpList_lookup_own_int _ rfl _ _ 81 rfl 3 3 .i64 keyInt Tryz.underlying81 Tryz.underlying3 (zeroIntC _) cm n D rfl HO.out _ _ rfl hkey ?_; intro cx hatx hwx; have hcx : cx = (q : Int) := (by have := hatx.symm.trans HAT.out; simpa using this); clear hatx hwx; subst hcx)
    refine Calls.mono HFL.out ?_
    rintro e w2 ⟨rfl, hb2⟩
    have HB2 := Hid.out (p := Hid _) hb2
    clear hb2
    go_wp2_with fail
    rw [HR.out, if_pos (show m ≤ q by rw [HQM.out]; exact Nat.le_refl _)]
    exact ⟨rfl, ⟨rfl, HW.out.below HB2.out⟩, KpC.of_below HB2.out⟩
  · have hb : ((q : Int) == (m : Int)) = false := by simp only [beq_eq_false_iff_ne, ne_eq]; omega
    have HR2 : Hid (mostC rows i m s = .ok (moreC s (k : Int))) := by
      show _ = _
      have h1 := HLE.out
      rw [HR.out, if_neg (show ¬ m ≤ q by omega)]
    clear hqm HLE HR
    go_enter Tryz.func127, Tryz.ntmps127
    go_wp2_with (first | (at_lookup; refine wpList_lookup_own_int _ rfl _ _ 81 rfl 3 3 .i64 keyInt Tryz.underlying81 Tryz.underlying3 (zeroIntC _) cm n D rfl HO.out _ _ rfl hkey ?_; intro cx hatx hwx; have hcx : cx = (q : Int) := (by have := hatx.symm.trans HAT.out; simpa using this); clear hatx hwx; subst hcx) | (at_mapUpdate; refine wpList_mapUpdate_own _ rfl _ _ _ 81 rfl 3 3 keyInt Tryz.underlying81 _ cm n D rfl HO.out HNM.out _ _ _ rfl rfl hkey _ [] HVL.out ?_; intro w4 hm4 hg4; have HZ := Hid.out (p := Hid _) (HPU.out _ hm4 hg4); clear hm4 hg4))
    go_end0
    rw [HR2.out]
    exact ⟨⟨rfl, _, _, _, HZ.out.1⟩, HZ.out.2⟩
end
end

section
open Go.RowKit

attribute [local go_sem ↓] appS_eq

section
variable {C : Cx9} {w w' : World} {d : Nat} {bx : Option (Nat × Obj)} {ps : List (List Int × Value)} {l : List Tok} {rows : List Row} {lv : Value} {i : Nat} {ys : List (Row × Value)}
set_option maxRecDepth 100000 in
set_option maxHeartbeats 1600000 in
theorem qadd_raw (h : GpL C w d bx ps l rows lv i ys) (k n p : Int) (t : List UInt8) (ks : List Int) (ka : Option Addr) (kn kc : Nat) :
    Calls Tryz.prog 59 #[.pointer (some ⟨C.P, 0, none⟩), .agg #[.int .i64 k, .int .i64 n, .int .i64 p, .string ⟨⟨t⟩⟩, .slice ka kn kc]] w fun e w' => e = .returned (.int .i64 (ys.length : Int)) ∧ ∃ lv', Qs w' C.P C.T C.E i d C.tv lv' ∧ Lst w' C.B C.P C.tv lv' (ys ++ [(⟨k, n, p, t, ks⟩, .slice ka kn kc)]) ∧ FrN C.P w lv w' lv' := by
  have hfew := h.few
  have hT := h.q.few
  have c3 := h.q.c3
  have kf := h.q.free
  have hPl := h.q.lt
  have hB := h.lst.low
  have hP := h.lst.apart
  have hown := h.lst.own
  have HQ := Hid.out (p := Hid _) h.q
  have HL := Hid.out (p := Hid _) h.lst
  obtain ⟨la, lc, rfl⟩ := owns_slice hown
  clear h
  have hb2 : Below w.heap.size w ((w.alloc (.cells #[.int .i64 k, .int .i64 n, .int .i64 p, .string ⟨⟨t⟩⟩, .slice ka kn kc] 53)).drew) := ((Below.refl _ _).alloc (Nat.le_refl _) _).drew
  obtain ⟨g, cap, w3, r1, r2, r3, r4⟩ := app_row (T := 22) Tryz.underlying22 infoNod rfl (by omega) hown hb2 hB 1 #[.int .i64 k, .int .i64 n, .int .i64 p, .string ⟨⟨t⟩⟩, .slice ka kn kc] rfl (by simp [Value.oneCell']) (by omega) (by omega) (by omega)
  have es : ((w.alloc (.cells #[.int .i64 k, .int .i64 n, .int .i64 p, .string ⟨⟨t⟩⟩, .slice ka kn kc] 53)).drew).heap.size = w.heap.size + 1 := by simp
  rw [es] at r1 r4
  replace r1 : (AppS #[22, 22] 22 #[.slice la ys.length lc, .slice (some ⟨w.heap.size + 1, 0, none⟩) 1 1]).run Tryz.prog (((w.alloc (.cells #[.int .i64 k, .int .i64 n, .int .i64 p, .string ⟨⟨t⟩⟩, .slice ka kn kc] 53)).alloc (.cells #[.int .i64 k, .int .i64 n, .int .i64 p, .string ⟨⟨t⟩⟩, .slice ka kn kc] 53)).drew) = .ok (.slice (some ⟨g, 0, none⟩) (ys.length + 1) cap) w3 := r1
  have d3 : w3.cell? ⟨C.P, 3, none⟩ = some (.slice la ys.length lc) := (r3.cell_far ⟨C.P, 3, none⟩ (by simp; omega) (fun e => hP e.symm)).trans (cell_up (cell_drw (cell_up c3 _)) _)
  have df : ∀ j, w3.frozen? ⟨C.P, j, none⟩ = false := fun j => (r3.frozen_far ⟨C.P, j, none⟩ (by simp; omega) (fun e => hP e.symm)).trans ((hb2.alloc (by simp) _).frozen (p := ⟨C.P, j, none⟩) hPl |>.trans (kf j))
  have HR : Hid (w3.ownsRow C.B 53 5 (.slice (some ⟨g, 0, none⟩) (ys.length + 1) cap) (ys.length + 1) (nodsV ys ++ (#[.int .i64 k, .int .i64 n, .int .i64 p, .string ⟨⟨t⟩⟩, .slice ka kn kc] : Array Value).toList)) := r2
  have HG := Hid.out (p := Hid _) (And.intro r3 r4)
  have hys : ys.length ≤ 4000 := by omega
  clear r2 r3 r4 es hb2 hown
  go_enter Tryz.func59, Tryz.ntmps59
  go_wp2_with fail
  go_region
  all_goals go_wp2_with fail
  go_ret
  obtain ⟨r3, r4⟩ := HG.out
  have hgP : g ≠ C.P := by
    rcases r4 with r4 | r4
    · exact fun e => hP (by rw [r4, e])
    · omega
  have hblk : ∀ j, j < w.heap.size → some j ≠ (Value.slice la ys.length lc).ownBlock → w3.heap[j]? = w.heap[j]? := fun j hj hne => by
    refine (r3.block j (by simp; omega) hne).trans ?_
    exact ((((Below.refl w.heap.size w).alloc (Nat.le_refl _) _).drew).alloc (by simp) _).block j hj
  have hPb : w3.heap[C.P]? = w.heap[C.P]? := hblk C.P hPl fun e => hP e.symm
  have hfr : FrN C.P w (.slice la ys.length lc) (w3.setCell ⟨C.P, 3, none⟩ (.slice (some ⟨g, 0, none⟩) (ys.length + 1) cap)) (.slice (some ⟨g, 0, none⟩) (ys.length + 1) cap) := by
    refine ⟨r3.os, r3.tape, r3.output, ?_, fun j hj hjP hne => (Below.heap_setCell _ _ _ _ hjP).trans (hblk j hj hne), ?_⟩
    · have := r3.size
      simp at this ⊢
      omega
    · rcases r4 with r4 | r4
      · exact Or.inl (by rw [r4]; rfl)
      · refine Or.inr fun j hj => ?_
        have : g = j := by simpa [Value.ownBlock] using hj
        omega
  refine ⟨ret_int (by omega), _, ⟨heap_set9 (hPb.trans HQ.out.box), ?_, HQ.out.apart, HQ.out.le, HQ.out.few, HQ.out.okt, HQ.out.dle⟩, ⟨?_, Nat.le_trans HL.out.low hfr.size, ?_, fun j hj ht => ?_⟩, hfr⟩
  · exact fam_keeps HQ.out.toks fun j hj => hfr.block j (HQ.out.toks.lt j hj).2 (fun e => HQ.out.apart (by rw [hj, e])) fun e => HL.out.far j e.symm hj
  · unfold OwnN
    rw [List.length_append, nodsV_snoc]
    exact fam_keeps HR.out fun j hj => Below.heap_setCell _ _ _ _ (by
      have : g = j := by simpa [Value.ownBlock] using hj
      rw [← this]; exact hgP)
  · intro e
    exact hgP (by simpa [Value.ownBlock] using e)
  · rcases hfr.own with h5 | h5
    · exact HL.out.far j (h5 ▸ hj) ht
    · have := h5 j hj
      have := (HQ.out.toks.lt j ht).2
      omega
/-- One more node. -/
theorem qadd (h : GoP C w d bx ps l rows) (k n p : Int) (t : List UInt8) (ks : List Int) (ka : Option Addr) (kn kc : Nat) (hk : (ks, Value.slice ka kn kc) ∈ ps ∨ (ks = [] ∧ Value.slice ka kn kc = nilV)) (hfew : rows.length + 1 + l.length ≤ C.T.length) (ps' : List (List Int × Value) := []) (hps : ∀ p, p ∈ ps' → p ∈ ps ∧ ∀ g, (Value.slice ka kn kc).ownBlock = some g → p.2.ownBlock ≠ some g := by simp) :
    Calls Tryz.prog 59 #[.pointer (some ⟨C.P, 0, none⟩), .agg #[.int .i64 k, .int .i64 n, .int .i64 p, .string ⟨⟨t⟩⟩, .slice ka kn kc]] w fun e w' => e = .returned (.int .i64 (rows.length : Int)) ∧ GoP C w' d bx ps' l (rows ++ [⟨k, n, p, t, ks⟩]) := by
  obtain ⟨lv, i, ys, h⟩ := h
  have hl : ys.length = rows.length := by rw [← h.map, List.length_map]
  refine (qadd_raw h k n p t ks ka kn kc).mono ?_
  rintro e w' ⟨rfl, lv', hq, hl', hfr⟩
  refine ⟨by rw [hl], lv', i, _, h.fr.trans hfr, fun z hz => (h.bx z hz).fr hfr, fun p hp => ⟨(h.ps p (hps p hp).1).kd.fr hfr, (h.ps p (hps p hp).1).new⟩, hq, h.is, hl', fun x hx => ?_, by simp; omega, by rw [List.map_append, h.map]; rfl, fun y hy g hg => ?_⟩
  · rcases List.mem_append.1 hx with hx | hx
    · exact (h.kid x hx).fr hfr
    · obtain rfl : x = (⟨k, n, p, t, ks⟩, .slice ka kn kc) := by simpa using hx
      rcases hk with hk1 | ⟨rfl, hk1⟩
      · have := ((h.ps _ hk1).kd).fr hfr
        exact ⟨this.own, this.apart, this.far⟩
      · rw [hk1]; exact kd_none _ _ _ _ _ _ _
  · rcases List.mem_append.1 hy with hy | hy
    · exact ⟨(h.kb y hy g hg).1, fun p hp => (h.kb y hy g hg).2 p (hps p hp).1⟩
    · obtain rfl : y = (⟨k, n, p, t, ks⟩, .slice ka kn kc) := by simpa using hy
      rcases hk with hk1 | ⟨_, hk1⟩
      · exact ⟨Or.inr ((h.ps _ hk1).new g hg), fun p hp => (hps p hp).2 g hg⟩
      · simp only [hk1] at hg
        simp [Value.ownBlock] at hg
end
end

section
open Go.RowKit

/-- What opens, what shuts. -/
def opB (z : List UInt8) : Prop := z = [40] ∨ z = [123]
def shB (z : List UInt8) : Prop := z = [41] ∨ z = [125]
instance (z : List UInt8) : Decidable (opB z) := inferInstanceAs (Decidable (_ ∨ _))
instance (z : List UInt8) : Decidable (shB z) := inferInstanceAs (Decidable (_ ∨ _))
/-- How many things are open behind it. -/
def stepD (z : List UInt8) (d : Nat) : Nat := if opB z then d + 1 else if shB z then d - 1 else d
/-- Words and signs that are asked for, one behind the other. -/
def wordsR (E : Int) : Nat → List (List UInt8) → List Tok → Except (Int × Int) (Nat × List Tok)
  | d, [], l => .ok (d, l)
  | d, z :: zs, l => if isTok z l = true then (if opB z ∧ d = 20 then .error (6, posOf E l) else wordsR E (stepD z d) zs l.tail) else .error (5, posOf E l)
/-- What shuts has been opened. -/
def shOk : Nat → List (List UInt8) → Prop
  | _, [] => True
  | d, z :: zs => (shB z → 1 ≤ d) ∧ shOk (stepD z d) zs
section
variable {C : Cx9} {w w' : World} {d : Nat} {bx : Option (Nat × Obj)} {ps : List (List Int × Value)} {l : List Tok} {rows : List Row}
theorem qtakeL {t : Tok} {r : List Tok} {lv : Value} {i : Nat} {ys : List (Row × Value)} (h : GpL C w d bx ps (t :: r) rows lv i ys) (ho : opB t.text → d ≠ 20) (hs : shB t.text → 1 ≤ d) :
    Calls Tryz.prog 88 #[.pointer (some ⟨C.P, 0, none⟩)] w fun e w' => e = .returned (.agg #[.int .i64 t.kind, .int .i64 t.num, .int .i64 t.pos, .string ⟨⟨t.text⟩⟩]) ∧ w'.heap[C.P]? = some (.cells #[C.tv, .int .i64 ((i + 1 : Nat) : Int), .int .i64 ((stepD t.text d : Nat) : Int), lv] 68) ∧ Only C.P w w' := by
  unfold stepD
  by_cases h1 : opB t.text
  · rw [if_pos h1]
    rcases h1 with h2 | h2
    · exact qtake_oround h h2 (ho (Or.inl h2))
    · exact qtake_ocurly h h2 (ho (Or.inr h2))
  · rw [if_neg h1]
    by_cases h2 : shB t.text
    · rw [if_pos h2]
      have h3 := hs h2
      obtain ⟨d', rfl⟩ : ∃ d', d = d' + 1 := ⟨d - 1, by omega⟩
      rw [Nat.add_sub_cancel]
      rcases h2 with h2 | h2
      · exact qtake_sround h h2
      · exact qtake_scurly h h2
    · rw [if_neg h2]
      exact qtake h (fun e => h1 (Or.inl e)) (fun e => h1 (Or.inr e)) (fun e => h2 (Or.inl e)) (fun e => h2 (Or.inr e))
/-- The parser behind a token. -/
theorem GpL.over {t : Tok} {r : List Tok} {lv : Value} {i : Nat} {ys : List (Row × Value)} (h : GpL C w d bx ps (t :: r) rows lv i ys) (ho : opB t.text → d ≠ 20) (hbx : w'.heap[C.P]? = some (.cells #[C.tv, .int .i64 ((i + 1 : Nat) : Int), .int .i64 ((stepD t.text d : Nat) : Int), lv] 68)) (hon : Only C.P w w') : GoP C w' (stepD t.text d) bx ps r rows := by
  have hdl := h.q.dle
  have hlt : i < C.T.length := by
    rcases Nat.lt_or_ge i C.T.length with h1 | h1
    · exact h1
    · have := h.is; rw [List.drop_eq_nil_of_le h1] at this; cases this
  have hd2 := getD_drop hlt
  rw [h.is] at hd2
  simp only [List.cons.injEq] at hd2
  have hst : stepD t.text d ≤ 20 := by
    unfold stepD
    split
    · rename_i h1
      have := ho h1
      omega
    · split <;> omega
  have hgo := h.only (d' := stepD t.text d) hon (Nat.le_succ i) hlt hst hbx
  rw [← hd2.2] at hgo
  exact hgo
theorem qtake_any {t : Tok} {r : List Tok} (h : GoP C w d bx ps (t :: r) rows) (ho : opB t.text → d ≠ 20) (hs : shB t.text → 1 ≤ d) :
    Calls Tryz.prog 88 #[.pointer (some ⟨C.P, 0, none⟩)] w fun e w' => e = .returned (.agg #[.int .i64 t.kind, .int .i64 t.num, .int .i64 t.pos, .string ⟨⟨t.text⟩⟩]) ∧ GoP C w' (stepD t.text d) bx ps r rows ∧ Only C.P w w' := by
  obtain ⟨lv, i, ys, h⟩ := h
  refine (qtakeL h ho hs).mono ?_
  rintro e w' ⟨rfl, hbx, hon⟩
  exact ⟨rfl, h.over ho hbx hon, hon⟩
theorem qtake_deep {t : Tok} {r : List Tok} (h : GoP C w 20 bx ps (t :: r) rows) (ho : opB t.text) :
    Calls Tryz.prog 88 #[.pointer (some ⟨C.P, 0, none⟩)] w fun e w' => e = .panicked (badF (6, t.pos)) ∧ FrP C w' := by
  rcases ho with h1 | h1
  · exact qtake_dround h h1
  · exact qtake_dcurly h h1
/-- A round of words. -/
structure WdI (C : Cx9) (w wr : World) (bx : Option (Nat × Obj)) (ps : List (List Int × Value)) (rows : List Row) (g : Nat) (zs : List ByteArray) (R : Except (Int × Int) (Nat × List Tok)) (j d : Nat) (l : List Tok) : Prop where
  go : GoP C wr d bx ps l rows
  is : wordsR C.E d ((zs.drop j).map fun z => z.data.toList) l = R
  sh : shOk d ((zs.drop j).map fun z => z.data.toList)
  tx : wr.heap[g]? = some (.cells (zs.map Value.string).toArray 9)
  on : Only C.P w wr
/-- What words and signs leave. -/
def WdQ (C : Cx9) (w : World) (bx : Option (Nat × Obj)) (ps : List (List Int × Value)) (rows : List Row) (R : Except (Int × Int) (Nat × List Tok)) (e : Ending) (w' : World) : Prop :=
  match R with
  | .ok (d', l') => e = .returned (.tuple #[]) ∧ GoP C w' d' bx ps l' rows ∧ Only C.P w w'
  | .error q => e = .panicked (badF q) ∧ FrP C w'
set_option maxRecDepth 100000 in
set_option maxHeartbeats 1600000 in
theorem qwords (h : GoP C w d bx ps l rows) (g n : Nat) (zs : List ByteArray) (hn : n = zs.length) (hn2 : n ≤ 100) (hz : w.heap[g]? = some (.cells (zs.map Value.string).toArray 9)) (hgP : g ≠ C.P) (hlit : ∀ z, z ∈ zs → isLit z.data.toList) (hsh : shOk d (zs.map fun z => z.data.toList)) (R : Except (Int × Int) (Nat × List Tok)) (HR : Hid (wordsR C.E d (zs.map fun z => z.data.toList) l = R)) :
    Calls Tryz.prog 91 #[.pointer (some ⟨C.P, 0, none⟩), .slice (some ⟨g, 0, none⟩) n n] w fun e w' => WdQ C w bx ps rows R e w' := by
  subst hn
  have HI : Hid (WdI C w w bx ps rows g zs R 0 d l) := ⟨h, by simpa using HR.out, by simpa using hsh, hz, Only.refl _ _⟩
  have HLT := Hid.out (p := Hid _) hlit
  clear h hz hlit hsh
  go_enter Tryz.func91, Tryz.ntmps91
  go_wp2_with fail
  go_loopg [8] (zs.length + 1) (fun gh x wr => ∃ j d' l', x = .int .i64 ((j : Nat) : Int) ∧ j ≤ zs.length ∧ zs.length + 1 ≤ gh + j ∧ Hid (WdI C w wr bx ps rows g zs R j d' l'))
  case atStart => exact ⟨0, d, l, rfl, Nat.zero_le _, by omega, HI⟩
  case round =>
    obtain ⟨j, d', l', rfl, hj, hgh, HJ⟩ := hrel
    clear HI
    by_cases hlt : j < zs.length
    · have hlt' : (j : Int) < (zs.length : Int) := by omega
      obtain ⟨z, hz⟩ : ∃ z, zs[j]? = some z := ⟨_, List.getElem?_eq_getElem hlt⟩
      have hzd : zs.drop j = z :: zs.drop (j + 1) := by
        rw [List.drop_eq_getElem_cons hlt]
        rw [List.getElem?_eq_getElem hlt] at hz
        rw [Option.some.inj hz]
      have hzm : z ∈ zs := List.mem_of_getElem? hz
      have hzl := HLT.out z hzm
      have x0 : wr.cell? ⟨g, j, none⟩ = some (.string z) := box_cell HJ.out.tx (by simp [hz])
      have hgl : g < wr.heap.size := lt_of_cell x0
      have his := HJ.out.is
      have hsk := HJ.out.sh
      rw [hzd, List.map_cons] at his hsk
      have hA := (Below.refl wr.heap.size wr).alloc (Nat.le_refl _) (.cells #[.string z] 9)
      have HQI := Hid.out (p := Hid _) (qis (HJ.out.go.below hA) wr.heap.size 1 [z] rfl (by decide) (heap_alloc_new _ _) (fun y hy => by simp at hy; rw [hy]; exact hzl))
      have hlb : litB [z] l' = isTok z.data.toList l' := by simp [litB]
      rw [hlb] at HQI
      have HG := Hid.out (p := Hid _) (HJ.out.go.below hA)
      have HA := Hid.out (p := Hid _) hA
      have HIS := Hid.out (p := Hid _) his
      have HSK := Hid.out (p := Hid _) hsk
      clear his hsk hA hlb hz hzm hzl
      cases hb : isTok z.data.toList l' with
      | false =>
        rw [hb] at HQI
        have hRx : R = .error (5, posOf C.E l') := by
          rw [← HIS.out, wordsR, if_neg (by rw [hb]; decide)]
        clear hb
        go_wp2_with (first
          | (go_at_call 54; refine Calls.mono HQI.out ?_; rintro e w2 ⟨rfl, hb2⟩; have HG2 := Hid.out (p := Hid _) (HG.out.below hb2); clear hb2)
          | (go_at_call 58; refine Calls.mono (qfault HG2.out 5) ?_; rintro e w3 ⟨rfl, hb3⟩; have HF3 : Hid (FrP C w3) := HG2.out.frp.below hb3; clear hb3))
        rw [hRx]
        exact ⟨rfl, rfl, HF3.out⟩
      | true =>
        rw [hb] at HQI
        obtain ⟨t, r, rfl⟩ : ∃ t r, l' = t :: r := by
          cases l' with
          | nil => cases hb
          | cons t r => exact ⟨t, r, rfl⟩
        have htx : t.text = z.data.toList := by
          simp only [isTok, Bool.and_eq_true, decide_eq_true_eq] at hb
          exact hb.2
        by_cases hdp : opB z.data.toList ∧ d' = 20
        · have hRx : R = .error (6, t.pos) := by
            rw [← HIS.out, wordsR, if_pos hb, if_pos hdp]; rfl
          obtain ⟨hop, rfl⟩ := hdp
          rw [← htx] at hop
          have HOP := Hid.out (p := Hid _) hop
          clear hb hop htx
          go_wp2_with (first
            | (go_at_call 54; refine Calls.mono HQI.out ?_; rintro e w2 ⟨rfl, hb2⟩; have HG2 := Hid.out (p := Hid _) (HG.out.below hb2); clear hb2)
            | (go_at_call 88; refine Calls.mono (qtake_deep HG2.out HOP.out) ?_; rintro e w3 ⟨rfl, hf3⟩))
          rw [hRx]
          exact ⟨rfl, rfl, hf3⟩
        · have HRX : Hid (wordsR C.E (stepD t.text d') ((zs.drop (j + 1)).map fun z => z.data.toList) r = R) := by
            show _ = R
            rw [← HIS.out, wordsR, if_pos hb, if_neg hdp, htx]; rfl
          have HOP : Hid (opB t.text → d' ≠ 20) := fun h1 h2 => hdp ⟨htx ▸ h1, h2⟩
          have HSH : Hid ((shB t.text → 1 ≤ d') ∧ shOk (stepD t.text d') ((zs.drop (j + 1)).map fun z => z.data.toList)) := by rw [htx]; exact HSK.out
          clear hb hdp htx
          go_wp2_with (first
            | (go_at_call 54; refine Calls.mono HQI.out ?_; rintro e w2 ⟨rfl, hb2⟩; have HG2 := Hid.out (p := Hid _) (HG.out.below hb2); have HB2 : Hid (Below wr.heap.size wr w2) := HA.out.trans (hb2.mono HA.out.size); clear hb2)
            | (go_at_call 88; refine Calls.mono (qtake_any HG2.out HOP.out HSH.out.1) ?_; rintro e w3 ⟨rfl, hg3, ho3⟩; have HN : Hid (WdI C w w3 bx ps rows g zs R (j + 1) (stepD t.text d') r) := ⟨hg3, HRX.out, HSH.out.2, (ho3.block g (Nat.lt_of_lt_of_le hgl HB2.out.size) hgP).trans ((HB2.out.block g hgl).trans HJ.out.tx), HJ.out.on.trans ((Only.of HB2.out).trans ho3)⟩; clear hg3 ho3))
          go_roundg (gk - 1)
          case rel => exact ⟨j + 1, _, _, by first | rfl | simp, by omega, by omega, HN⟩
          case measure => omega
    · have hlt' : ¬ (j : Int) < (zs.length : Int) := by omega
      have hje : zs.drop j = [] := List.drop_eq_nil_of_le (by omega)
      have HRX : Hid (R = .ok (d', l')) := by
        show R = _
        rw [← HJ.out.is, hje]; rfl
      have HG := Hid.out (p := Hid _) (And.intro HJ.out.go HJ.out.on)
      clear hje
      go_wp2_with fail
      go_end0
      rw [HRX.out]
      exact ⟨rfl, HG.out.1, HG.out.2⟩
end
end

end Go.Proofs.YtclnjhffcfkihaeGreatDoor
