/-
  The program's parser: what is next, its fault, what opens and shuts.
  The program's parser: what stands next, what opens and shuts, a token that is taken, a node that is added.
-/
import Derived.Test.YtclnjhffcfkihaeGreatDoorSqA
import Derived.Test.YtclnjhffcfkihaeGreatDoorBase
import Derived.Test.YtclnjhffcfkihaeGreatDoorShelf
namespace Go.Proofs.YtclnjhffcfkihaeGreatDoor
section
open Go.RowKit

/-- What is given up with. -/
def badF (q : Int × Int) : List PanicEntry := [{ v := .iface 25 (.agg #[.int .i64 q.1, .int .i64 0, .int .i64 q.2]), recovered := false }]
theorem dec_head9 (u : Nat) : ∃ b r, Lib.decDigits u = b :: r ∧ isDig b = true := by
  obtain ⟨h1, h2, _⟩ := dec_digs u u (Nat.le_refl _)
  cases hc : Lib.decDigits u with
  | nil => exact absurd hc h2
  | cons b r =>
    rw [hc] at h1
    simp only [List.all_cons, Bool.and_eq_true] at h1
    exact ⟨b, r, rfl, h1.1⟩
theorem fld0 (a b c d : Value) (w : World) : (Instr.field 66 (.agg #[a, b, c, d]) 0).run Tryz.prog w = .ok a w := by kernel_rfl
theorem fld1 (a b c d : Value) (w : World) : (Instr.field 66 (.agg #[a, b, c, d]) 1).run Tryz.prog w = .ok b w := by kernel_rfl
theorem fld2 (a b c d : Value) (w : World) : (Instr.field 66 (.agg #[a, b, c, d]) 2).run Tryz.prog w = .ok c w := by kernel_rfl
theorem fld3 (a b c d : Value) (w : World) : (Instr.field 66 (.agg #[a, b, c, d]) 3).run Tryz.prog w = .ok d w := by kernel_rfl
section
variable {C : Cx9} {w w' : World} {d : Nat} {bx : Option (Nat × Obj)} {ps : List (List Int × Value)} {l : List Tok} {rows : List Row}
set_option maxRecDepth 100000 in
set_option maxHeartbeats 1600000 in
theorem qnext (h : GoP C w d bx ps l rows) :
    Calls Tryz.prog 57 #[.pointer (some ⟨C.P, 0, none⟩)] w fun e w' => e = .returned (.agg #[.int .i64 (tokE C.E l).kind, .int .i64 (tokE C.E l).num, .int .i64 (tokE C.E l).pos, .string ⟨⟨(tokE C.E l).text⟩⟩]) ∧ Below w.heap.size w w' := by
  obtain ⟨lv, i, ys, h⟩ := h
  have hle := h.q.le
  have hfew := h.q.few
  have hP := h.q.lt
  have c0 := h.q.c0
  have c1 := h.q.c1
  obtain ⟨g, tc, htv, hgP, hgl, t0, t1, t2, t3⟩ := h.q.tok
  rw [h.is] at t0 t1 t2 t3
  rw [htv] at c0
  obtain ⟨⟨k, n, p, t⟩, ht⟩ : ∃ x, tokE C.E l = x := ⟨_, rfl⟩
  rw [ht] at t0 t1 t2 t3 ⊢
  simp only at t0 t1 t2 t3 ⊢
  have hlt : (i : Int) < ((C.T.length + 1 : Nat) : Int) := by omega
  clear h ht htv
  go_enter Tryz.func57, Tryz.ntmps57
  go_wp2_with fail
  go_region
  go_wp2_with fail
  refine bodyPost_ret (v := .agg #[.int .i64 k, .int .i64 n, .int .i64 p, .string ⟨⟨t⟩⟩]) (by simp [results, Tryz.results57, go_sem]) rfl ⟨rfl, ?_⟩
  exact ((Below.refl _ _).alloc (Nat.le_refl _) _).drew
set_option maxRecDepth 100000 in
set_option maxHeartbeats 1600000 in
theorem qfault (h : GoP C w d bx ps l rows) (code : Int) :
    Calls Tryz.prog 58 #[.pointer (some ⟨C.P, 0, none⟩), .int .i64 code] w fun e w' => e = .returned (.agg #[.int .i64 code, .int .i64 0, .int .i64 (posOf C.E l)]) ∧ Below w.heap.size w w' := by
  rw [← tokE_pos]
  have hA := (Below.refl w.heap.size w).alloc (Nat.le_refl _) (.cells #[.int .i64 0, .int .i64 0, .int .i64 0] 25)
  have HN := Hid.out (p := Hid _) (qnext (h.below hA))
  have HA := Hid.out (p := Hid _) hA
  clear h hA
  have hfd := fld2
  go_enter Tryz.func58, Tryz.ntmps58
  go_wp2_with (go_at_call 57; refine Calls.mono HN.out ?_; rintro e w1 ⟨rfl, hb⟩; have hx := (hb.block w.heap.size (by simp)).trans (heap_alloc_new w _); have p0 := box_cell (i := 0) (u := .int .i64 0) hx rfl; have p1 := box_cell (i := 1) (u := .int .i64 0) hx rfl; have p2 := box_cell (i := 2) (u := .int .i64 0) hx rfl; have pf := (fun j => box_free (i := j) hx); have HB := Hid.out (p := Hid _) (HA.out.trans (hb.mono HA.out.size)); clear hx hb)
  refine bodyPost_ret (v := .agg #[.int .i64 code, .int .i64 0, .int .i64 (tokE C.E l).pos]) (by simp [results, Tryz.results58, go_sem, p0, p1, p2]) rfl ⟨rfl, ?_⟩
  exact ((HB.out.setCell (Nat.le_refl _) _).setCell (Nat.le_refl _) _).setCell (Nat.le_refl _) _
/-- The parser's token by its text: a word or a sign. -/
def isLit (s : List UInt8) : Prop := isWord s = true ∨ s ∈ twoL ∨ ∃ b, s = [b] ∧ b ∈ oneS
theorem lit_text {s : List UInt8} (hs : isLit s) (hl : ToksOk l) : decide ((tokE C.E l).text = s) = isTok s l := by
  have hne : s ≠ [] := by
    rintro rfl
    rcases hs with h | h | ⟨b, h, _⟩
    · revert h; decide
    · revert h; decide
    · cases h
  match l, hl with
  | [], _ => simp [tokE, endT, isTok, hne.symm]
  | t :: r, hl =>
    have ht := hl t (List.mem_cons_self ..)
    simp only [tokE, isTok]
    by_cases he : t.text = s
    · subst he
      rcases ht with ⟨h1, _, h2⟩ | ⟨h1, _, h2⟩ | ⟨h1, h2, h3, h4⟩ | ⟨h1, _, h2⟩
      · exfalso
        obtain ⟨⟨b, r, hb, hl1, hl2⟩, _, hw⟩ := h2
        rcases hs with h | h | ⟨c, h, hc⟩
        · rw [h] at hw; cases hw
        · rw [hb] at h
          simp only [twoL, List.mem_cons, List.cons.injEq, List.not_mem_nil, or_false] at h
          rcases h with h | h | h | h | h | h <;> (obtain ⟨rfl, _⟩ := h; revert hl1; decide)
        · rw [hb] at h
          simp only [List.cons.injEq] at h
          obtain ⟨rfl, _⟩ := h
          revert hl1 hc
          simp only [oneS, List.mem_cons, List.not_mem_nil, or_false]
          intro h1 h2
          rcases h2 with rfl | rfl | rfl | rfl | rfl | rfl | rfl | rfl | rfl | rfl | rfl | rfl | rfl <;> (revert h1; decide)
      · simp [h1]
      · exfalso
        obtain ⟨b, r, hb, hd⟩ := dec_head9 t.num.toNat
        rw [h4, hb] at hs
        rcases hs with h | h | ⟨c, h, hc⟩
        · obtain ⟨c, q, hc, hlt, _⟩ := word_letters h
          simp only [List.cons.injEq] at hc
          obtain ⟨rfl, _⟩ := hc
          revert hlt hd
          simp only [isLet, isDig]
          intro h5 h6
          simp at h5 h6
          omega
        · simp only [twoL, List.mem_cons, List.cons.injEq, List.not_mem_nil, or_false] at h
          rcases h with h | h | h | h | h | h <;> (obtain ⟨rfl, _⟩ := h; revert hd; decide)
        · simp only [List.cons.injEq] at h
          obtain ⟨rfl, _⟩ := h
          revert hd hc
          simp only [oneS, List.mem_cons, List.not_mem_nil, or_false]
          intro h1 h2
          rcases h2 with rfl | rfl | rfl | rfl | rfl | rfl | rfl | rfl | rfl | rfl | rfl | rfl | rfl <;> (revert h1; decide)
      · simp [h1]
    · simp [he]
end
end

section
open Go.RowKit

/-- Does one of these stand next? -/
def litB (zs : List ByteArray) (l : List Tok) : Bool := zs.any fun z => isTok z.data.toList l
section
variable {C : Cx9} {w w' : World} {d : Nat} {bx : Option (Nat × Obj)} {ps : List (List Int × Value)} {l : List Tok} {rows : List Row}
theorem has_is (zs : List ByteArray) (hlit : ∀ z, z ∈ zs → isLit z.data.toList) (hl : ToksOk l) : Lib.containsS zs ⟨⟨(tokE C.E l).text⟩⟩ = litB zs l := by
  rw [Bool.eq_iff_iff, Lib.containsS_iff]
  unfold litB
  rw [List.any_eq_true]
  constructor
  · intro h
    refine ⟨_, h, ?_⟩
    rw [← lit_text (C := C) (hlit _ h) hl]
    simp
  · rintro ⟨z, hz, h⟩
    rw [← lit_text (C := C) (hlit z hz) hl] at h
    have h2 : (tokE C.E l).text = z.data.toList := by simpa using h
    rw [h2]
    exact hz
set_option maxRecDepth 100000 in
set_option maxHeartbeats 1600000 in
theorem qis (h : GoP C w d bx ps l rows) (g n : Nat) (zs : List ByteArray) (hn : n = zs.length) (hn2 : n ≤ 100) (hz : w.heap[g]? = some (.cells (zs.map Value.string).toArray 9)) (hlit : ∀ z, z ∈ zs → isLit z.data.toList) :
    Calls Tryz.prog 54 #[.pointer (some ⟨C.P, 0, none⟩), .slice (some ⟨g, 0, none⟩) n n] w fun e w' => e = .returned (.bool (litB zs l)) ∧ Below w.heap.size w w' := by
  subst hn
  have hfw := h.fewR
  have HN := Hid.out (p := Hid _) (qnext h)
  have HI : Hid (∀ w1, Below w.heap.size w w1 → Calls Tryz.prog 87 #[.slice (some ⟨g, 0, none⟩) zs.length zs.length, .string ⟨⟨(tokE C.E l).text⟩⟩] w1 fun e w' => e = .returned (.bool (litB zs l)) ∧ w' = w1) := fun w1 hb => by
    have hg : g < w.heap.size := by
      rcases Nat.lt_or_ge g w.heap.size with h1 | h1
      · exact h1
      · rw [Array.getElem?_eq_none h1] at hz; cases hz
    have hk := Tryz.slices_Contains_string g 0 zs.length zs.length zs ⟨⟨(tokE C.E l).text⟩⟩ w1 (Nat.le_refl _) (by omega) (fun j hj => by
      refine box_cell ((hb.block g hg).trans hz) ?_
      simp [hj, List.getD_eq_getElem?_getD])
    rw [List.take_length, has_is zs hlit hfw.2.2.2] at hk
    exact hk
  have hfd := fld3
  clear h hz hlit hfw
  go_enter Tryz.func54, Tryz.ntmps54
  go_wp2_with (first
    | (go_at_call 57; refine Calls.mono HN.out ?_; rintro e w1 ⟨rfl, hb⟩; have HB := Hid.out (p := Hid _) hb; clear hb)
    | (go_at_call 87; refine Calls.mono (HI.out _ HB.out) ?_; rintro e w2 ⟨rfl, rfl⟩))
  go_ret
  exact ⟨rfl, HB.out⟩
set_option maxRecDepth 100000 in
set_option maxHeartbeats 1600000 in
theorem qopen_no (h : GoP C w 20 bx ps l rows) :
    Calls Tryz.prog 115 #[.pointer (some ⟨C.P, 0, none⟩)] w fun e w' => e = .panicked (badF (6, posOf C.E l)) ∧ FrP C w' := by
  have HF := Hid.out (p := Hid _) (qfault h 6)
  have HH := Hid.out (p := Hid _) h
  obtain ⟨lv, i, ys, h⟩ := h
  have c2 := h.q.c2
  clear h
  go_enter Tryz.func115, Tryz.ntmps115
  go_wp2_with (go_at_call 58; refine Calls.mono HF.out ?_; rintro e w1 ⟨rfl, hb⟩)
  exact ⟨rfl, rfl, HH.out.frp.below hb⟩
variable {lv : Value} {i : Nat} {ys : List (Row × Value)}
set_option maxRecDepth 100000 in
set_option maxHeartbeats 1600000 in
theorem qopen_yes (h : GpL C w d bx ps l rows lv i ys) (hd : d ≠ 20) :
    Calls Tryz.prog 115 #[.pointer (some ⟨C.P, 0, none⟩)] w fun e w' => e = .returned (.tuple #[]) ∧ w'.heap[C.P]? = some (.cells #[C.tv, .int .i64 (i : Int), .int .i64 ((d + 1 : Nat) : Int), lv] 68) ∧ Only C.P w w' := by
  have hdl := h.q.dle
  have h20 : ((d : Int) == 20) = false := by simp; omega
  have c2 := h.q.c2
  have kf := h.q.free
  have HL := Hid.out (p := Hid _) h
  clear h
  go_enter Tryz.func115, Tryz.ntmps115
  go_wp2_with fail
  go_end0
  exact ⟨rfl, heap_set9 HL.out.q.box, (Only.refl _ _).set _ _⟩
set_option maxRecDepth 100000 in
set_option maxHeartbeats 1600000 in
theorem qshut (h : GpL C w (d + 1) bx ps l rows lv i ys) :
    Calls Tryz.prog 116 #[.pointer (some ⟨C.P, 0, none⟩)] w fun e w' => e = .returned (.tuple #[]) ∧ w'.heap[C.P]? = some (.cells #[C.tv, .int .i64 (i : Int), .int .i64 (d : Int), lv] 68) ∧ Only C.P w w' := by
  have hdl := h.q.dle
  have c2 := h.q.c2
  have kf := h.q.free
  have HL := Hid.out (p := Hid _) h
  have hs : ((d + 1 : Nat) : Int) - 1 = (d : Int) := by omega
  clear h
  go_enter Tryz.func116, Tryz.ntmps116
  go_wp2_with fail
  go_end0
  have hx := heap_set9 (i := 2) (u := .int .i64 (d : Int)) HL.out.q.box
  first
    | exact ⟨rfl, hx, (Only.refl _ _).set _ _⟩
    | (refine ⟨rfl, ?_, (Only.refl _ _).set _ _⟩; rw [← hs] at hx; exact hx)
end
end

end Go.Proofs.YtclnjhffcfkihaeGreatDoor
