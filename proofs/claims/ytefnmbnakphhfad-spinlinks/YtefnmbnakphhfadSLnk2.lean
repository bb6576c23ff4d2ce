/-
  Words in place of locks, by the program: what is wrong ahead of any change, and what an order becomes.
-/
import Derived.Test.YtefnmbnakphhfadSLnk1
namespace Go.Proofs.Ytefnmbnakphhfad
open Go.RowKit

/-- What is wrong ahead of any change. -/
def refF (c : Int × Int × Int) (m : Nat) (lk rg : Int) : Int × Int × Int := if c.1 ≠ 0 then c else if 6 < rg then (3, 0, 0) else if 64 < (m : Int) + lk then (1, 0, 0) else (0, 0, 0)
set_option maxRecDepth 100000 in
set_option maxHeartbeats 1600000 in
theorem refuse_any (w : World) (ca : Option Addr) (n cc : Nat) (wa : Option Addr) (m wc : Nat) (lk rg : Int) (A : Nat → Option Addr) (L C : Nat → Nat) (X : Nat → Nat → Nat → Int) (hp : PIn w ca n A L C X) (x y z : Int) (hr : refF (chk n L X m lk rg) m lk rg = (x, y, z)) (hb : (chk n L X m lk rg).1 = 0 → m ≤ 64 ∧ 0 ≤ lk ∧ lk ≤ 4) :
    Calls Try.prog 15 #[prgV ca n cc wa m wc lk rg] w fun e w' => e = .returned (ints3 x y z) ∧ Below w.heap.size w w' := by
  obtain ⟨cx, cy, cz, hc⟩ : ∃ a b c, chk n L X m lk rg = (a, b, c) := ⟨_, _, _, rfl⟩
  have HCK : Hid (∀ V, Below w.heap.size w V → Calls Try.prog 21 #[.agg #[.slice ca n cc, .slice wa m wc, .int .i64 lk, .int .i64 rg]] V fun e w' => e = .returned (ints3 cx cy cz) ∧ Below V.heap.size V w') := fun V hV => check_any ca n cc wa m wc lk rg A L C X cx cy cz hc V (hp.below hV)
  rw [hc] at hr hb
  simp only at hb
  have HR := Hid.out (p := Hid _) hr
  clear hp hc hr
  obtain ⟨W0, hW0⟩ : ∃ V, (w.alloc (.cells #[.slice ca n cc, .slice wa m wc, .int .i64 lk, .int .i64 rg] 25)).alloc (.cells #[.int .i64 0, .int .i64 0, .int .i64 0] 29) = V := ⟨_, rfl⟩
  have hB0 : Boxes W0 w.heap.size ca n cc wa m wc lk rg := by rw [← hW0]; exact boxes_made w ca n cc wa m wc lk rg _ _
  have hb0 : Below w.heap.size w W0 := by rw [← hW0]; exact ((Below.refl _ _).alloc (Nat.le_refl _) _).alloc (by simp) _
  have hx0 : W0.heap[w.heap.size + 1]? = some (.cells #[.int .i64 0, .int .i64 0, .int .i64 0] 29) := by
    rw [← hW0]
    have := heap_alloc_new (w.alloc (.cells #[.slice ca n cc, .slice wa m wc, .int .i64 lk, .int .i64 rg] 25)) (.cells #[.int .i64 0, .int .i64 0, .int .i64 0] 29)
    simpa using this
  have HW0 := Hid.out (p := Hid _) hW0
  have H0 : Hid (Boxes W0 w.heap.size ca n cc wa m wc lk rg ∧ Below w.heap.size w W0 ∧ W0.heap[w.heap.size + 1]? = some (.cells #[.int .i64 0, .int .i64 0, .int .i64 0] 29)) := ⟨hB0, hb0, hx0⟩
  clear hW0 hB0 hb0 hx0
  go_enter Try.func15, Try.ntmps15
  go_wp2_with fail
  rw [HW0.out]
  refine Calls.mono (HCK.out _ H0.out.2.1) ?_
  rintro e w1 ⟨rfl, hb1⟩
  have hB1 := H0.out.1.below hb1
  have hl1 : w.heap.size + 1 < w1.heap.size := by have := hB1.size; omega
  have H1 : Hid (Below w.heap.size w w1) := H0.out.2.1.trans (hb1.mono H0.out.2.1.size)
  have n1 : w1.heap.size ≠ w.heap.size + 1 := by omega
  have n3 : w.heap.size + 1 ≠ w1.heap.size := by omega
  have n5 : w.heap.size ≠ w1.heap.size := by omega
  have hx1 := (hb1.block _ (box_lt H0.out.2.2)).trans H0.out.2.2
  obtain ⟨_, _, p1, p2, p3, r0, r1, r2, f0, f1, f2⟩ := hB1
  have u1 := cell_up p1
  have u2 := cell_up p2
  have u3 := cell_up p3
  have hq : ∀ (a b c : Value) (o : Obj), ((((w1.setCell ⟨w.heap.size + 1, 0, none⟩ a).setCell ⟨w.heap.size + 1, 1, none⟩ b).setCell ⟨w.heap.size + 1, 2, none⟩ c).alloc o).heap[w.heap.size + 1]? = some (.cells #[a, b, c] 29) := fun a b c o => box_later (by rw [heap_set_same (heap_set_same (heap_set_same hx1))]; rfl) o
  have q0 := fun (a b c : Value) (o : Obj) => box_cell (i := 0) (hq a b c o) rfl
  have q1 := fun (a b c : Value) (o : Obj) => box_cell (i := 1) (hq a b c o) rfl
  have q2 := fun (a b c : Value) (o : Obj) => box_cell (i := 2) (hq a b c o) rfl
  have hle : w.heap.size ≤ w.heap.size + 1 := by omega
  have hBo : ∀ a b c o, Below w.heap.size w ((((w1.setCell ⟨w.heap.size + 1, 0, none⟩ a).setCell ⟨w.heap.size + 1, 1, none⟩ b).setCell ⟨w.heap.size + 1, 2, none⟩ c).alloc o) := fun a b c o => by
    have h : Below w.heap.size w (((w1.setCell ⟨w.heap.size + 1, 0, none⟩ a).setCell ⟨w.heap.size + 1, 1, none⟩ b).setCell ⟨w.heap.size + 1, 2, none⟩ c) := ((H1.out.setCell hle _).setCell hle _).setCell hle _
    exact h.alloc h.size _
  have HBO := Hid.out (p := Hid _) hBo
  clear hBo hb1 H0 HW0 HCK hq hx1
  unfold refF at HR
  by_cases hx : cx = 0
  · subst hx
    obtain ⟨h64, h0, h4⟩ := hb rfl
    by_cases h6 : 6 < rg
    · have e := HR.out
      simp only [ne_eq, not_true_eq_false, ↓reduceIte, if_pos h6, Prod.mk.injEq] at e
      obtain ⟨rfl, rfl, rfl⟩ := e
      clear HR
      go_wp2
      exact bodyPost_ret (v := ints3 3 0 0) (by simp [results, Try.results15, go_sem, q0, q1, q2]) rfl ⟨rfl, HBO.out _ _ _ _⟩
    · by_cases h7 : 64 < (m : Int) + lk
      · have e := HR.out
        simp only [ne_eq, not_true_eq_false, ↓reduceIte, if_neg h6, if_pos h7, Prod.mk.injEq] at e
        obtain ⟨rfl, rfl, rfl⟩ := e
        clear HR
        go_wp2
        exact bodyPost_ret (v := ints3 1 0 0) (by simp [results, Try.results15, go_sem, q0, q1, q2]) rfl ⟨rfl, HBO.out _ _ _ _⟩
      · have e := HR.out
        simp only [ne_eq, not_true_eq_false, ↓reduceIte, if_neg h6, if_neg h7, Prod.mk.injEq] at e
        obtain ⟨rfl, rfl, rfl⟩ := e
        clear HR
        go_wp2
        exact bodyPost_ret (v := ints3 0 0 0) (by simp [results, Try.results15, go_sem, q0, q1, q2]) rfl ⟨rfl, HBO.out _ _ _ _⟩
  · have hx' : (cx != 0) = true := by simpa using hx
    have e := HR.out
    simp only [ne_eq, hx, not_false_eq_true, ↓reduceIte, Prod.mk.injEq] at e
    obtain ⟨rfl, rfl, rfl⟩ := e
    clear HR
    go_wp2
    exact bodyPost_ret (v := ints3 cx cy cz) (by simp [results, Try.results15, go_sem, q0, q1, q2]) rfl ⟨rfl, HBO.out _ _ _ _⟩

set_option maxRecDepth 100000 in
set_option maxHeartbeats 3200000 in
/-- What an order becomes, as Link asks. -/
theorem link1_any (w : World) (pb : Nat) (ca : Option Addr) (n cc : Nat) (wa : Option Addr) (m wc : Nat) (lk rg : Nat) (A : Nat → Option Addr) (L C : Nat → Nat) (X : Nat → Nat → Nat → Int) (t i : Nat) (hp : PIn w ca n A L C X) (hc : COk n L X m lk rg) (ht : t < n) (hi : i < L t) (hb : w.heap[pb]? = some (.cells #[.slice ca n cc, .slice wa m wc, .int .i64 lk, .int .i64 rg] 25)) :
    Calls Try.prog 17 #[.int .i64 t, .int .i64 i, .pointer (some ⟨pb, 0, none⟩)] w fun e w' => ∃ sa c, e = .returned (.slice sa (bSpin m X t i).length c) ∧ SrcL w' sa (cellsT (bSpin m X t i)) ∧ Below w.heap.size w w' := by
  have hbl := box_lt hb
  have b0 := box_cell (i := 0) hb rfl
  have b1 := box_cell (i := 1) hb rfl
  have b2 := box_cell (i := 2) hb rfl
  have b3 := box_cell (i := 3) hb rfl
  obtain ⟨cb, co, rfl, hcd⟩ := hp.code t ht
  obtain ⟨ab, ao, hA, c0, c1, c2, c3⟩ := hp.ord t i ht hi
  rw [hA] at hcd
  have hln := hc.L4 t ht
  have hnn := hc.n4
  have hm64 := hc.m64
  have hlk4 := hc.lk4
  have hcO := hc.ord t i ht hi
  obtain ⟨x0, h0⟩ : ∃ x, X t i 0 = x := ⟨_, rfl⟩
  obtain ⟨x1, h1⟩ : ∃ x, X t i 1 = x := ⟨_, rfl⟩
  obtain ⟨x2, h2⟩ : ∃ x, X t i 2 = x := ⟨_, rfl⟩
  obtain ⟨x3, h3⟩ : ∃ x, X t i 3 = x := ⟨_, rfl⟩
  obtain ⟨l, hl⟩ : ∃ x, L t = x := ⟨_, rfl⟩
  have hbj : bSpin m X t i = if x0 = 17 then takeL ((m : Int) + x1) i else if x0 = 18 then giveL ((m : Int) + x1) else [(x0, x1, x2, x3)] := by unfold bSpin ordAt; rw [h0, h1, h2, h3]
  rw [h0] at c0 hcO; rw [h1] at c1 hcO; rw [h2] at c2; rw [h3] at c3
  rw [hl] at hcd hi hln
  have HB1 : Hid (∀ o, Below w.heap.size w (w.alloc o)) := fun o => (Below.refl _ _).alloc (Nat.le_refl _) _
  clear hp hA h0 h1 h2 h3 hl hb hc
  rw [hbj]
  clear hbj
  by_cases h17 : x0 = 17
  · subst h17
    have hx1 := ok_lock (Or.inl rfl) hcO
    clear hcO
    rw [if_pos rfl]
    go_enter Try.func17, Try.ntmps17
    go_wp2_with fail
    refine Calls.mono (wordOf_any _ (some ⟨cb, co, none⟩) n cc wa m wc lk rg x1 hm64 hx1.1 (by omega)) ?_
    rintro e w1 ⟨rfl, hb1⟩
    have H1 : Hid (Below w.heap.size w w1) := (HB1.out _).trans (hb1.mono (by simp))
    clear hb1
    go_wp2_with fail
    refine Calls.mono (take_any w1 ((m : Int) + x1) i) ?_
    rintro e w2 ⟨sa, c, rfl, hs, hb2⟩
    have H2 : Hid (SrcL w2 sa (cellsT (takeL ((m : Int) + x1) i)) ∧ Below w.heap.size w w2) := ⟨hs, H1.out.trans (hb2.mono H1.out.size)⟩
    clear hs hb2
    go_wp2_with fail
    go_ret
    exact ⟨sa, c, rfl, H2.out⟩
  · rw [if_neg h17]
    have h17' : (x0 == 17) = false := by simpa using h17
    by_cases h18 : x0 = 18
    · subst h18
      have hx1 := ok_lock (Or.inr rfl) hcO
      clear hcO
      rw [if_pos rfl]
      go_enter Try.func17, Try.ntmps17
      go_wp2_with fail
      refine Calls.mono (wordOf_any _ (some ⟨cb, co, none⟩) n cc wa m wc lk rg x1 hm64 hx1.1 (by omega)) ?_
      rintro e w1 ⟨rfl, hb1⟩
      have H1 : Hid (Below w.heap.size w w1) := (HB1.out _).trans (hb1.mono (by simp))
      clear hb1
      go_wp2_with fail
      refine Calls.mono (give_any w1 ((m : Int) + x1)) ?_
      rintro e w2 ⟨sa, c, rfl, hs, hb2⟩
      have H2 : Hid (SrcL w2 sa (cellsT (giveL ((m : Int) + x1))) ∧ Below w.heap.size w w2) := ⟨hs, H1.out.trans (hb2.mono H1.out.size)⟩
      clear hs hb2
      go_wp2_with fail
      go_ret
      exact ⟨sa, c, rfl, H2.out⟩
    · have h18' : (x0 == 18) = false := by simpa using h18
      rw [if_neg h18]
      clear hcO
      go_enter Try.func17, Try.ntmps17
      go_wp2_with fail
      go_ret
      have hh : ∀ a b : Obj, ((w.alloc a).alloc b).heap[w.heap.size + 1]? = some b := fun a b => by
        have := heap_alloc_new (w.alloc a) b
        rw [World.size_alloc] at this
        exact this
      exact ⟨_, _, rfl, srcL_block (hh _ _), (HB1.out _).alloc (by simp) _⟩

end Go.Proofs.Ytefnmbnakphhfad
