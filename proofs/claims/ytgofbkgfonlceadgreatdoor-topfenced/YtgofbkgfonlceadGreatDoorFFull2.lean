/-
  A fence behind each order that lets something wait, by the program.
-/
import Derived.Test.YtgofbkgfonlceadGreatDoorPBufN
import Derived.Test.YtgofbkgfonlceadGreatDoorCheckA
namespace Go.Proofs.YtgofbkgfonlceadGreatDoor
open Go.RowKit

abbrev noP : Value := .agg #[nilV, nilV, .int .i64 0, .int .i64 0]
/-- Three boxes that a call makes first. -/
theorem box3 (w : World) (P R F : Obj) : ∃ W, ((w.alloc P).alloc R).alloc F = W ∧ w.heap.size + 3 = W.heap.size ∧ ∀ V, Below W.heap.size W V → Below w.heap.size w V ∧ V.heap[w.heap.size]? = some P ∧ V.heap[w.heap.size + 1]? = some R ∧ V.heap[w.heap.size + 1 + 1]? = some F := by
  refine ⟨_, rfl, by simp, fun V hb => ⟨?_, ?_, ?_, ?_⟩⟩
  · exact ((((Below.refl _ _).alloc (Nat.le_refl _) _).alloc (by simp) _).alloc (by simp; omega) _).trans (hb.mono (by simp; omega))
  · exact (hb.block _ (by simp; omega)).trans (box_later (box_later (heap_alloc_new _ _) _) _)
  · have := (hb.block (w.heap.size + 1) (by simp)).trans (box_later (show ((w.alloc P).alloc R).heap[w.heap.size + 1]? = some R by have := heap_alloc_new (w.alloc P) R; simpa using this) _)
    exact this
  · have := (hb.block (w.heap.size + 1 + 1) (by simp)).trans (show (((w.alloc P).alloc R).alloc F).heap[w.heap.size + 1 + 1]? = some F by have := heap_alloc_new ((w.alloc P).alloc R) F; simpa using this)
    exact this
theorem below7n {w w' : World} (h : Below w.heap.size w w') (a b c d e f g : Value) : Below w.heap.size w (((((((w'.setCell ⟨w.heap.size + 1, 0, none⟩ a).setCell ⟨w.heap.size + 1, 1, none⟩ b).setCell ⟨w.heap.size + 1, 2, none⟩ c).setCell ⟨w.heap.size + 1, 3, none⟩ d).setCell ⟨w.heap.size + 1 + 1, 0, none⟩ e).setCell ⟨w.heap.size + 1 + 1, 1, none⟩ f).setCell ⟨w.heap.size + 1 + 1, 2, none⟩ g) := by
  have h1 : w.heap.size ≤ w.heap.size + 1 := by omega
  have h2 : w.heap.size ≤ w.heap.size + 1 + 1 := by omega
  exact ((((((h.setCell h1 _).setCell h1 _).setCell h1 _).setCell h1 _).setCell h2 _).setCell h2 _).setCell h2 _
theorem below7 {w w' : World} (h : Below w.heap.size w w') (a b c d e f g : Value) : Below w.heap.size w (((((((w'.setCell ⟨w.heap.size + 1, 0, none⟩ a).setCell ⟨w.heap.size + 1, 1, none⟩ b).setCell ⟨w.heap.size + 1, 2, none⟩ c).setCell ⟨w.heap.size + 1, 3, none⟩ d).setCell ⟨w.heap.size + 1 + 1, 0, none⟩ e).setCell ⟨w.heap.size + 1 + 1, 1, none⟩ f).setCell ⟨w.heap.size + 1 + 1, 2, none⟩ g).drew := (below7n h a b c d e f g).drew
theorem far7 {w' : World} {k g : Nat} (h1 : g ≠ k + 1) (h2 : g ≠ k + 1 + 1) (a b c d e f q : Value) : (((((((w'.setCell ⟨k + 1, 0, none⟩ a).setCell ⟨k + 1, 1, none⟩ b).setCell ⟨k + 1, 2, none⟩ c).setCell ⟨k + 1, 3, none⟩ d).setCell ⟨k + 1 + 1, 0, none⟩ e).setCell ⟨k + 1 + 1, 1, none⟩ f).setCell ⟨k + 1 + 1, 2, none⟩ q).heap[g]? = w'.heap[g]? := by
  have e1 : ∀ (Z : World) (q : Nat) (u : Value), (Z.setCell ⟨k + 1, q, none⟩ u).heap[g]? = Z.heap[g]? := fun Z q u => Below.heap_setCell _ _ _ _ (fun x => h1 (by simpa using x))
  have e2 : ∀ (Z : World) (q : Nat) (u : Value), (Z.setCell ⟨k + 1 + 1, q, none⟩ u).heap[g]? = Z.heap[g]? := fun Z q u => Below.heap_setCell _ _ _ _ (fun x => h2 (by simpa using x))
  rw [e2, e2, e2, e1, e1, e1, e1]
set_option maxRecDepth 100000 in
set_option maxHeartbeats 1600000 in
/-- Full, of a program that may not be. -/
theorem full_no (w : World) (ca : Option Addr) (n cc : Nat) (wa : Option Addr) (m wc : Nat) (lk rg x y z : Int) (A : Nat → Option Addr) (L C : Nat → Nat) (X : Nat → Nat → Nat → Int) (hp : PIn w ca n A L C X) (hchk : chk n L X m lk rg = (x, y, z)) (hx : x ≠ 0) :
    Calls Tryz.prog 9 #[prgV ca n cc wa m wc lk rg] w fun e w' => e = .returned (.tuple #[noP, ints3 x y z]) ∧ Below w.heap.size w w' := by
  obtain ⟨W3, hW3, hz3, hat⟩ := box3 w (.cells #[.slice ca n cc, .slice wa m wc, .int .i64 lk, .int .i64 rg] 25) (.cells #[nilV, nilV, .int .i64 0, .int .i64 0] 25) (.cells #[.int .i64 0, .int .i64 0, .int .i64 0] 29)
  have HCK : Hid (∀ V, Below w.heap.size w V → Calls Tryz.prog 11 #[.agg #[.slice ca n cc, .slice wa m wc, .int .i64 lk, .int .i64 rg]] V fun e w' => e = .returned (ints3 x y z) ∧ Below V.heap.size V w') := fun V hV => check_any ca n cc wa m wc lk rg A L C X x y z hchk V (hp.below hV)
  have hx' : (x != 0) = true := by simpa using hx
  have HAT := Hid.out (p := Hid _) hat
  have HW3 := Hid.out (p := Hid _) hW3
  clear hp hchk hx hat hW3
  go_enter Tryz.func9, Tryz.ntmps9
  go_wp2_with fail
  rw [HW3.out]
  refine Calls.mono (HCK.out _ (HAT.out _ (Below.refl _ _)).1) ?_
  rintro e w1 ⟨rfl, hb1⟩
  obtain ⟨hw1, b0, b1, b2⟩ := HAT.out w1 hb1
  have t0 : ∀ o, (w1.alloc o).cell? ⟨w.heap.size + 1, 0, none⟩ = some nilV := fun o => box_cell (box_later b1 o) rfl
  have t1 : ∀ o, (w1.alloc o).cell? ⟨w.heap.size + 1, 1, none⟩ = some nilV := fun o => box_cell (box_later b1 o) rfl
  have t2 : ∀ o, (w1.alloc o).cell? ⟨w.heap.size + 1, 2, none⟩ = some (.int .i64 0) := fun o => box_cell (box_later b1 o) rfl
  have t3 : ∀ o, (w1.alloc o).cell? ⟨w.heap.size + 1, 3, none⟩ = some (.int .i64 0) := fun o => box_cell (box_later b1 o) rfl
  have u0 : ∀ o, (w1.alloc o).cell? ⟨w.heap.size + 1 + 1, 0, none⟩ = some (.int .i64 0) := fun o => box_cell (box_later b2 o) rfl
  have u1 : ∀ o, (w1.alloc o).cell? ⟨w.heap.size + 1 + 1, 1, none⟩ = some (.int .i64 0) := fun o => box_cell (box_later b2 o) rfl
  have u2 : ∀ o, (w1.alloc o).cell? ⟨w.heap.size + 1 + 1, 2, none⟩ = some (.int .i64 0) := fun o => box_cell (box_later b2 o) rfl
  have tf : ∀ o i, (w1.alloc o).frozen? ⟨w.heap.size + 1, i, none⟩ = false := fun o i => box_free (box_later b1 o)
  have uf : ∀ o i, (w1.alloc o).frozen? ⟨w.heap.size + 1 + 1, i, none⟩ = false := fun o i => box_free (box_later b2 o)
  have hl2 : w.heap.size + 1 + 1 < w1.heap.size := box_lt b2
  have n1 : w1.heap.size ≠ w.heap.size + 1 := by omega
  have n2 : w1.heap.size ≠ w.heap.size + 1 + 1 := by omega
  have n3 : w.heap.size + 1 ≠ w1.heap.size := by omega
  have n4 : w.heap.size + 1 + 1 ≠ w1.heap.size := by omega
  have HB1 := Hid.out (p := Hid _) hw1
  clear hw1 hb1 b0 b1 b2 HW3 HAT HCK
  go_wp2_with fail
  go_region
  all_goals go_wp2
  have hB : Below w.heap.size w (w1.alloc (.cells #[.int .i64 x, .int .i64 y, .int .i64 z] 29)) := HB1.out.alloc HB1.out.size _
  all_goals refine bodyPost_ret (v := .tuple #[noP, ints3 x y z]) (by simp [results, Tryz.results9, go_sem, t0, t1, t2, t3, u0, u1, u2]) rfl ⟨rfl, ?_⟩
  all_goals exact below7 hB _ _ _ _ _ _ _
set_option maxRecDepth 100000 in
set_option maxHeartbeats 1600000 in
/-- Full, of a program that may be. -/
theorem full_may (w : World) (ca : Option Addr) (n cc : Nat) (wa : Option Addr) (words : List Int) (wc lk rg : Nat) (x y z : Int) (A : Nat → Option Addr) (L C : Nat → Nat) (X : Nat → Nat → Nat → Int) (hp : PIn w ca n A L C X) (hw : SIs w wa words) (hnil : wa = none → words = [] ∧ wc = 0) (hchk : chk n L X words.length lk rg = (0, 0, 0)) (hc : COk n L X words.length lk rg) (hq : chk n (lenR (bFull X) L) (numR (bFull X) L) words.length lk rg = (x, y, z)) :
    Calls Tryz.prog 9 #[prgV ca n cc wa words.length wc lk rg] w fun e w' => if x = 0 then ∃ (va : Option Addr) (vc : Nat) (ua : Option Addr) (uc : Nat), e = .returned (.tuple #[.agg #[.slice va n vc, .slice ua words.length uc, .int .i64 lk, .int .i64 rg], ints3 0 0 0]) ∧ Hid (∀ V, Below w'.heap.size w' V → NewQ w n words lk rg (bFull X) L (.returned (.agg #[.slice va n vc, .slice ua words.length uc, .int .i64 lk, .int .i64 rg])) V) ∧ Below w.heap.size w w' else e = .returned (.tuple #[noP, ints3 x y z]) ∧ Below w.heap.size w w' := by
  obtain ⟨W3, hW3, hz3, hat⟩ := box3 w (.cells #[.slice ca n cc, .slice wa words.length wc, .int .i64 lk, .int .i64 rg] 25) (.cells #[nilV, nilV, .int .i64 0, .int .i64 0] 25) (.cells #[.int .i64 0, .int .i64 0, .int .i64 0] 29)
  have HCK : Hid (∀ V, Below w.heap.size w V → Calls Tryz.prog 11 #[.agg #[.slice ca n cc, .slice wa words.length wc, .int .i64 lk, .int .i64 rg]] V fun e w' => e = .returned (ints3 0 0 0) ∧ Below V.heap.size V w') := fun V hV => check_any ca n cc wa words.length wc lk rg A L C X 0 0 0 hchk V (hp.below hV)
  have HPT : Hid (∀ V, V.heap[w.heap.size]? = some (.cells #[.slice ca n cc, .slice wa words.length wc, .int .i64 lk, .int .i64 rg] 25) → Below w.heap.size w V → Calls Tryz.prog 15 #[.agg #[.slice ca n cc, .slice wa words.length wc, .int .i64 lk, .int .i64 rg], .func (.func 20) #[] #[.pointer (some ⟨w.heap.size, 0, none⟩)]] V (NewQ V n words lk rg (bFull X) L)) := fun V hbx hV => by
    exact fput_any V ca n cc wa words wc lk rg 20 #[.pointer (some ⟨w.heap.size, 0, none⟩)] A L C X (fun t i => wtO (X t i 0)) (hw.below hV) hnil hc (hp.below hV) (fun xs w => by kernel_rfl) (fun U t i hU ht hi => full1_any U w.heap.size ca n cc wa words.length wc lk rg A L C X t i (hp.below (hV.trans (hU.mono hV.size))) ht hi ((hU.block _ (box_lt hbx)).trans hbx))
  have HCQ : Hid (∀ V U va vc ua uc, NewQ U n words lk rg (bFull X) L (.returned (.agg #[.slice va n vc, .slice ua words.length uc, .int .i64 lk, .int .i64 rg])) V → Calls Tryz.prog 11 #[.agg #[.slice va n vc, .slice ua words.length uc, .int .i64 lk, .int .i64 rg]] V fun e w' => e = .returned (ints3 x y z) ∧ Below V.heap.size V w') := fun V U va vc ua uc ⟨va', vc', ua', uc', tv, he, h1, h2, _, _⟩ => by
    simp only [Ending.returned.injEq, Value.agg.injEq, Array.mk.injEq, List.cons.injEq, Value.slice.injEq, true_and, and_true] at he
    obtain ⟨⟨rfl, rfl⟩, rfl, rfl⟩ := he
    obtain ⟨ca', cc', A', C', e1, hpin⟩ := new_pin h1 h2 (by have := hc.n4; omega) (fun t ht => by
      unfold lenR
      rw [code_len]
      have h4 := hc.L4 t ht
      have : ∀ i, plR (bFull X t) i ≤ 2 * i := fun i => by
        induction i with
        | zero => exact Nat.le_refl _
        | succ i ih =>
          rw [plR]
          have : (bFull X t i).length ≤ 2 := by unfold bFull bWith; split <;> simp
          omega
      have := this (L t)
      omega)
    simp only [Value.slice.injEq, true_and] at e1
    obtain ⟨rfl, rfl⟩ := e1
    exact check_any va n vc ua words.length uc lk rg A' (lenR (bFull X) L) C' (numR (bFull X) L) x y z hq V hpin
  have HAT := Hid.out (p := Hid _) hat
  have HW3 := Hid.out (p := Hid _) hW3
  obtain ⟨mw, hmw⟩ : ∃ k, words.length = k := ⟨_, rfl⟩
  have HMW : Hid (words.length = mw) := hmw
  rw [hmw] at HCK HPT HCQ HAT HW3 ⊢
  clear hp hchk hat hW3 hw hnil hc hq hmw
  go_enter Tryz.func9, Tryz.ntmps9
  go_wp2_with fail
  rw [HW3.out]
  refine Calls.mono (HCK.out _ (HAT.out _ (Below.refl _ _)).1) ?_
  rintro e w1 ⟨rfl, hb1⟩
  obtain ⟨hw1, b0, b1, b2⟩ := HAT.out w1 hb1
  have hl2 : w.heap.size + 1 + 1 < w1.heap.size := box_lt b2
  have p0 : ∀ o, (w1.alloc o).cell? ⟨w.heap.size, 0, none⟩ = some (.slice ca n cc) := fun o => box_cell (box_later b0 o) rfl
  have p1 : ∀ o, (w1.alloc o).cell? ⟨w.heap.size, 1, none⟩ = some (.slice wa mw wc) := fun o => box_cell (box_later b0 o) rfl
  have p2 : ∀ o, (w1.alloc o).cell? ⟨w.heap.size, 2, none⟩ = some (.int .i64 lk) := fun o => box_cell (box_later b0 o) rfl
  have p3 : ∀ o, (w1.alloc o).cell? ⟨w.heap.size, 3, none⟩ = some (.int .i64 rg) := fun o => box_cell (box_later b0 o) rfl
  have H1 : Hid (Below W3.heap.size W3 w1 ∧ Below w.heap.size w w1 ∧ w1.heap[w.heap.size]? = some (.cells #[.slice ca n cc, .slice wa mw wc, .int .i64 lk, .int .i64 rg] 25)) := ⟨hb1, hw1, b0⟩
  clear hb1 hw1 b0 b1 b2 HW3 HCK
  go_wp2_with fail
  have hbU : Below w.heap.size w (w1.alloc (.cells #[.int .i64 0, .int .i64 0, .int .i64 0] 29)) := H1.out.2.1.alloc H1.out.2.1.size _
  refine Calls.mono (HPT.out _ (box_later H1.out.2.2 _) hbU) ?_
  rintro e w2 ⟨va, vc, ua, uc, tv, rfl, h1, h2, h3, h4⟩
  rw [HMW.out] at h3 ⊢
  have hNQ : NewQ (w1.alloc (.cells #[.int .i64 0, .int .i64 0, .int .i64 0] 29)) n words lk rg (bFull X) L (.returned (.agg #[.slice va n vc, .slice ua mw uc, .int .i64 lk, .int .i64 rg])) w2 := ⟨va, vc, ua, uc, tv, by rw [HMW.out], h1, h2, by rw [HMW.out]; exact h3, h4⟩
  have H2 : Hid (NewQ (w1.alloc (.cells #[.int .i64 0, .int .i64 0, .int .i64 0] 29)) n words lk rg (bFull X) L (.returned (.agg #[.slice va n vc, .slice ua mw uc, .int .i64 lk, .int .i64 rg])) w2 ∧ Below W3.heap.size W3 w2 ∧ Below w.heap.size w w2) := by
    have hB3 : Below W3.heap.size W3 w2 := (H1.out.1.alloc H1.out.1.size _).trans (h4.mono (by have := H1.out.1.size; simp; omega))
    exact ⟨hNQ, hB3, hbU.trans (h4.mono hbU.size)⟩
  have hs12 : w1.heap.size < w2.heap.size := by have := h4.size; simp at this; omega
  clear hNQ h1 h2 h3 h4 hbU p0 p1 p2 p3 HPT
  go_wp2_with fail
  have hbB : Below w2.heap.size w2 (w2.alloc (.cells #[.slice va n vc, .slice ua mw uc, .int .i64 lk, .int .i64 rg] 25)) := (Below.refl _ _).alloc (Nat.le_refl _) _
  refine Calls.mono (HCQ.out _ _ va vc ua uc (H2.out.1.below hbB)) ?_
  rintro e w3 ⟨rfl, hb3⟩
  have hb23 : Below w2.heap.size w2 w3 := hbB.trans (hb3.mono hbB.size)
  obtain ⟨hw3, b0, b1, b2⟩ := HAT.out w3 (H2.out.2.1.trans (hb23.mono H2.out.2.1.size))
  have b3 : w3.heap[w2.heap.size]? = some (.cells #[.slice va n vc, .slice ua mw uc, .int .i64 lk, .int .i64 rg] 25) := (hb3.block _ (by simp)).trans (heap_alloc_new _ _)
  have t0 : ∀ o, (w3.alloc o).cell? ⟨w.heap.size + 1, 0, none⟩ = some nilV := fun o => box_cell (box_later b1 o) rfl
  have t1 : ∀ o, (w3.alloc o).cell? ⟨w.heap.size + 1, 1, none⟩ = some nilV := fun o => box_cell (box_later b1 o) rfl
  have t2 : ∀ o, (w3.alloc o).cell? ⟨w.heap.size + 1, 2, none⟩ = some (.int .i64 0) := fun o => box_cell (box_later b1 o) rfl
  have t3 : ∀ o, (w3.alloc o).cell? ⟨w.heap.size + 1, 3, none⟩ = some (.int .i64 0) := fun o => box_cell (box_later b1 o) rfl
  have u0 : ∀ o, (w3.alloc o).cell? ⟨w.heap.size + 1 + 1, 0, none⟩ = some (.int .i64 0) := fun o => box_cell (box_later b2 o) rfl
  have u1 : ∀ o, (w3.alloc o).cell? ⟨w.heap.size + 1 + 1, 1, none⟩ = some (.int .i64 0) := fun o => box_cell (box_later b2 o) rfl
  have u2 : ∀ o, (w3.alloc o).cell? ⟨w.heap.size + 1 + 1, 2, none⟩ = some (.int .i64 0) := fun o => box_cell (box_later b2 o) rfl
  have tf : ∀ o i, (w3.alloc o).frozen? ⟨w.heap.size + 1, i, none⟩ = false := fun o i => box_free (box_later b1 o)
  have uf : ∀ o i, (w3.alloc o).frozen? ⟨w.heap.size + 1 + 1, i, none⟩ = false := fun o i => box_free (box_later b2 o)
  have s0 : ∀ o, (w3.alloc o).cell? ⟨w2.heap.size, 0, none⟩ = some (.slice va n vc) := fun o => box_cell (box_later b3 o) rfl
  have s1 : ∀ o, (w3.alloc o).cell? ⟨w2.heap.size, 1, none⟩ = some (.slice ua mw uc) := fun o => box_cell (box_later b3 o) rfl
  have s2 : ∀ o, (w3.alloc o).cell? ⟨w2.heap.size, 2, none⟩ = some (.int .i64 lk) := fun o => box_cell (box_later b3 o) rfl
  have s3 : ∀ o, (w3.alloc o).cell? ⟨w2.heap.size, 3, none⟩ = some (.int .i64 rg) := fun o => box_cell (box_later b3 o) rfl
  have hl3 : w2.heap.size < w3.heap.size := box_lt b3
  have n1 : w3.heap.size ≠ w.heap.size + 1 := by omega
  have n2 : w3.heap.size ≠ w.heap.size + 1 + 1 := by omega
  have n3 : w.heap.size + 1 ≠ w3.heap.size := by omega
  have n4 : w.heap.size + 1 + 1 ≠ w3.heap.size := by omega
  have n5 : w2.heap.size ≠ w.heap.size + 1 := by omega
  have n6 : w2.heap.size ≠ w.heap.size + 1 + 1 := by omega
  have n7 : w.heap.size + 1 ≠ w2.heap.size := by omega
  have n8 : w.heap.size + 1 + 1 ≠ w2.heap.size := by omega
  have H3 : Hid (Below w.heap.size w w3 ∧ NewQ (w1.alloc (.cells #[.int .i64 0, .int .i64 0, .int .i64 0] 29)) n words lk rg (bFull X) L (.returned (.agg #[.slice va n vc, .slice ua mw uc, .int .i64 lk, .int .i64 rg])) w3) := ⟨hw3, H2.out.1.below hb23⟩
  clear hw3 hb23 hb3 hbB b0 b1 b2 b3 HAT HCQ H1 H2
  by_cases hx : x = 0
  · subst hx
    go_wp2
    have hB : Below w.heap.size w (w3.alloc (.cells #[.int .i64 0, .int .i64 y, .int .i64 z] 29)) := H3.out.1.alloc H3.out.1.size _
    have hbn := below7n hB (.slice va n vc) (.slice ua mw uc) (.int .i64 lk) (.int .i64 rg) (.int .i64 0) (.int .i64 0) (.int .i64 0)
    refine bodyPost_ret (v := .tuple #[.agg #[.slice va n vc, .slice ua mw uc, .int .i64 lk, .int .i64 rg], ints3 0 0 0]) (by simp [results, Tryz.results9, go_sem, t0, t1, t2, t3, u0, u1, u2]) rfl ⟨va, vc, ua, uc, rfl, fun V hV => ?_, hbn⟩
    refine NewQ.below (V := (((((((w3.alloc (.cells #[.int .i64 0, .int .i64 y, .int .i64 z] 29)).setCell ⟨w.heap.size + 1, 0, none⟩ (.slice va n vc)).setCell ⟨w.heap.size + 1, 1, none⟩ (.slice ua mw uc)).setCell ⟨w.heap.size + 1, 2, none⟩ (.int .i64 lk)).setCell ⟨w.heap.size + 1, 3, none⟩ (.int .i64 rg)).setCell ⟨w.heap.size + 1 + 1, 0, none⟩ (.int .i64 0)).setCell ⟨w.heap.size + 1 + 1, 1, none⟩ (.int .i64 0)).setCell ⟨w.heap.size + 1 + 1, 2, none⟩ (.int .i64 0)) ?_ hV
    refine H3.out.2.far (fun g hg1 hg2 => ?_) (by simp; omega) hbn
    simp only [World.size_alloc] at hg1
    rw [far7 (by omega) (by omega)]
    exact ((Below.refl w3.heap.size w3).alloc (Nat.le_refl _) _).block g hg2
  · have hx' : (x != 0) = true := by simpa using hx
    go_wp2_with fail
    go_region
    all_goals go_wp2
    have hB : Below w.heap.size w (w3.alloc (.cells #[.int .i64 x, .int .i64 y, .int .i64 z] 29)) := H3.out.1.alloc H3.out.1.size _
    all_goals exact bodyPost_ret (v := .tuple #[noP, ints3 x y z]) (by simp [results, Tryz.results9, go_sem, t0, t1, t2, t3, u0, u1, u2]) rfl ⟨rfl, below7 hB _ _ _ _ _ _ _⟩

end Go.Proofs.YtgofbkgfonlceadGreatDoor
