/-
  Const, by the program.
-/
import Derived.Test.YtkailbdjilkneaaDoorOptCh
import Derived.Test.YtkailbdjilkneaaDoorOptZ
import Derived.Test.YtkailbdjilkneaaDoorOptFl
import Derived.Test.YtkailbdjilkneaaDoorFenN
import Derived.Test.YtkailbdjilkneaaDoorNewC
import Derived.Test.YtkailbdjilkneaaDoorCheckA
namespace Go.Proofs.YtkailbdjilkneaaDoor
open Go.RowKit

/-- What the orders of a thread become: by the least solution. -/
def ConG (X : Nat → Nat → Nat → Int) (L : Nat → Nat) (rg : Nat) (t : Nat) (bt : Nat → List I4) : Prop := ∃ E, LsV (X t) (L t) rg E ∧ ∀ i, i < L t → bt i = bConX (X t) i (E i)
theorem conF_any (w : World) (pb : Nat) (ca : Option Addr) (n cc m lk rg : Nat) (uv : Value) (lkv : Int) (A : Nat → Option Addr) (L C : Nat → Nat) (X : Nat → Nat → Nat → Int) (hp : PIn w ca n A L C X) (hc : COk n L X m lk rg) (hbx : w.heap[pb]? = some (.cells #[.slice ca n cc, uv, .int .i64 lkv, .int .i64 (rg : Int)] 25)) : ∀ V, Below w.heap.size w V → ∀ t, t < n → Calls Tryd.prog 28 (#[.int .i64 (t : Int)] ++ #[.pointer (some ⟨pb, 0, none⟩)]) V fun e w' => ∃ bnd bt, e = .returned (.func (.func 30) bnd #[]) ∧ Below V.heap.size V w' ∧ ConG X L rg t bt ∧ BecV w w' 30 bnd (L t) bt := fun V hV t ht => by
  refine (con1_any V pb ca n cc m lk rg uv lkv A L C X (hp.below hV) hc ((hV.block _ (box_lt hbx)).trans hbx) t ht).mono ?_
  rintro e w' ⟨fb, ga, ac, MB, ov, E, rfl, hF, hS⟩
  refine ⟨_, fun i => bConX (X t) i (E i), rfl, hF.low, ⟨E, hS, fun i _ => rfl⟩, fun U hU hk i hi => ?_⟩
  have hF2 := (hF.wide hV).keepZ hU hk
  have hord : ∀ i, i < L t → ordE rg m lk (L t) (X t i 0) (X t i 1) (X t i 2) (X t i 3) = 0 := fun i hi => hc.ord t i ht hi
  exact fbecome_any w U fb ga ac (L t) (C t) rg m lk (A t) MB ov E [] (X t) i hF2 (hc.L4 t ht) hc.rg0 hc.rg2 (hp.ord t i ht hi) (hord i hi) hi (fun h0 r hr => by
    by_cases hne : E i r = .no
    · exact hne
    · exact absurd h0 (hS.there hord (Nat.le_of_lt hi) hr hne 0 hc.rg0))
theorem conG_led {n m lk rg : Nat} {L : Nat → Nat} {X : Nat → Nat → Nat → Int} (hc : COk n L X m lk rg) (t : Nat) (bt : Nat → List I4) (ht : t < n) (hG : ConG X L rg t bt) : ∀ i, i < L t → (bt i).length ≤ 4 ∧ ∀ x, x ∈ bt i → (1 ≤ x.1 ∧ x.1 ≤ 18) ∧ (x.1 = 14 → 0 ≤ x.2.1 ∧ x.2.1 ≤ L t) ∧ (x.1 = 15 → 0 ≤ x.2.2.1 ∧ x.2.2.1 ≤ L t) := fun i hi => by
  obtain ⟨E, _, hb⟩ := hG
  rw [hb i hi]
  refine ⟨Nat.le_trans (bConX_len _ _ _) (by omega), fun x hx => ?_⟩
  have h := bCon_ok (hc.ord t i ht hi) x hx
  refine ⟨ok_op h, fun e => ?_, fun e => ?_⟩
  · rw [e] at h
    exact ok_jump h
  · rw [e] at h
    exact (ok_zero h).2

set_option maxRecDepth 100000 in
set_option maxHeartbeats 1600000 in
/-- Const, of a program that may not be. -/
theorem const_no (w : World) (ca : Option Addr) (n cc : Nat) (wa : Option Addr) (m wc : Nat) (lk rg x y z : Int) (A : Nat → Option Addr) (L C : Nat → Nat) (X : Nat → Nat → Nat → Int) (hp : PIn w ca n A L C X) (hchk : chk n L X m lk rg = (x, y, z)) (hx : x ≠ 0) :
    Calls Tryd.prog 10 #[prgV ca n cc wa m wc lk rg] w fun e w' => e = .returned (.tuple #[noP, ints3 x y z]) ∧ Below w.heap.size w w' := by
  obtain ⟨W3, hW3, hz3, hat⟩ := box3 w (.cells #[.slice ca n cc, .slice wa m wc, .int .i64 lk, .int .i64 rg] 25) (.cells #[nilV, nilV, .int .i64 0, .int .i64 0] 25) (.cells #[.int .i64 0, .int .i64 0, .int .i64 0] 29)
  have HCK : Hid (∀ V, Below w.heap.size w V → Calls Tryd.prog 26 #[.agg #[.slice ca n cc, .slice wa m wc, .int .i64 lk, .int .i64 rg]] V fun e w' => e = .returned (ints3 x y z) ∧ Below V.heap.size V w') := fun V hV => check_any ca n cc wa m wc lk rg A L C X x y z hchk V (hp.below hV)
  have hx' : (x != 0) = true := by simpa using hx
  have HAT := Hid.out (p := Hid _) hat
  have HW3 := Hid.out (p := Hid _) hW3
  clear hp hchk hx hat hW3
  go_enter Tryd.func10, Tryd.ntmps10
  go_wp2_with fail
  rw [HW3.out]
  refine Calls.mono (HCK.out _ (HAT.out _ (Below.refl _ _)).1) ?_
  rintro e w1 ⟨rfl, hb1⟩
  obtain ⟨hw1, b0, b1, b2⟩ := HAT.out w1 hb1
  have t0 : ∀ o, (w1.alloc o).cell? ⟨w.heap.size + 1, 0, none⟩ = some nilV := fun o => box_cell (box_later b1 o) rfl
  have t1 : ∀ o, (w1.alloc o).cell? ⟨w.heap.size + 1, 1, none⟩ = some nilV := fun o => box_cell (box_later b1 o) rfl
  have t2 : ∀ o, (w1.alloc o).cell? ⟨w.heap.size + 1, 2, none⟩ = some (.int .i64 0) := fun o => box_cell (box_later b1 o) rfl
  have t3 : ∀ o, (w1.alloc o).cell? ⟨w.heap.size + 1, 3, none⟩ = some (.int .i64 0) := fun o => box_cell (box_later b1 o) rfl
  have u0 : ∀ o, (w1.alloc o).cell? ⟨w.heap.size + 1 + 1, 0, none⟩ = some (.int .i64 0) := fun o => box_cell (box_later b2 o) rfl
  have u1 : ∀ o, (w1.alloc o).cell? ⟨w.heap.size + 1 + 1, 1, none⟩ = some (.int .i64 0) := fun o => box_cell (box_later b2 o) rfl
  have u2 : ∀ o, (w1.alloc o).cell? ⟨w.heap.size + 1 + 1, 2, none⟩ = some (.int .i64 0) := fun o => box_cell (box_later b2 o) rfl
  have tf : ∀ o i, (w1.alloc o).frozen? ⟨w.heap.size + 1, i, none⟩ = false := fun o i => box_free (box_later b1 o)
  have uf : ∀ o i, (w1.alloc o).frozen? ⟨w.heap.size + 1 + 1, i, none⟩ = false := fun o i => box_free (box_later b2 o)
  have hl2 : w.heap.size + 1 + 1 < w1.heap.size := box_lt b2
  have n1 : w1.heap.size ≠ w.heap.size + 1 := by omega
  have n2 : w1.heap.size ≠ w.heap.size + 1 + 1 := by omega
  have n3 : w.heap.size + 1 ≠ w1.heap.size := by omega
  have n4 : w.heap.size + 1 + 1 ≠ w1.heap.size := by omega
  have HB1 := Hid.out (p := Hid _) hw1
  clear hw1 hb1 b0 b1 b2 HW3 HAT HCK
  go_wp2_with fail
  go_region
  all_goals go_wp2
  have hB : Below w.heap.size w (w1.alloc (.cells #[.int .i64 x, .int .i64 y, .int .i64 z] 29)) := HB1.out.alloc HB1.out.size _
  all_goals refine bodyPost_ret (v := .tuple #[noP, ints3 x y z]) (by simp [results, Tryd.results10, go_sem, t0, t1, t2, t3, u0, u1, u2]) rfl ⟨rfl, ?_⟩
  all_goals exact below7 hB _ _ _ _ _ _ _


attribute [local go_sem ↓] appS_eq in
set_option maxRecDepth 100000 in
set_option maxHeartbeats 3200000 in
/-- Const, of a program that may be. -/
theorem const_may (w : World) (ca : Option Addr) (n cc : Nat) (wa : Option Addr) (words : List Int) (wc lk rg : Nat) (A : Nat → Option Addr) (L C : Nat → Nat) (X : Nat → Nat → Nat → Int) (hp : PIn w ca n A L C X) (hw : SIs w wa words) (hnil : wa = none → words = [] ∧ wc = 0) (hchk : chk n L X words.length lk rg = (0, 0, 0)) (hc : COk n L X words.length lk rg) :
    Calls Tryd.prog 10 #[prgV ca n cc wa words.length wc lk rg] w fun e w' => ∃ (b : Nat → Nat → List I4) (va : Option Addr) (vc : Nat) (ua : Option Addr) (uc : Nat), e = .returned (.tuple #[.agg #[.slice va n vc, .slice ua words.length uc, .int .i64 lk, .int .i64 rg], ints3 0 0 0]) ∧ Hid ((∀ t, t < n → ConG X L rg t (b t)) ∧ (∀ V, Below w'.heap.size w' V → NewQ w n words lk rg b L (.returned (.agg #[.slice va n vc, .slice ua words.length uc, .int .i64 lk, .int .i64 rg])) V)) ∧ Below w.heap.size w w' := by
  obtain ⟨W3, hW3, hz3, hat⟩ := box3 w (.cells #[.slice ca n cc, .slice wa words.length wc, .int .i64 lk, .int .i64 rg] 25) (.cells #[nilV, nilV, .int .i64 0, .int .i64 0] 25) (.cells #[.int .i64 0, .int .i64 0, .int .i64 0] 29)
  have HCK : Hid (∀ V, Below w.heap.size w V → Calls Tryd.prog 26 #[.agg #[.slice ca n cc, .slice wa words.length wc, .int .i64 lk, .int .i64 rg]] V fun e w' => e = .returned (ints3 0 0 0) ∧ Below V.heap.size V w') := fun V hV => check_any ca n cc wa words.length wc lk rg A L C X 0 0 0 hchk V (hp.below hV)
  have HCH : Hid (∀ V, V.heap[w.heap.size]? = some (.cells #[.slice ca n cc, .slice wa words.length wc, .int .i64 lk, .int .i64 rg] 25) → Below w.heap.size w V → Calls Tryd.prog 27 #[.agg #[.slice ca n cc, .slice wa words.length wc, .int .i64 lk, .int .i64 rg], .func (.func 28) #[] #[.pointer (some ⟨w.heap.size, 0, none⟩)]] V fun e w' => ∃ (b : Nat → Nat → List I4) (va : Option Addr) (vc : Nat) (ua : Option Addr) (uc : Nat), e = .returned (.agg #[.slice va n vc, .slice ua words.length uc, .int .i64 lk, .int .i64 rg]) ∧ Hid ((∀ t, t < n → ConG X L rg t (b t)) ∧ NewQ V n words lk rg b L (.returned (.agg #[.slice va n vc, .slice ua words.length uc, .int .i64 lk, .int .i64 rg])) w') ∧ Below V.heap.size V w') := fun V hbx hV => by
    refine (changed_any V 28 30 #[.pointer (some ⟨w.heap.size, 0, none⟩)] (fun xs w => by kernel_rfl) (fun xs w => by kernel_rfl) ca n cc wa words wc lk rg A L C X (hw.below hV) hnil hc.m64 (hp.below hV) hc.n4 hc.L4 (ConG X L rg) (fun t bt ht hG => conG_led hc t bt ht hG) (conF_any V w.heap.size ca n cc words.length lk rg _ lk A L C X (hp.below hV) hc hbx)).mono ?_
    rintro e w' ⟨b, hG, hN⟩
    obtain ⟨va, vc, ua, uc, tv, rfl, h1, h2, h3, h4⟩ := hN
    exact ⟨b, va, vc, ua, uc, rfl, ⟨hG, va, vc, ua, uc, tv, rfl, h1, h2, h3, h4⟩, h4⟩
  have HAT := Hid.out (p := Hid _) hat
  have HW3 := Hid.out (p := Hid _) hW3
  obtain ⟨mw, hmw⟩ : ∃ k, words.length = k := ⟨_, rfl⟩
  have HML : Hid (words.length = mw) := hmw
  rw [hmw] at HCK HCH HAT HW3 ⊢
  clear hp hchk hat hW3 hw hnil hc hmw
  go_enter Tryd.func10, Tryd.ntmps10
  go_wp2_with fail
  rw [HW3.out]
  refine Calls.mono (HCK.out _ (HAT.out _ (Below.refl _ _)).1) ?_
  rintro e w1 ⟨rfl, hb1⟩
  obtain ⟨hw1, b0, b1, b2⟩ := HAT.out w1 hb1
  have hl2 : w.heap.size + 1 + 1 < w1.heap.size := box_lt b2
  have p0 : ∀ o, (w1.alloc o).cell? ⟨w.heap.size, 0, none⟩ = some (.slice ca n cc) := fun o => box_cell (box_later b0 o) rfl
  have p1 : ∀ o, (w1.alloc o).cell? ⟨w.heap.size, 1, none⟩ = some (.slice wa mw wc) := fun o => box_cell (box_later b0 o) rfl
  have p2 : ∀ o, (w1.alloc o).cell? ⟨w.heap.size, 2, none⟩ = some (.int .i64 lk) := fun o => box_cell (box_later b0 o) rfl
  have p3 : ∀ o, (w1.alloc o).cell? ⟨w.heap.size, 3, none⟩ = some (.int .i64 rg) := fun o => box_cell (box_later b0 o) rfl
  have H1 : Hid (Below W3.heap.size W3 w1 ∧ Below w.heap.size w w1) := ⟨hb1, hw1⟩
  have HB0 := Hid.out (p := Hid _) (And.intro b0 (And.intro b1 b2))
  clear hb1 hw1 b0 b1 b2 HW3 HCK
  have hb2 : Below w1.heap.size w1 (w1.alloc (.cells #[.int .i64 0, .int .i64 0, .int .i64 0] 29)) := (Below.refl _ _).alloc (Nat.le_refl _) _
  have HC := Hid.out (p := Hid _) (HCH.out (w1.alloc (.cells #[.int .i64 0, .int .i64 0, .int .i64 0] 29)) (box_later HB0.out.1 _) (H1.out.2.trans (hb2.mono H1.out.2.size)))
  clear HCH hb2
  go_wp2_with fail
  refine Calls.mono HC.out ?_
  rintro e w6 ⟨b, va6, vc6, ua6, uc6, rfl, HG, hb6⟩
  have hb16 : Below w1.heap.size w1 w6 := ((Below.refl _ _).alloc (Nat.le_refl _) _).trans (hb6.mono (by simp))
  have hl6 : w1.heap.size + 1 ≤ w6.heap.size := by simpa using hb6.size
  have hb36 : Below W3.heap.size W3 w6 := H1.out.1.trans (hb16.mono H1.out.1.size)
  obtain ⟨hw6, _, b1, b2⟩ := HAT.out w6 hb36
  have H6 := Hid.out (p := Hid _) hw6
  have t0 : w6.cell? ⟨w.heap.size + 1, 0, none⟩ = some nilV := box_cell b1 rfl
  have t1 : w6.cell? ⟨w.heap.size + 1, 1, none⟩ = some nilV := box_cell b1 rfl
  have t2 : w6.cell? ⟨w.heap.size + 1, 2, none⟩ = some (.int .i64 0) := box_cell b1 rfl
  have t3 : w6.cell? ⟨w.heap.size + 1, 3, none⟩ = some (.int .i64 0) := box_cell b1 rfl
  have u0 : w6.cell? ⟨w.heap.size + 1 + 1, 0, none⟩ = some (.int .i64 0) := box_cell b2 rfl
  have u1 : w6.cell? ⟨w.heap.size + 1 + 1, 1, none⟩ = some (.int .i64 0) := box_cell b2 rfl
  have u2 : w6.cell? ⟨w.heap.size + 1 + 1, 2, none⟩ = some (.int .i64 0) := box_cell b2 rfl
  have tf : ∀ i, w6.frozen? ⟨w.heap.size + 1, i, none⟩ = false := fun i => box_free b1
  have uf : ∀ i, w6.frozen? ⟨w.heap.size + 1 + 1, i, none⟩ = false := fun i => box_free b2
  have n1 : w6.heap.size ≠ w.heap.size + 1 := by omega
  have n2 : w6.heap.size ≠ w.heap.size + 1 + 1 := by omega
  have n3 : w.heap.size + 1 ≠ w6.heap.size := by omega
  have n4 : w.heap.size + 1 + 1 ≠ w6.heap.size := by omega
  clear hw6 hb36 hb16 hb6 b1 b2 HC
  go_wp2_with fail
  refine bodyPost_ret (v := .tuple #[.agg #[.slice va6 n vc6, .slice ua6 mw uc6, .int .i64 lk, .int .i64 rg], ints3 0 0 0]) (by simp [results, Tryd.results10, go_sem, t0, t1, t2, t3, u0, u1, u2]) rfl ?_
  have hbn := below7n H6.out (.slice va6 n vc6) (.slice ua6 mw uc6) (.int .i64 lk) (.int .i64 rg) (.int .i64 0) (.int .i64 0) (.int .i64 0)
  refine ⟨b, va6, vc6, ua6, uc6, rfl, ⟨HG.out.1, fun V hV => NewQ.below ?_ hV⟩, hbn⟩
  refine HG.out.2.far (fun g hg1 hg2 => ?_) (by have := H1.out.2.size; simp; omega) hbn
  rw [World.size_alloc] at hg1
  rw [far7 (by omega) (by omega)]

end Go.Proofs.YtkailbdjilkneaaDoor
