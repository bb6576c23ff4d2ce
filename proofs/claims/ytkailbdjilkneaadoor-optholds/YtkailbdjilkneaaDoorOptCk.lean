/-
  Const, by the program.
  A program that was made anew, in memory.
  What Const and Dead make: by one solution for all threads; how long it is.
  The law of programs with less to do that come to the same, for every program.
-/
import Derived.Test.YtkailbdjilkneaaDoorNewC
import Derived.Test.YtkailbdjilkneaaDoorZBeg
import Derived.Test.YtkailbdjilkneaaDoorOptFl
import Derived.Test.YtkailbdjilkneaaDoorSimD
import Derived.Test.YtkailbdjilkneaaDoorCheckA
import Derived.Test.YtkailbdjilkneaaDoorLivMa
import Derived.Test.YtkailbdjilkneaaDoorLawHold
namespace Go.Proofs.YtkailbdjilkneaaDoor
section
open Go.RowKit

/-- What the orders of a thread become: by the least solution. -/
def ConG (X : Nat → Nat → Nat → Int) (L : Nat → Nat) (rg : Nat) (t : Nat) (bt : Nat → List I4) : Prop := ∃ E, LsV (X t) (L t) rg E ∧ ∀ i, i < L t → bt i = bConX (X t) i (E i)
theorem conF_any (w : World) (pb : Nat) (ca : Option Addr) (n cc m lk rg : Nat) (uv : Value) (lkv : Int) (A : Nat → Option Addr) (L C : Nat → Nat) (X : Nat → Nat → Nat → Int) (hp : PIn w ca n A L C X) (hc : COk n L X m lk rg) (hbx : w.heap[pb]? = some (.cells #[.slice ca n cc, uv, .int .i64 lkv, .int .i64 (rg : Int)] 25)) : ∀ V, Below w.heap.size w V → ∀ t, t < n → Calls Tryd.prog 28 (#[.int .i64 (t : Int)] ++ #[.pointer (some ⟨pb, 0, none⟩)]) V fun e w' => ∃ bnd bt, e = .returned (.func (.func 30) bnd #[]) ∧ Below V.heap.size V w' ∧ ConG X L rg t bt ∧ BecV w w' 30 bnd (L t) bt := fun V hV t ht => by
  refine (con1_any V pb ca n cc m lk rg uv lkv A L C X (hp.below hV) hc ((hV.block _ (box_lt hbx)).trans hbx) t ht).mono ?_
  rintro e w' ⟨fb, ga, ac, MB, ov, E, rfl, hF, hS⟩
  refine ⟨_, fun i => bConX (X t) i (E i), rfl, hF.low, ⟨E, hS, fun i _ => rfl⟩, fun U hU hk i hi => ?_⟩
  have hF2 := (hF.wide hV).keepZ hU hk
  have hord : ∀ i, i < L t → ordE rg m lk (L t) (X t i 0) (X t i 1) (X t i 2) (X t i 3) = 0 := fun i hi => hc.ord t i ht hi
  exact fbecome_any w U fb ga ac (L t) (C t) rg m lk (A t) MB ov E [] (X t) i hF2 (hc.L4 t ht) hc.rg0 hc.rg2 (hp.ord t i ht hi) (hord i hi) hi (fun h0 r hr => by
    by_cases hne : E i r = .no
    · exact hne
    · exact absurd h0 (hS.there hord (Nat.le_of_lt hi) hr hne 0 hc.rg0))
theorem conG_led {n m lk rg : Nat} {L : Nat → Nat} {X : Nat → Nat → Nat → Int} (hc : COk n L X m lk rg) (t : Nat) (bt : Nat → List I4) (ht : t < n) (hG : ConG X L rg t bt) : ∀ i, i < L t → (bt i).length ≤ 4 ∧ ∀ x, x ∈ bt i → (1 ≤ x.1 ∧ x.1 ≤ 18) ∧ (x.1 = 14 → 0 ≤ x.2.1 ∧ x.2.1 ≤ L t) ∧ (x.1 = 15 → 0 ≤ x.2.2.1 ∧ x.2.2.1 ≤ L t) := fun i hi => by
  obtain ⟨E, _, hb⟩ := hG
  rw [hb i hi]
  refine ⟨Nat.le_trans (bConX_len _ _ _) (by omega), fun x hx => ?_⟩
  have h := bCon_ok (hc.ord t i ht hi) x hx
  refine ⟨ok_op h, fun e => ?_, fun e => ?_⟩
  · rw [e] at h
    exact ok_jump h
  · rw [e] at h
    exact (ok_zero h).2

set_option maxRecDepth 100000 in
set_option maxHeartbeats 1600000 in
/-- Const, of a program that may not be. -/
theorem const_no (w : World) (ca : Option Addr) (n cc : Nat) (wa : Option Addr) (m wc : Nat) (lk rg x y z : Int) (A : Nat → Option Addr) (L C : Nat → Nat) (X : Nat → Nat → Nat → Int) (hp : PIn w ca n A L C X) (hchk : chk n L X m lk rg = (x, y, z)) (hx : x ≠ 0) :
    Calls Tryd.prog 10 #[prgV ca n cc wa m wc lk rg] w fun e w' => e = .returned (.tuple #[noP, ints3 x y z]) ∧ Below w.heap.size w w' := by
  obtain ⟨W3, hW3, hz3, hat⟩ := box3 w (.cells #[.slice ca n cc, .slice wa m wc, .int .i64 lk, .int .i64 rg] 25) (.cells #[nilV, nilV, .int .i64 0, .int .i64 0] 25) (.cells #[.int .i64 0, .int .i64 0, .int .i64 0] 29)
  have HCK : Hid (∀ V, Below w.heap.size w V → Calls Tryd.prog 26 #[.agg #[.slice ca n cc, .slice wa m wc, .int .i64 lk, .int .i64 rg]] V fun e w' => e = .returned (ints3 x y z) ∧ Below V.heap.size V w') := fun V hV => check_any ca n cc wa m wc lk rg A L C X x y z hchk V (hp.below hV)
  have hx' : (x != 0) = true := by simpa using hx
  have HAT := Hid.out (p := Hid _) hat
  have HW3 := Hid.out (p := Hid _) hW3
  clear hp hchk hx hat hW3
  go_enter Tryd.func10, Tryd.ntmps10
  go_wp2_with fail
  rw [HW3.out]
  refine Calls.mono (HCK.out _ (HAT.out _ (Below.refl _ _)).1) ?_
  rintro e w1 ⟨rfl, hb1⟩
  obtain ⟨hw1, b0, b1, b2⟩ := HAT.out w1 hb1
  have t0 : ∀ o, (w1.alloc o).cell? ⟨w.heap.size + 1, 0, none⟩ = some nilV := fun o => box_cell (box_later b1 o) rfl
  have t1 : ∀ o, (w1.alloc o).cell? ⟨w.heap.size + 1, 1, none⟩ = some nilV := fun o => box_cell (box_later b1 o) rfl
  have t2 : ∀ o, (w1.alloc o).cell? ⟨w.heap.size + 1, 2, none⟩ = some (.int .i64 0) := fun o => box_cell (box_later b1 o) rfl
  have t3 : ∀ o, (w1.alloc o).cell? ⟨w.heap.size + 1, 3, none⟩ = some (.int .i64 0) := fun o => box_cell (box_later b1 o) rfl
  have u0 : ∀ o, (w1.alloc o).cell? ⟨w.heap.size + 1 + 1, 0, none⟩ = some (.int .i64 0) := fun o => box_cell (box_later b2 o) rfl
  have u1 : ∀ o, (w1.alloc o).cell? ⟨w.heap.size + 1 + 1, 1, none⟩ = some (.int .i64 0) := fun o => box_cell (box_later b2 o) rfl
  have u2 : ∀ o, (w1.alloc o).cell? ⟨w.heap.size + 1 + 1, 2, none⟩ = some (.int .i64 0) := fun o => box_cell (box_later b2 o) rfl
  have tf : ∀ o i, (w1.alloc o).frozen? ⟨w.heap.size + 1, i, none⟩ = false := fun o i => box_free (box_later b1 o)
  have uf : ∀ o i, (w1.alloc o).frozen? ⟨w.heap.size + 1 + 1, i, none⟩ = false := fun o i => box_free (box_later b2 o)
  have hl2 : w.heap.size + 1 + 1 < w1.heap.size := box_lt b2
  have n1 : w1.heap.size ≠ w.heap.size + 1 := by omega
  have n2 : w1.heap.size ≠ w.heap.size + 1 + 1 := by omega
  have n3 : w.heap.size + 1 ≠ w1.heap.size := by omega
  have n4 : w.heap.size + 1 + 1 ≠ w1.heap.size := by omega
  have HB1 := Hid.out (p := Hid _) hw1
  clear hw1 hb1 b0 b1 b2 HW3 HAT HCK
  go_wp2_with fail
  go_region
  all_goals go_wp2
  have hB : Below w.heap.size w (w1.alloc (.cells #[.int .i64 x, .int .i64 y, .int .i64 z] 29)) := HB1.out.alloc HB1.out.size _
  all_goals refine bodyPost_ret (v := .tuple #[noP, ints3 x y z]) (by simp [results, Tryd.results10, go_sem, t0, t1, t2, t3, u0, u1, u2]) rfl ⟨rfl, ?_⟩
  all_goals exact below7 hB _ _ _ _ _ _ _


attribute [local go_sem ↓] appS_eq in
set_option maxRecDepth 100000 in
set_option maxHeartbeats 3200000 in
/-- Const, of a program that may be. -/
theorem const_may (w : World) (ca : Option Addr) (n cc : Nat) (wa : Option Addr) (words : List Int) (wc lk rg : Nat) (A : Nat → Option Addr) (L C : Nat → Nat) (X : Nat → Nat → Nat → Int) (hp : PIn w ca n A L C X) (hw : SIs w wa words) (hnil : wa = none → words = [] ∧ wc = 0) (hchk : chk n L X words.length lk rg = (0, 0, 0)) (hc : COk n L X words.length lk rg) :
    Calls Tryd.prog 10 #[prgV ca n cc wa words.length wc lk rg] w fun e w' => ∃ (b : Nat → Nat → List I4) (va : Option Addr) (vc : Nat) (ua : Option Addr) (uc : Nat), e = .returned (.tuple #[.agg #[.slice va n vc, .slice ua words.length uc, .int .i64 lk, .int .i64 rg], ints3 0 0 0]) ∧ Hid ((∀ t, t < n → ConG X L rg t (b t)) ∧ (∀ V, Below w'.heap.size w' V → NewQ w n words lk rg b L (.returned (.agg #[.slice va n vc, .slice ua words.length uc, .int .i64 lk, .int .i64 rg])) V)) ∧ Below w.heap.size w w' := by
  obtain ⟨W3, hW3, hz3, hat⟩ := box3 w (.cells #[.slice ca n cc, .slice wa words.length wc, .int .i64 lk, .int .i64 rg] 25) (.cells #[nilV, nilV, .int .i64 0, .int .i64 0] 25) (.cells #[.int .i64 0, .int .i64 0, .int .i64 0] 29)
  have HCK : Hid (∀ V, Below w.heap.size w V → Calls Tryd.prog 26 #[.agg #[.slice ca n cc, .slice wa words.length wc, .int .i64 lk, .int .i64 rg]] V fun e w' => e = .returned (ints3 0 0 0) ∧ Below V.heap.size V w') := fun V hV => check_any ca n cc wa words.length wc lk rg A L C X 0 0 0 hchk V (hp.below hV)
  have HCH : Hid (∀ V, V.heap[w.heap.size]? = some (.cells #[.slice ca n cc, .slice wa words.length wc, .int .i64 lk, .int .i64 rg] 25) → Below w.heap.size w V → Calls Tryd.prog 27 #[.agg #[.slice ca n cc, .slice wa words.length wc, .int .i64 lk, .int .i64 rg], .func (.func 28) #[] #[.pointer (some ⟨w.heap.size, 0, none⟩)]] V fun e w' => ∃ (b : Nat → Nat → List I4) (va : Option Addr) (vc : Nat) (ua : Option Addr) (uc : Nat), e = .returned (.agg #[.slice va n vc, .slice ua words.length uc, .int .i64 lk, .int .i64 rg]) ∧ Hid ((∀ t, t < n → ConG X L rg t (b t)) ∧ NewQ V n words lk rg b L (.returned (.agg #[.slice va n vc, .slice ua words.length uc, .int .i64 lk, .int .i64 rg])) w') ∧ Below V.heap.size V w') := fun V hbx hV => by
    refine (changed_any V 28 30 #[.pointer (some ⟨w.heap.size, 0, none⟩)] (fun xs w => by kernel_rfl) (fun xs w => by kernel_rfl) ca n cc wa words wc lk rg A L C X (hw.below hV) hnil hc.m64 (hp.below hV) hc.n4 hc.L4 (ConG X L rg) (fun t bt ht hG => conG_led hc t bt ht hG) (conF_any V w.heap.size ca n cc words.length lk rg _ lk A L C X (hp.below hV) hc hbx)).mono ?_
    rintro e w' ⟨b, hG, hN⟩
    obtain ⟨va, vc, ua, uc, tv, rfl, h1, h2, h3, h4⟩ := hN
    exact ⟨b, va, vc, ua, uc, rfl, ⟨hG, va, vc, ua, uc, tv, rfl, h1, h2, h3, h4⟩, h4⟩
  have HAT := Hid.out (p := Hid _) hat
  have HW3 := Hid.out (p := Hid _) hW3
  obtain ⟨mw, hmw⟩ : ∃ k, words.length = k := ⟨_, rfl⟩
  have HML : Hid (words.length = mw) := hmw
  rw [hmw] at HCK HCH HAT HW3 ⊢
  clear hp hchk hat hW3 hw hnil hc hmw
  go_enter Tryd.func10, Tryd.ntmps10
  go_wp2_with fail
  rw [HW3.out]
  refine Calls.mono (HCK.out _ (HAT.out _ (Below.refl _ _)).1) ?_
  rintro e w1 ⟨rfl, hb1⟩
  obtain ⟨hw1, b0, b1, b2⟩ := HAT.out w1 hb1
  have hl2 : w.heap.size + 1 + 1 < w1.heap.size := box_lt b2
  have p0 : ∀ o, (w1.alloc o).cell? ⟨w.heap.size, 0, none⟩ = some (.slice ca n cc) := fun o => box_cell (box_later b0 o) rfl
  have p1 : ∀ o, (w1.alloc o).cell? ⟨w.heap.size, 1, none⟩ = some (.slice wa mw wc) := fun o => box_cell (box_later b0 o) rfl
  have p2 : ∀ o, (w1.alloc o).cell? ⟨w.heap.size, 2, none⟩ = some (.int .i64 lk) := fun o => box_cell (box_later b0 o) rfl
  have p3 : ∀ o, (w1.alloc o).cell? ⟨w.heap.size, 3, none⟩ = some (.int .i64 rg) := fun o => box_cell (box_later b0 o) rfl
  have H1 : Hid (Below W3.heap.size W3 w1 ∧ Below w.heap.size w w1) := ⟨hb1, hw1⟩
  have HB0 := Hid.out (p := Hid _) (And.intro b0 (And.intro b1 b2))
  clear hb1 hw1 b0 b1 b2 HW3 HCK
  have hb2 : Below w1.heap.size w1 (w1.alloc (.cells #[.int .i64 0, .int .i64 0, .int .i64 0] 29)) := (Below.refl _ _).alloc (Nat.le_refl _) _
  have HC := Hid.out (p := Hid _) (HCH.out (w1.alloc (.cells #[.int .i64 0, .int .i64 0, .int .i64 0] 29)) (box_later HB0.out.1 _) (H1.out.2.trans (hb2.mono H1.out.2.size)))
  clear HCH hb2
  go_wp2_with fail
  refine Calls.mono HC.out ?_
  rintro e w6 ⟨b, va6, vc6, ua6, uc6, rfl, HG, hb6⟩
  have hb16 : Below w1.heap.size w1 w6 := ((Below.refl _ _).alloc (Nat.le_refl _) _).trans (hb6.mono (by simp))
  have hl6 : w1.heap.size + 1 ≤ w6.heap.size := by simpa using hb6.size
  have hb36 : Below W3.heap.size W3 w6 := H1.out.1.trans (hb16.mono H1.out.1.size)
  obtain ⟨hw6, _, b1, b2⟩ := HAT.out w6 hb36
  have H6 := Hid.out (p := Hid _) hw6
  have t0 : w6.cell? ⟨w.heap.size + 1, 0, none⟩ = some nilV := box_cell b1 rfl
  have t1 : w6.cell? ⟨w.heap.size + 1, 1, none⟩ = some nilV := box_cell b1 rfl
  have t2 : w6.cell? ⟨w.heap.size + 1, 2, none⟩ = some (.int .i64 0) := box_cell b1 rfl
  have t3 : w6.cell? ⟨w.heap.size + 1, 3, none⟩ = some (.int .i64 0) := box_cell b1 rfl
  have u0 : w6.cell? ⟨w.heap.size + 1 + 1, 0, none⟩ = some (.int .i64 0) := box_cell b2 rfl
  have u1 : w6.cell? ⟨w.heap.size + 1 + 1, 1, none⟩ = some (.int .i64 0) := box_cell b2 rfl
  have u2 : w6.cell? ⟨w.heap.size + 1 + 1, 2, none⟩ = some (.int .i64 0) := box_cell b2 rfl
  have tf : ∀ i, w6.frozen? ⟨w.heap.size + 1, i, none⟩ = false := fun i => box_free b1
  have uf : ∀ i, w6.frozen? ⟨w.heap.size + 1 + 1, i, none⟩ = false := fun i => box_free b2
  have n1 : w6.heap.size ≠ w.heap.size + 1 := by omega
  have n2 : w6.heap.size ≠ w.heap.size + 1 + 1 := by omega
  have n3 : w.heap.size + 1 ≠ w6.heap.size := by omega
  have n4 : w.heap.size + 1 + 1 ≠ w6.heap.size := by omega
  clear hw6 hb36 hb16 hb6 b1 b2 HC
  go_wp2_with fail
  refine bodyPost_ret (v := .tuple #[.agg #[.slice va6 n vc6, .slice ua6 mw uc6, .int .i64 lk, .int .i64 rg], ints3 0 0 0]) (by simp [results, Tryd.results10, go_sem, t0, t1, t2, t3, u0, u1, u2]) rfl ?_
  have hbn := below7n H6.out (.slice va6 n vc6) (.slice ua6 mw uc6) (.int .i64 lk) (.int .i64 rg) (.int .i64 0) (.int .i64 0) (.int .i64 0)
  refine ⟨b, va6, vc6, ua6, uc6, rfl, ⟨HG.out.1, fun V hV => NewQ.below ?_ hV⟩, hbn⟩
  refine HG.out.2.far (fun g hg1 hg2 => ?_) (by have := H1.out.2.size; simp; omega) hbn
  rw [World.size_alloc] at hg1
  rw [far7 (by omega) (by omega)]
end

section
open Go.RowKit

theorem sis_own2 {w : World} {B : Nat} {a : Option Addr} {c : Nat} {l : List Int} (h : w.ownsRow B 3 1 (.slice a l.length c) l.length (intsV l)) : SIs w a l ∧ (a = none → l = [] ∧ c = 0) := by
  refine ⟨fun k hk => ?_, fun e => ?_⟩
  · obtain ⟨g, cap, e, hg, _⟩ := fam_block h (by omega)
    simp only [Value.slice.injEq] at e
    refine ⟨g, 0, e.1, ?_⟩
    rw [Nat.zero_add]
    exact fam_cell h hg (intsV_at hk)
  · subst e
    rcases h.2 with ⟨e, _⟩ | ⟨g, cap, cur, e, _⟩
    · simp only [Value.slice.injEq, true_and] at e
      exact ⟨List.length_eq_zero_iff.mp e.1, e.2⟩
    · simp at e
/-- All that is known of a program that was made anew. -/
theorem new_open {w U V : World} {n : Nat} {words : List Int} {lk rg : Int} {b : Nat → Nat → List I4} {L : Nat → Nat} {va : Option Addr} {vc : Nat} {ua : Option Addr} {uc : Nat} (hN : NewQ w n words lk rg b L (.returned (.agg #[.slice va n vc, .slice ua words.length uc, .int .i64 lk, .int .i64 rg])) U) (hb : Below U.heap.size U V) (hn : n ≤ 4) (hl : ∀ t, t < n → lenR b L t ≤ 1000) : (∃ A C, PIn V va n A (lenR b L) C (numR b L)) ∧ SIs V ua words ∧ (ua = none → words = [] ∧ uc = 0) := by
  obtain ⟨va', vc', ua', uc', tv, he, h1, h2, h3, _⟩ := hN.below hb
  simp only [Ending.returned.injEq, Value.agg.injEq, Array.mk.injEq, List.cons.injEq, Value.slice.injEq, true_and, and_true] at he
  obtain ⟨⟨rfl, rfl⟩, rfl, rfl⟩ := he
  obtain ⟨ca', cc', A', C', e1, hpin⟩ := new_pin h1 h2 (by omega) (fun t ht => by have := hl t ht; omega)
  simp only [Value.slice.injEq, true_and] at e1
  obtain ⟨rfl, rfl⟩ := e1
  exact ⟨⟨A', C', hpin⟩, sis_own2 h3⟩

/-- The orders anew, known of the thread's own alone. -/
theorem code_congr {b c : Nat → List I4} {L : Nat} (h : ∀ i, i < L → b i = c i) (ht : ∀ i x, i < L → x ∈ b i → (x.1 = 14 → x.2.1.toNat ≤ L) ∧ (x.1 = 15 → x.2.2.1.toNat ≤ L)) : codeR b L = codeR c L := by
  have hpl : ∀ j, j ≤ L → plR b j = plR c j := fun j hj => (raw_congr (fun i hi => h i (by omega))).2
  unfold codeR
  rw [← (raw_congr h).1]
  apply List.map_congr_left
  intro x hx
  obtain ⟨i, hi, hm⟩ := raw_mem hx
  obtain ⟨h1, h2⟩ := ht i x hi hm
  unfold ledO
  by_cases e1 : x.1 = 14
  · rw [if_pos e1, if_pos e1, hpl _ (h1 e1), if_neg (by omega), if_neg (by omega)]
  · rw [if_neg e1, if_neg e1]
    by_cases e2 : x.1 = 15
    · rw [if_pos e2, if_pos e2, hpl _ (h2 e2)]
    · rw [if_neg e2, if_neg e2]
theorem NewQ.congr {w V : World} {n : Nat} {words : List Int} {lk rg : Int} {b c : Nat → Nat → List I4} {L : Nat → Nat} {e : Ending} (h : NewQ w n words lk rg b L e V) (hbc : ∀ t, t < n → codeR (b t) (L t) = codeR (c t) (L t)) : NewQ w n words lk rg c L e V := by
  obtain ⟨va, vc, ua, uc, tv, h0, h1, h2, h3, h4⟩ := h
  exact ⟨va, vc, ua, uc, tv, h0, h1, fun t ht => by rw [← hbc t ht]; exact h2 t ht, h3, h4⟩
end

section
open Go.RowKit

/-- What Const made, by one solution for all threads. -/
theorem con_all {n m lk rg : Nat} {L : Nat → Nat} {X : Nat → Nat → Nat → Int} (hc : COk n L X m lk rg) {b : Nat → Nat → List I4} (h : ∀ t, t < n → ConG X L rg t (b t)) : ∃ E : Nat → Nat → Nat → Vl, (∀ t, t < n → LsV (X t) (L t) rg (E t)) ∧ ∀ t, t < n → codeR (b t) (L t) = codeR (bCon X E t) (L t) := by
  have h1 : ∀ t, ∃ E : Nat → Nat → Vl, t < n → LsV (X t) (L t) rg E ∧ ∀ i, i < L t → b t i = bConX (X t) i (E i) := fun t => by
    by_cases ht : t < n
    · obtain ⟨E, h2⟩ := h t ht
      exact ⟨E, fun _ => h2⟩
    · exact ⟨fun _ _ => .no, fun h => absurd h ht⟩
  refine ⟨fun t => Classical.choose (h1 t), fun t ht => (Classical.choose_spec (h1 t) ht).1, fun t ht => ?_⟩
  refine code_congr (fun i hi => (Classical.choose_spec (h1 t) ht).2 i hi) (fun i x hi hx => ?_)
  have h2 := (conG_led hc t (b t) ht (h t ht) i hi).2 x hx
  exact ⟨fun e => by have := h2.2.1 e; omega, fun e => by have := h2.2.2 e; omega⟩
theorem con_len {n m lk rg : Nat} {L : Nat → Nat} {X : Nat → Nat → Nat → Int} (hc : COk n L X m lk rg) (E : Nat → Nat → Nat → Vl) (t : Nat) (ht : t < n) : lenR (bCon X E) L t ≤ L t ∧ lenR (bCon X E) L t ≤ 1000 := by
  have h1 := one_len (L := L) (bCon_one X E) t
  have h2 := hc.L4 t ht
  omega
/-- What Dead made, by which orders are dead. -/
theorem dea_all {n m lk rg : Nat} {L : Nat → Nat} {X : Nat → Nat → Nat → Int} (hc : COk n L X m lk rg) {b : Nat → Nat → List I4} (h : ∀ t, t < n → DeaG X L t (b t)) : ∃ D : Nat → Nat → Bool, (∀ t i, t < n → i < L t → (D t i = true ↔ deadO (X t) (L t) i)) ∧ ∀ t, t < n → codeR (b t) (L t) = codeR (bLess D X t) (L t) := by
  classical
  refine ⟨fun t i => decide (deadO (X t) (L t) i), fun t i _ _ => by simp, fun t ht => ?_⟩
  refine code_congr (fun i hi => ?_) (fun i x hi hx => ?_)
  · obtain ⟨d, h1, h2⟩ := h t ht i hi
    have e : decide (deadO (X t) (L t) i) = d := by
      cases d with
      | true => exact decide_eq_true (h2.1 rfl)
      | false => exact decide_eq_false fun h3 => by cases h2.2 h3
    rw [h1]
    show _ = bDrop (decide (deadO (X t) (L t) i)) (ordAt X t i)
    rw [e]
  · have h2 := (deaG_led hc t (b t) ht (h t ht) i hi).2 x hx
    exact ⟨fun e => by have := h2.2.1 e; omega, fun e => by have := h2.2.2 e; omega⟩
end

section
open Go.RowKit

theorem made_const (w : World) (ca : Option Addr) (n cc : Nat) (wa : Option Addr) (wc lk rg : Nat) (words : List Int) (A : Nat → Option Addr) (L C : Nat → Nat) (X : Nat → Nat → Nat → Int) (hp : PIn w ca n A L C X) (hw : SIs w wa words) (hnil : wa = none → words = [] ∧ wc = 0) (hR : chk n L X words.length lk rg = (0, 0, 0)) (hn0 : 0 < n) (hc : COk n L X words.length lk rg) (W : World) (hb : Below w.heap.size w W) :
    Calls Tryd.prog 10 #[prgV ca n cc wa words.length wc lk rg] W (MadeQ w W (prgV ca n cc wa words.length wc lk rg) L X (beginX n words lk rg) 0 0 0) := by
  refine (const_may W ca n cc wa words wc lk rg A L C X (hp.below hb) (hw.below hb) hnil hR hc).mono ?_
  rintro e w' ⟨b, va, vc, ua, uc, rfl, HG, hb'⟩
  obtain ⟨E, hE, hcode⟩ := con_all hc HG.out.1
  refine ⟨va, n, vc, ua, words.length, uc, lk, rg, rfl, fun V hk hV _ => ?_, hb'⟩
  obtain ⟨⟨A', C', hp'⟩, hw', _⟩ := new_open (((HG.out.2 w' (Below.refl _ _)).far hk hb.size hV).congr hcode) (Below.refl _ _) hc.n4 (fun t ht => (con_len hc E t ht).2)
  have h1 := bCon_one X E
  have hbi := bCon_in hc E
  refine ⟨lenR (bCon X E) L, numR (bCon X E) L, fun U hU => ?_, fun me U hU => ?_, fun me U hU => ?_, fun me a b ha hb => ?_⟩
  · exact rcheck_any va n vc ua words.length uc lk rg A' _ C' _ 0 0 0 (newG_chk hc hn0 (chk_len hR) h1 hbi) U (hp'.below hU)
  · exact make_any U me ca n cc wa wc lk rg words A L C X (hw.below (hV.trans (hU.mono hV.size))) hn0 hc (hp.below (hV.trans (hU.mono hV.size)))
  · exact make_any U me va n vc ua uc lk rg words A' _ C' _ (hw'.below hU) hn0 (newG_cok hc h1 hbi) (hp'.below hU)
  · exact sim_same (con_sim hc hE) (by cases me <;> simp) hc ha hb
theorem made_dead (w : World) (ca : Option Addr) (n cc : Nat) (wa : Option Addr) (wc lk rg : Nat) (words : List Int) (A : Nat → Option Addr) (L C : Nat → Nat) (X : Nat → Nat → Nat → Int) (hp : PIn w ca n A L C X) (hw : SIs w wa words) (hnil : wa = none → words = [] ∧ wc = 0) (hR : chk n L X words.length lk rg = (0, 0, 0)) (hn0 : 0 < n) (hc : COk n L X words.length lk rg) (hT : TabZ w) (W : World) (hb : Below w.heap.size w W) :
    Calls Tryd.prog 11 #[prgV ca n cc wa words.length wc lk rg] W (MadeQ w W (prgV ca n cc wa words.length wc lk rg) L X (beginX n words lk rg) 0 0 0) := by
  refine (dead_may W ca n cc wa words wc lk rg A L C X (hp.below hb) (hw.below hb) hnil hR hc (hT.below hb)).mono ?_
  rintro e w' ⟨b, va, vc, ua, uc, rfl, HG, hb'⟩
  obtain ⟨D, hD, hcode⟩ := dea_all hc HG.out.1
  have hlen : ∀ t, t < n → lenR (bLess D X) L t ≤ 1000 := fun t ht => Nat.le_trans (less_len D X L t) (hc.L4 t ht)
  refine ⟨va, n, vc, ua, words.length, uc, lk, rg, rfl, fun V hk hV _ => ?_, hb'⟩
  obtain ⟨⟨A', C', hp'⟩, hw', _⟩ := new_open (((HG.out.2 w' (Below.refl _ _)).far hk hb.size hV).congr hcode) (Below.refl _ _) hc.n4 hlen
  have h1 := bLess_one D X
  have hbi := bLess_inO hc D
  refine ⟨lenR (bLess D X) L, numR (bLess D X) L, fun U hU => ?_, fun me U hU => ?_, fun me U hU => ?_, fun me a b ha hb => ?_⟩
  · exact rcheck_any va n vc ua words.length uc lk rg A' _ C' _ 0 0 0 (newG_chk hc hn0 (chk_len hR) h1 hbi) U (hp'.below hU)
  · exact make_any U me ca n cc wa wc lk rg words A L C X (hw.below (hV.trans (hU.mono hV.size))) hn0 hc (hp.below (hV.trans (hU.mono hV.size)))
  · exact make_any U me va n vc ua uc lk rg words A' _ C' _ (hw'.below hU) hn0 (newG_cok hc h1 hbi) (hp'.below hU)
  · exact sim_same (dead_sim hc fun t i ht hi h => (hD t i ht hi).1 h) (by cases me <;> simp) hc ha hb

theorem optHolds_any (w : World) (ca : Option Addr) (n cc : Nat) (wa : Option Addr) (wc : Nat) (lk rg : Int) (words : List Int) (A : Nat → Option Addr) (L C : Nat → Nat) (X : Nat → Nat → Nat → Int) (hm : words.length ≤ 9223372036854775807) (hp : PIn w ca n A L C X) (hw : SIs w wa words) (hnil : wa = none → words = [] ∧ wc = 0) (hT : TabZ w) :
    Calls Tryd.prog 4 #[prgV ca n cc wa words.length wc lk rg] w fun e w' => e = .returned (.bool true) ∧ Below w.heap.size w w' := by
  have HV : Hid (∀ W, Below w.heap.size w W → Calls Tryd.prog 9 #[prgV ca n cc wa words.length wc lk rg] W fun e w' => ∃ b, e = .returned (.bool b) ∧ Below W.heap.size W w') := fun W hb => (vast_any ca n cc wa words.length wc lk rg A L C X hm W (hp.below hb)).mono fun e w' ⟨⟨b, h1⟩, h2⟩ => ⟨b, h1, h2⟩
  obtain ⟨x, y, z, hR⟩ : ∃ x y z, chk n L X words.length lk rg = (x, y, z) := ⟨_, _, _, rfl⟩
  have HCK : Hid (∀ W, Below w.heap.size w W → Calls Tryd.prog 12 #[prgV ca n cc wa words.length wc lk rg] W fun e w' => e = .returned (ints3 x y z) ∧ Below W.heap.size W w') := fun W hb => rcheck_any ca n cc wa words.length wc lk rg A L C X x y z hR W (hp.below hb)
  by_cases hx : x = 0
  · obtain ⟨rfl, rfl, hn0, lk', rg', rfl, rfl, hc⟩ := chk_cok hR hx
    subst hx
    exact optHolds_walk w ca n cc wa words.length wc lk' rg' 0 0 0 L X (beginX n words lk' rg') HV (fun W hb => made_const w ca n cc wa wc lk' rg' words A L C X hp hw hnil hR hn0 hc W hb) (fun W hb => made_dead w ca n cc wa wc lk' rg' words A L C X hp hw hnil hR hn0 hc hT W hb) HCK
  · refine optHolds_walk w ca n cc wa words.length wc lk rg x y z L X (beginX n words lk rg) HV (fun W hb => ?_) (fun W hb => ?_) HCK
    · refine (const_no W ca n cc wa words.length wc lk rg x y z A L C X (hp.below hb) hR hx).mono ?_
      rintro e w' ⟨rfl, hb'⟩
      exact ⟨none, 0, 0, none, 0, 0, 0, 0, rfl, fun V _ _ h => absurd h hx, hb'⟩
    · refine (dead_no W ca n cc wa words.length wc lk rg x y z A L C X (hp.below hb) hR hx).mono ?_
      rintro e w' ⟨rfl, hb'⟩
      exact ⟨none, 0, 0, none, 0, 0, 0, 0, rfl, fun V _ _ h => absurd h hx, hb'⟩
end

end Go.Proofs.YtkailbdjilkneaaDoor
