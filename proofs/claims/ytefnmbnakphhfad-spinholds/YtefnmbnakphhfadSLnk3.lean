/-
  Words in place of locks, by the program: Link.
-/
import Derived.Test.YtefnmbnakphhfadNewC
import Derived.Test.YtefnmbnakphhfadZBeg
namespace Go.Proofs.Ytefnmbnakphhfad
open Go.RowKit

set_option maxRecDepth 100000 in
set_option maxHeartbeats 1600000 in
/-- Link, of a program that is refused ahead of any change. -/
theorem link_no (w : World) (ca : Option Addr) (n cc : Nat) (wa : Option Addr) (m wc : Nat) (lk rg x y z : Int) (A : Nat → Option Addr) (L C : Nat → Nat) (X : Nat → Nat → Nat → Int) (hp : PIn w ca n A L C X) (hr : refF (chk n L X m lk rg) m lk rg = (x, y, z)) (hb : (chk n L X m lk rg).1 = 0 → m ≤ 64 ∧ 0 ≤ lk ∧ lk ≤ 4) (hx : x ≠ 0) :
    Calls Try.prog 6 #[prgV ca n cc wa m wc lk rg] w fun e w' => e = .returned (.tuple #[noP, ints3 x y z]) ∧ Below w.heap.size w w' := by
  obtain ⟨W3, hW3, hz3, hat⟩ := box3 w (.cells #[.slice ca n cc, .slice wa m wc, .int .i64 lk, .int .i64 rg] 25) (.cells #[nilV, nilV, .int .i64 0, .int .i64 0] 25) (.cells #[.int .i64 0, .int .i64 0, .int .i64 0] 29)
  have HCK : Hid (∀ V, Below w.heap.size w V → Calls Try.prog 15 #[.agg #[.slice ca n cc, .slice wa m wc, .int .i64 lk, .int .i64 rg]] V fun e w' => e = .returned (ints3 x y z) ∧ Below V.heap.size V w') := fun V hV => refuse_any V ca n cc wa m wc lk rg A L C X (hp.below hV) x y z hr hb
  have hx' : (x != 0) = true := by simpa using hx
  have HAT := Hid.out (p := Hid _) hat
  have HW3 := Hid.out (p := Hid _) hW3
  clear hp hr hb hx hat hW3
  go_enter Try.func6, Try.ntmps6
  go_wp2_with fail
  rw [HW3.out]
  refine Calls.mono (HCK.out _ (HAT.out _ (Below.refl _ _)).1) ?_
  rintro e w1 ⟨rfl, hb1⟩
  obtain ⟨hw1, b0, b1, b2⟩ := HAT.out w1 hb1
  have t0 : ∀ o, (w1.alloc o).cell? ⟨w.heap.size + 1, 0, none⟩ = some nilV := fun o => box_cell (box_later b1 o) rfl
  have t1 : ∀ o, (w1.alloc o).cell? ⟨w.heap.size + 1, 1, none⟩ = some nilV := fun o => box_cell (box_later b1 o) rfl
  have t2 : ∀ o, (w1.alloc o).cell? ⟨w.heap.size + 1, 2, none⟩ = some (.int .i64 0) := fun o => box_cell (box_later b1 o) rfl
  have t3 : ∀ o, (w1.alloc o).cell? ⟨w.heap.size + 1, 3, none⟩ = some (.int .i64 0) := fun o => box_cell (box_later b1 o) rfl
  have u0 : ∀ o, (w1.alloc o).cell? ⟨w.heap.size + 1 + 1, 0, none⟩ = some (.int .i64 0) := fun o => box_cell (box_later b2 o) rfl
  have u1 : ∀ o, (w1.alloc o).cell? ⟨w.heap.size + 1 + 1, 1, none⟩ = some (.int .i64 0) := fun o => box_cell (box_later b2 o) rfl
  have u2 : ∀ o, (w1.alloc o).cell? ⟨w.heap.size + 1 + 1, 2, none⟩ = some (.int .i64 0) := fun o => box_cell (box_later b2 o) rfl
  have tf : ∀ o i, (w1.alloc o).frozen? ⟨w.heap.size + 1, i, none⟩ = false := fun o i => box_free (box_later b1 o)
  have uf : ∀ o i, (w1.alloc o).frozen? ⟨w.heap.size + 1 + 1, i, none⟩ = false := fun o i => box_free (box_later b2 o)
  have hl2 : w.heap.size + 1 + 1 < w1.heap.size := box_lt b2
  have n1 : w1.heap.size ≠ w.heap.size + 1 := by omega
  have n2 : w1.heap.size ≠ w.heap.size + 1 + 1 := by omega
  have n3 : w.heap.size + 1 ≠ w1.heap.size := by omega
  have n4 : w.heap.size + 1 + 1 ≠ w1.heap.size := by omega
  have HB1 := Hid.out (p := Hid _) hw1
  clear hw1 hb1 b0 b1 b2 HW3 HAT HCK
  go_wp2_with fail
  go_region
  all_goals go_wp2
  have hB : Below w.heap.size w (w1.alloc (.cells #[.int .i64 x, .int .i64 y, .int .i64 z] 29)) := HB1.out.alloc HB1.out.size _
  all_goals refine bodyPost_ret (v := .tuple #[noP, ints3 x y z]) (by simp [results, Try.results6, go_sem, t0, t1, t2, t3, u0, u1, u2]) rfl ⟨rfl, ?_⟩
  all_goals exact below7 hB _ _ _ _ _ _ _
attribute [local go_sem ↓] appS_eq in
set_option maxRecDepth 100000 in
set_option maxHeartbeats 3200000 in
/-- Link, of a program that may be linked. -/
theorem link_may (w : World) (ca : Option Addr) (n cc : Nat) (wa : Option Addr) (words : List Int) (wc lk rg : Nat) (x y z : Int) (A : Nat → Option Addr) (L C : Nat → Nat) (X : Nat → Nat → Nat → Int) (hp : PIn w ca n A L C X) (hw : SIs w wa words) (hnil : wa = none → words = [] ∧ wc = 0) (hchk : chk n L X words.length lk rg = (0, 0, 0)) (hc : COk n L X words.length lk rg) (hg : rg ≤ 6) (hm : words.length + lk ≤ 64) (hq : chk n (lenR (bSpin words.length X) L) (numR (bSpin words.length X) L) (words.length + lk) 0 8 = (x, y, z)) :
    Calls Try.prog 6 #[prgV ca n cc wa words.length wc lk rg] w fun e w' => if x = 0 then ∃ (va : Option Addr) (vc : Nat) (ua : Option Addr) (uc : Nat), e = .returned (.tuple #[.agg #[.slice va n vc, .slice ua (words.length + lk) uc, .int .i64 0, .int .i64 8], ints3 0 0 0]) ∧ Hid (∀ V, Below w'.heap.size w' V → NewQ w n (words ++ List.replicate lk 0) 0 8 (bSpin words.length X) L (.returned (.agg #[.slice va n vc, .slice ua (words.length + lk) uc, .int .i64 0, .int .i64 8])) V) ∧ Below w.heap.size w w' else e = .returned (.tuple #[noP, ints3 x y z]) ∧ Below w.heap.size w w' := by
  obtain ⟨W3, hW3, hz3, hat⟩ := box3 w (.cells #[.slice ca n cc, .slice wa words.length wc, .int .i64 lk, .int .i64 rg] 25) (.cells #[nilV, nilV, .int .i64 0, .int .i64 0] 25) (.cells #[.int .i64 0, .int .i64 0, .int .i64 0] 29)
  have HCK : Hid (∀ V, Below w.heap.size w V → Calls Try.prog 15 #[.agg #[.slice ca n cc, .slice wa words.length wc, .int .i64 lk, .int .i64 rg]] V fun e w' => e = .returned (ints3 0 0 0) ∧ Below V.heap.size V w') := fun V hV => refuse_any V ca n cc wa words.length wc lk rg A L C X (hp.below hV) 0 0 0 (by rw [hchk]; unfold refF; rw [if_neg (by simp), if_neg (by omega), if_neg (by omega)]) (fun _ => ⟨hc.m64, by omega, by have := hc.lk4; omega⟩)
  have HPT : Hid (∀ V, V.heap[w.heap.size]? = some (.cells #[.slice ca n cc, .slice wa words.length wc, .int .i64 lk, .int .i64 rg] 25) → Below w.heap.size w V → Calls Try.prog 16 #[.agg #[.slice ca n cc, .slice wa words.length wc, .int .i64 lk, .int .i64 rg], .func (.func 17) #[] #[.pointer (some ⟨w.heap.size, 0, none⟩)]] V (NewQ V n words lk rg (bSpin words.length X) L)) := fun V hbx hV => by
    have h := rewrite_any V ca n cc wa words wc lk rg 17 #[.pointer (some ⟨w.heap.size, 0, none⟩)] A L C X (bSpin words.length X) (hw.below hV) hnil hc.m64 (hp.below hV) (by have := hc.n4; omega) hc.L4 (fun t i _ _ => spin_len.1) (fun t i x ht hi hx => spin_led hc hg ht hi hx) (fun xs w => by kernel_rfl) (fun U t i hU ht hi => link1_any U w.heap.size ca n cc wa words.length wc lk rg A L C X t i (hp.below (hV.trans (hU.mono hV.size))) hc ht hi ((hU.block _ (box_lt hbx)).trans hbx))
    refine Calls.mono h ?_
    rintro e w' ⟨cv, uv, tv, rfl, h1, h2, h3, h4⟩
    obtain ⟨va, vc, rfl⟩ := fam_form h1
    obtain ⟨ua, uc, rfl⟩ := fam_form h3
    exact ⟨va, vc, ua, uc, tv, rfl, h1, h2, h3, h4⟩
  have HCQ : Hid (∀ V S qb va vc ua uc tv, RwI S qb (.slice ua (words.length + lk) uc) (words ++ List.replicate lk 0) 0 8 (bSpin words.length X) L n V (.slice va n vc) tv → Calls Try.prog 21 #[.agg #[.slice va n vc, .slice ua (words.length + lk) uc, .int .i64 0, .int .i64 8]] V fun e w' => e = .returned (ints3 x y z) ∧ Below V.heap.size V w') := fun V S qb va vc ua uc tv hR => by
    obtain ⟨ca', cc', A', C', e1, hpin⟩ := new_pin hR.code (fun t ht => (hR.thr t ht).1) (by have := hc.n4; omega) (fun t ht => by
      unfold lenR
      rw [code_len]
      have h4 := hc.L4 t ht
      have := spin_pl words.length X t (L t)
      omega)
    simp only [Value.slice.injEq, true_and] at e1
    obtain ⟨rfl, rfl⟩ := e1
    exact check_any va n vc ua (words.length + lk) uc 0 8 A' (lenR (bSpin words.length X) L) C' (numR (bSpin words.length X) L) x y z hq V hpin
  have HAT := Hid.out (p := Hid _) hat
  have HW3 := Hid.out (p := Hid _) hW3
  have hlk4 := hc.lk4
  obtain ⟨mw, hmw⟩ : ∃ k, words.length = k := ⟨_, rfl⟩
  have HMW : Hid (words.length = mw) := hmw
  rw [hmw] at HCK HPT HCQ HAT HW3 hm ⊢
  clear hp hchk hat hW3 hw hnil hc hq hmw hg
  go_enter Try.func6, Try.ntmps6
  go_wp2_with fail
  rw [HW3.out]
  refine Calls.mono (HCK.out _ (HAT.out _ (Below.refl _ _)).1) ?_
  rintro e w1 ⟨rfl, hb1⟩
  obtain ⟨hw1, b0, b1, b2⟩ := HAT.out w1 hb1
  have hl2 : w.heap.size + 1 + 1 < w1.heap.size := box_lt b2
  have p0 : ∀ o, (w1.alloc o).cell? ⟨w.heap.size, 0, none⟩ = some (.slice ca n cc) := fun o => box_cell (box_later b0 o) rfl
  have p1 : ∀ o, (w1.alloc o).cell? ⟨w.heap.size, 1, none⟩ = some (.slice wa mw wc) := fun o => box_cell (box_later b0 o) rfl
  have p2 : ∀ o, (w1.alloc o).cell? ⟨w.heap.size, 2, none⟩ = some (.int .i64 lk) := fun o => box_cell (box_later b0 o) rfl
  have p3 : ∀ o, (w1.alloc o).cell? ⟨w.heap.size, 3, none⟩ = some (.int .i64 rg) := fun o => box_cell (box_later b0 o) rfl
  have H1 : Hid (Below W3.heap.size W3 w1 ∧ Below w.heap.size w w1 ∧ w1.heap[w.heap.size]? = some (.cells #[.slice ca n cc, .slice wa mw wc, .int .i64 lk, .int .i64 rg] 25)) := ⟨hb1, hw1, b0⟩
  clear hb1 hw1 b0 b1 b2 HW3 HCK
  go_wp2_with fail
  have hbU : Below w.heap.size w (w1.alloc (.cells #[.int .i64 0, .int .i64 0, .int .i64 0] 29)) := H1.out.2.1.alloc H1.out.2.1.size _
  refine Calls.mono (HPT.out _ (box_later H1.out.2.2 _) hbU) ?_
  rintro e w2 ⟨va, vc, ua, uc, tv, rfl, h1, h2, h3, h4⟩
  have hR := new_box (lk := (lk : Int)) (rg := (rg : Int)) h1 h2 h3 h4
  rw [HMW.out] at hR ⊢
  obtain ⟨U, hU⟩ : ∃ V, w1.alloc (.cells #[.int .i64 0, .int .i64 0, .int .i64 0] 29) = V := ⟨_, rfl⟩
  have hUs : U.heap.size = w1.heap.size + 1 := by rw [← hU]; simp
  have hbU3 : Below W3.heap.size W3 U := by rw [← hU]; exact H1.out.1.alloc H1.out.1.size _
  rw [hU] at hR hbU h4
  have HU3 : Hid (Below W3.heap.size W3 U ∧ Below w.heap.size w U) := ⟨hbU3, hbU⟩
  have hs12 : U.heap.size ≤ w2.heap.size := h4.size
  obtain ⟨W4, hW4⟩ : ∃ V, w2.alloc (.cells #[.slice va n vc, .slice ua mw uc, .int .i64 lk, .int .i64 rg] 25) = V := ⟨_, rfl⟩
  have HW4 := Hid.out (p := Hid _) hW4
  rw [hW4] at hR
  obtain ⟨qb, hqb⟩ : ∃ q, w2.heap.size = q := ⟨_, rfl⟩
  rw [hqb] at hR hs12
  have HQ4 := Hid.out (p := Hid _) hqb
  have HR := Hid.out (p := Hid _) hR
  obtain ⟨_, hp4, _⟩ := HAT.out w2 (hbU3.trans (h4.mono hbU3.size))
  have z2 : ∀ o, (w2.alloc o).cell? ⟨w.heap.size, 2, none⟩ = some (.int .i64 lk) := fun o => box_cell (box_later hp4 o) rfl
  clear hR h1 h2 h3 h4 hW4 hbU hbU3 hU p0 p1 p2 p3 HPT H1 hp4 hqb
  go_wp2
  rw [HW4.out, HQ4.out]
  clear HW4 z2
  go_loopw [19] (fun i wr => ∃ (k : Nat) (ub : Option Addr) (ud : Nat), k ≤ lk ∧ i = .int .i64 k ∧ Hid (RwI U qb (.slice ub (mw + k) ud) (words ++ List.replicate k 0) lk rg (bSpin mw X) L n wr (.slice va n vc) tv)) (fun i _ => lk - (intOf i).toNat)
  case atStart => exact ⟨0, _, _, Nat.zero_le _, rfl, by show RwI _ _ _ _ _ _ _ _ _ _ _ _; simpa using HR.out⟩
  case round =>
    obtain ⟨k, ub, ud, hk, rfl, HL⟩ := hrel
    clear HR
    have hwl : (words ++ List.replicate k 0).length = mw + k := by rw [List.length_append, List.length_replicate, HMW.out]
    by_cases hlt : k < lk
    · obtain ⟨g3, cap3, w3, hrun3, hbx3, hR3⟩ := HL.out.word 0 (by rw [hwl]; omega)
      rw [hwl] at hrun3 hR3
      have x1 := box_cell (i := 1) HL.out.box rfl
      have x3 := box_cell (i := 1) hbx3 rfl
      have xf : w3.frozen? ⟨qb, 1, none⟩ = false := box_free hbx3
      have HR3 : Hid (RwI U qb (.slice (some ⟨g3, 0, none⟩) (mw + (k + 1)) cap3) (words ++ List.replicate (k + 1) 0) lk rg (bSpin mw X) L n (w3.setCell ⟨qb, 1, none⟩ (.slice (some ⟨g3, 0, none⟩) (mw + k + 1) cap3)) (.slice va n vc) tv) := by
        show RwI _ _ _ _ _ _ _ _ _ _ _ _
        rw [List.replicate_succ', ← List.append_assoc, ← Nat.add_assoc]
        exact hR3
      clear hR3 hbx3 hwl
      go_wp2
      go_roundw
      case rel => exact ⟨k + 1, _, _, by omega, by go_num, HR3⟩
      case measure => simp [intOf]; omega
    · have hkn : k = lk := by omega
      subst hkn
      have hbx := HL.out.box
      have y0 := box_cell (i := 0) hbx rfl
      have y1 := box_cell (i := 1) hbx rfl
      have y2 := box_cell (i := 2) hbx rfl
      have y3 := box_cell (i := 3) hbx rfl
      have yf : ∀ i, wr.frozen? ⟨qb, i, none⟩ = false := fun i => box_free hbx
      have hR5 := HL.out.nums 0 8
      obtain ⟨W5, hW5⟩ : ∃ V, (wr.setCell ⟨qb, 2, none⟩ (.int .i64 0)).setCell ⟨qb, 3, none⟩ (.int .i64 8) = V := ⟨_, rfl⟩
      have HW5 := Hid.out (p := Hid _) hW5
      rw [hW5] at hR5
      have HR5 := Hid.out (p := Hid _) hR5
      obtain ⟨lk, rfl⟩ : ∃ l, l = k := ⟨_, rfl⟩
      clear hR5 hW5 hbx hwl HL
      go_wp2_with fail
      rw [HW5.out]
      refine Calls.mono (HCQ.out W5 U qb va vc ub ud tv HR5.out) ?_
      rintro e w6 ⟨rfl, hb6⟩
      have hR6 := HR5.out.below hb6
      have hU6 := HU3.out.1.trans (hR6.low.mono HU3.out.1.size)
      obtain ⟨hw6, b0, b1, b2⟩ := HAT.out w6 hU6
      have b3 := hR6.box
      have t0 : ∀ o, (w6.alloc o).cell? ⟨w.heap.size + 1, 0, none⟩ = some nilV := fun o => box_cell (box_later b1 o) rfl
      have t1 : ∀ o, (w6.alloc o).cell? ⟨w.heap.size + 1, 1, none⟩ = some nilV := fun o => box_cell (box_later b1 o) rfl
      have t2 : ∀ o, (w6.alloc o).cell? ⟨w.heap.size + 1, 2, none⟩ = some (.int .i64 0) := fun o => box_cell (box_later b1 o) rfl
      have t3 : ∀ o, (w6.alloc o).cell? ⟨w.heap.size + 1, 3, none⟩ = some (.int .i64 0) := fun o => box_cell (box_later b1 o) rfl
      have u0 : ∀ o, (w6.alloc o).cell? ⟨w.heap.size + 1 + 1, 0, none⟩ = some (.int .i64 0) := fun o => box_cell (box_later b2 o) rfl
      have u1 : ∀ o, (w6.alloc o).cell? ⟨w.heap.size + 1 + 1, 1, none⟩ = some (.int .i64 0) := fun o => box_cell (box_later b2 o) rfl
      have u2 : ∀ o, (w6.alloc o).cell? ⟨w.heap.size + 1 + 1, 2, none⟩ = some (.int .i64 0) := fun o => box_cell (box_later b2 o) rfl
      have tf : ∀ o i, (w6.alloc o).frozen? ⟨w.heap.size + 1, i, none⟩ = false := fun o i => box_free (box_later b1 o)
      have uf : ∀ o i, (w6.alloc o).frozen? ⟨w.heap.size + 1 + 1, i, none⟩ = false := fun o i => box_free (box_later b2 o)
      have s0 : ∀ o, (w6.alloc o).cell? ⟨qb, 0, none⟩ = some (.slice va n vc) := fun o => box_cell (box_later b3 o) rfl
      have s1 : ∀ o, (w6.alloc o).cell? ⟨qb, 1, none⟩ = some (.slice ub (mw + lk) ud) := fun o => box_cell (box_later b3 o) rfl
      have s2 : ∀ o, (w6.alloc o).cell? ⟨qb, 2, none⟩ = some (.int .i64 0) := fun o => box_cell (box_later b3 o) rfl
      have s3 : ∀ o, (w6.alloc o).cell? ⟨qb, 3, none⟩ = some (.int .i64 8) := fun o => box_cell (box_later b3 o) rfl
      have hl6 : qb < w6.heap.size := box_lt b3
      have n1 : w6.heap.size ≠ w.heap.size + 1 := by omega
      have n2 : w6.heap.size ≠ w.heap.size + 1 + 1 := by omega
      have n3 : w.heap.size + 1 ≠ w6.heap.size := by omega
      have n4 : w.heap.size + 1 + 1 ≠ w6.heap.size := by omega
      have n5 : qb ≠ w.heap.size + 1 := by omega
      have n6 : qb ≠ w.heap.size + 1 + 1 := by omega
      have n7 : w.heap.size + 1 ≠ qb := by omega
      have n8 : w.heap.size + 1 + 1 ≠ qb := by omega
      have hNQ : NewQ U n (words ++ List.replicate lk 0) 0 8 (bSpin mw X) L (.returned (.agg #[.slice va n vc, .slice ub (mw + lk) ud, .int .i64 0, .int .i64 8])) w6 := by
        have hwl : (words ++ List.replicate lk 0).length = mw + lk := by rw [List.length_append, List.length_replicate, HMW.out]
        refine ⟨va, vc, ub, ud, tv, by rw [hwl], hR6.code, fun t ht => (hR6.thr t ht).1, ?_, hR6.low⟩
        have := hR6.words
        rw [hwl] at this ⊢
        exact this
      have H3 : Hid (Below w.heap.size w w6 ∧ NewQ U n (words ++ List.replicate lk 0) 0 8 (bSpin mw X) L (.returned (.agg #[.slice va n vc, .slice ub (mw + lk) ud, .int .i64 0, .int .i64 8])) w6) := ⟨hw6, hNQ⟩
      clear hw6 hU6 hR6 hb6 b0 b1 b2 b3 HAT HCQ hNQ HR5 HW5 y0 y1 y2 y3 yf
      by_cases hx : x = 0
      · subst hx
        go_wp2
        have hB : Below w.heap.size w (w6.alloc (.cells #[.int .i64 0, .int .i64 y, .int .i64 z] 29)) := H3.out.1.alloc H3.out.1.size _
        have hbn := below7n hB (.slice va n vc) (.slice ub (mw + lk) ud) (.int .i64 0) (.int .i64 8) (.int .i64 0) (.int .i64 0) (.int .i64 0)
        refine bodyPost_ret (v := .tuple #[.agg #[.slice va n vc, .slice ub (mw + lk) ud, .int .i64 0, .int .i64 8], ints3 0 0 0]) (by simp [results, Try.results6, go_sem, t0, t1, t2, t3, u0, u1, u2]) rfl ⟨va, vc, ub, ud, rfl, fun V hV => ?_, hbn⟩
        refine NewQ.below (V := (((((((w6.alloc (.cells #[.int .i64 0, .int .i64 y, .int .i64 z] 29)).setCell ⟨w.heap.size + 1, 0, none⟩ (.slice va n vc)).setCell ⟨w.heap.size + 1, 1, none⟩ (.slice ub (mw + lk) ud)).setCell ⟨w.heap.size + 1, 2, none⟩ (.int .i64 0)).setCell ⟨w.heap.size + 1, 3, none⟩ (.int .i64 8)).setCell ⟨w.heap.size + 1 + 1, 0, none⟩ (.int .i64 0)).setCell ⟨w.heap.size + 1 + 1, 1, none⟩ (.int .i64 0)).setCell ⟨w.heap.size + 1 + 1, 2, none⟩ (.int .i64 0)) ?_ hV
        refine H3.out.2.far (fun g hg1 hg2 => ?_) (by omega) hbn
        rw [far7 (by omega) (by omega)]
        exact ((Below.refl w6.heap.size w6).alloc (Nat.le_refl _) _).block g hg2
      · have hx' : (x != 0) = true := by simpa using hx
        go_wp2_with fail
        go_region
        all_goals go_wp2
        have hB : Below w.heap.size w (w6.alloc (.cells #[.int .i64 x, .int .i64 y, .int .i64 z] 29)) := H3.out.1.alloc H3.out.1.size _
        all_goals exact bodyPost_ret (v := .tuple #[noP, ints3 x y z]) (by simp [results, Try.results6, go_sem, t0, t1, t2, t3, u0, u1, u2]) rfl ⟨rfl, below7 hB _ _ _ _ _ _ _⟩

end Go.Proofs.Ytefnmbnakphhfad
