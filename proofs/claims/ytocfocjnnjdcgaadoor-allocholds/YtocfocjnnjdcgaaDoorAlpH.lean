/-
  The program with colours for registers: by the program, of one that may be.
-/
import Derived.Test.YtocfocjnnjdcgaaDoorAlpF
import Derived.Test.YtocfocjnnjdcgaaDoorBox
namespace Go.Proofs.YtocfocjnnjdcgaaDoor
open Go.RowKit

/-- A program and a fault, stored. -/
theorem res7 {w W : World} (hb : Below w.heap.size w W) {p q r s f g h : Value} (h1 : W.heap[w.heap.size + 1]? = some (.cells #[p, q, r, s] 25)) (h2 : W.heap[w.heap.size + 1 + 1]? = some (.cells #[f, g, h] 30)) (a b c d x y z : Value) :
    ∃ V, (((((((W.setCell ⟨w.heap.size + 1, 0, none⟩ a).setCell ⟨w.heap.size + 1, 1, none⟩ b).setCell ⟨w.heap.size + 1, 2, none⟩ c).setCell ⟨w.heap.size + 1, 3, none⟩ d).setCell ⟨w.heap.size + 1 + 1, 0, none⟩ x).setCell ⟨w.heap.size + 1 + 1, 1, none⟩ y).setCell ⟨w.heap.size + 1 + 1, 2, none⟩ z) = V ∧ (V.cell? ⟨w.heap.size + 1, 0, none⟩ = some a ∧ V.cell? ⟨w.heap.size + 1, 1, none⟩ = some b ∧ V.cell? ⟨w.heap.size + 1, 2, none⟩ = some c ∧ V.cell? ⟨w.heap.size + 1, 3, none⟩ = some d ∧ V.cell? ⟨w.heap.size + 1 + 1, 0, none⟩ = some x ∧ V.cell? ⟨w.heap.size + 1 + 1, 1, none⟩ = some y ∧ V.cell? ⟨w.heap.size + 1 + 1, 2, none⟩ = some z) ∧ Below w.heap.size w V ∧ ∀ k, k ≠ w.heap.size + 1 → k ≠ w.heap.size + 1 + 1 → V.heap[k]? = W.heap[k]? := by
  have e1 := (set3_far (F := w.heap.size + 1 + 1) (g := w.heap.size + 1) (by omega) x y z).trans (set4_is h1 a b c d)
  have e2 := set3_is ((set4_far (F := w.heap.size + 1) (g := w.heap.size + 1 + 1) (by omega) a b c d).trans h2) x y z
  exact ⟨_, rfl, ⟨box_cell (i := 0) e1 rfl, box_cell (i := 1) e1 rfl, box_cell (i := 2) e1 rfl, box_cell (i := 3) e1 rfl, box_cell (i := 0) e2 rfl, box_cell (i := 1) e2 rfl, box_cell (i := 2) e2 rfl⟩, set3_low (set4_low hb (by omega) a b c d) (by omega) x y z, fun k hk1 hk2 => (set3_far hk2 x y z).trans (set4_far hk1 a b c d)⟩

attribute [local go_sem ↓] appS_eq in
set_option maxRecDepth 100000 in
set_option maxHeartbeats 6400000 in
theorem apply_may (w : World) (ca : Option Addr) (n cc : Nat) (wa : Option Addr) (words : List Int) (wc lk rg : Nat) (A : Nat → Option Addr) (L C : Nat → Nat) (X : Nat → Nat → Nat → Int) (ka : Option Addr) (kc : Nat) (K : List (List Int)) (x y z : Int) (hp : PIn w ca n A L C X) (hw : SIs w wa words) (hnil : wa = none → words = [] ∧ wc = 0) (hc : COk n L X words.length lk rg) (hT : TabZ w) (hK : CIn w ka K) (hyes : ColP K n L X rg)
    (hq : chk n (lenR (bPnt words.length rg K X) L) (numR (bPnt words.length rg K X) L) (words.length + spT K rg n) lk 8 = (x, y, z))
    (HC : Hid (∀ W, Below w.heap.size w W → Calls Tryd.prog 41 #[prgV ca n cc wa words.length wc lk rg] W fun e w' => e = .returned (ints3 0 0 0) ∧ Below W.heap.size W w')) :
    Calls Tryd.prog 18 #[prgV ca n cc wa words.length wc lk rg, .slice ka n kc] w fun e w' => if x = 0 then ∃ (va : Option Addr) (vc : Nat) (ua : Option Addr) (uc : Nat), e = .returned (.tuple #[.agg #[.slice va n vc, .slice ua (words.length + spT K rg n) uc, .int .i64 lk, .int .i64 8], ints3 0 0 0]) ∧ Hid (∀ V, Below w'.heap.size w' V → NewQ w n (words ++ List.replicate (spT K rg n) 0) lk 8 (bPnt words.length rg K X) L (.returned (.agg #[.slice va n vc, .slice ua (words.length + spT K rg n) uc, .int .i64 lk, .int .i64 8])) V) ∧ Below w.heap.size w w' else e = .returned (.tuple #[zeP, ints3 x y z]) ∧ Below w.heap.size w w' := by
  obtain ⟨W3, hW3, hz3, hat⟩ := box3 w (.cells #[.slice ca n cc, .slice wa words.length wc, .int .i64 lk, .int .i64 rg] 25) (.cells #[nilV, nilV, .int .i64 0, .int .i64 0] 25) (.cells #[.int .i64 0, .int .i64 0, .int .i64 0] 30)
  have hn4 := hc.n4
  have hrow : ∀ t, t < n → (K.getD t []).length = rg := fun t ht => (hyes.2 t ht).1
  have hlow : ∀ t r, t < n → r < rg → -1 ≤ (K.getD t []).getD r 0 ∧ (K.getD t []).getD r 0 < 6 := fun t r ht hr => ⟨((hyes.2 t ht).2 r hr).1, ((hyes.2 t ht).2 r hr).2.1⟩
  have hk6 : ∀ t, t < n → Col6 (K.getD t []) rg := fun t ht r hr => (hlow t r ht hr).2
  have HCK : Hid (∀ V, Below w.heap.size w V → Calls Tryd.prog 37 #[.agg #[.slice ca n cc, .slice wa words.length wc, .int .i64 lk, .int .i64 rg], .slice ka n kc] V fun e w' => e = .returned (.tuple #[.bool true, ints3 0 0 0]) ∧ Below V.heap.size V w') := fun V hV => by
    refine (acheck_yes V ca n cc wa words.length wc lk rg A L C X ka n kc K (hp.below hV) hc (hT.below hV) (hK.below hV) hyes.1 (by omega) (fun U hU => HC.out U (hV.trans (hU.mono hV.size)))).mono ?_
    rintro e w' ⟨b, rfl, h1, h2⟩
    obtain rfl : b = true := h1.2 hyes
    exact ⟨rfl, h2⟩
  have HBR : Hid (∀ V, Below w.heap.size w V → Calls Tryd.prog 38 #[.agg #[.slice ca n cc, .slice wa words.length wc, .int .i64 lk, .int .i64 rg], .slice ka n kc] V fun e w' => ∃ mb, e = .returned (.agg #[.slice ca n cc, .slice ka n kc, .map (some mb)]) ∧ WMap w' mb (spT K rg n) (fwT words.length K rg n 0) ∧ V.heap.size ≤ mb ∧ Below V.heap.size V w') := fun V hV =>
    brush_any V ca n cc wa words.length wc lk rg ka n kc rg K (hK.below hV) hyes.1 hn4 hrow hc.rg2 (fun t r ht hr => (hlow t r ht hr).1) hc.m64
  have HPT : Hid (∀ V mb, WMap V mb (spT K rg n) (fwT words.length K rg n 0) → Below w.heap.size w V → Calls Tryd.prog 39 #[.agg #[.slice ca n cc, .slice wa words.length wc, .int .i64 lk, .int .i64 rg], .func (.func 40) #[.agg #[.slice ca n cc, .slice ka n kc, .map (some mb)]] #[]] V (NewQ V n words lk rg (bPnt words.length rg K X) L)) := fun V mb hM hV => by
    have h := rewrite_bnd V ca n cc wa words wc lk rg 40 (.agg #[.slice ca n cc, .slice ka n kc, .map (some mb)]) A L C X (bPnt words.length rg K X) (hw.below hV) hnil hc.m64 (hp.below hV) (by omega) hc.L4 (fun t i _ _ => bPnt_len t i) (fun t i x ht hi hx => bPnt_led hc hk6 ht hi hx) (fun xs w => by kernel_rfl) (fun U t i hU ht hi => by
      have hVU := hV.trans (hU.mono hV.size)
      have hok := hc.ord t i ht hi
      refine become_any U ca n cc ka n kc mb K words.length rg A L C X ⟨hK.below hVU, hyes.1, hrow, hlow, ⟨hn4, hc.rg2, hc.m64⟩, hM.below hU⟩ (hp.below hVU) t i ht ht hi (ok_op hok) (ok_rd hok) (wr_ok hok))
    refine Calls.mono h ?_
    rintro e w' ⟨cv, uv, tv, rfl, h1, h2, h3, h4⟩
    obtain ⟨va, vc, rfl⟩ := fam_form h1
    obtain ⟨ua, uc, rfl⟩ := fam_form h3
    exact ⟨va, vc, ua, uc, tv, rfl, h1, h2, h3, h4⟩
  have HCQ : Hid (∀ V S qb va vc ua uc tv, RwI S qb (.slice ua (words.length + spT K rg n) uc) (words ++ List.replicate (spT K rg n) 0) lk 8 (bPnt words.length rg K X) L n V (.slice va n vc) tv → Calls Tryd.prog 41 #[.agg #[.slice va n vc, .slice ua (words.length + spT K rg n) uc, .int .i64 lk, .int .i64 8]] V fun e w' => e = .returned (ints3 x y z) ∧ Below V.heap.size V w') := fun V S qb va vc ua uc tv hR => by
    obtain ⟨ca', cc', A', C', e1, hpin⟩ := new_pin hR.code (fun t ht => (hR.thr t ht).1) (by omega) (fun t ht => by
      unfold lenR
      rw [code_len]
      have h4 := hc.L4 t ht
      have := plR_four (b := bPnt words.length rg K X t) (fun i => bPnt_len t i) (L t)
      omega)
    simp only [Value.slice.injEq, true_and] at e1
    obtain ⟨rfl, rfl⟩ := e1
    exact check_any va n vc ua (words.length + spT K rg n) uc lk 8 A' (lenR (bPnt words.length rg K X) L) C' (numR (bPnt words.length rg K X) L) x y z hq V hpin
  have HAT := Hid.out (p := Hid _) hat
  have HW3 := Hid.out (p := Hid _) hW3
  obtain ⟨mw, hmw⟩ : ∃ k, words.length = k := ⟨_, rfl⟩
  have HMW : Hid (words.length = mw) := hmw
  have hm64 := hc.m64
  have hsp : spT K rg n ≤ 1000 := by
    have h1 := spT_le K rg n
    have h2 : n * rg ≤ 4 * 200 := Nat.mul_le_mul hn4 hc.rg2
    omega
  obtain ⟨sp, hspe⟩ : ∃ k, spT K rg n = k := ⟨_, rfl⟩
  rw [hmw, hspe] at HBR HPT HCQ ⊢
  rw [hmw] at HCK HAT HW3 hm64
  rw [hspe] at hsp
  obtain ⟨B, hB⟩ : ∃ b, bPnt mw rg K X = b := ⟨_, rfl⟩
  rw [hB] at HPT HCQ ⊢
  obtain ⟨F, hF⟩ : ∃ f, fwT mw K rg n 0 = f := ⟨_, rfl⟩
  rw [hF] at HBR HPT
  clear HC hp hat hW3 hw hnil hc hq hmw hT hK hyes hrow hlow hk6 hspe hB hF
  go_enter Tryd.func18, Tryd.ntmps18
  go_wp2_with fail
  rw [HW3.out]
  refine Calls.mono (HCK.out _ (HAT.out _ (Below.refl _ _)).1) ?_
  rintro e w1 ⟨rfl, hb1⟩
  obtain ⟨hw1, b0, b1, b2⟩ := HAT.out w1 hb1
  have hl2 : w.heap.size + 1 + 1 < w1.heap.size := box_lt b2
  have p0 : ∀ o, (w1.alloc o).cell? ⟨w.heap.size, 0, none⟩ = some (.slice ca n cc) := fun o => box_cell (box_later b0 o) rfl
  have p1 : ∀ o, (w1.alloc o).cell? ⟨w.heap.size, 1, none⟩ = some (.slice wa mw wc) := fun o => box_cell (box_later b0 o) rfl
  have p2 : ∀ o, (w1.alloc o).cell? ⟨w.heap.size, 2, none⟩ = some (.int .i64 lk) := fun o => box_cell (box_later b0 o) rfl
  have p3 : ∀ o, (w1.alloc o).cell? ⟨w.heap.size, 3, none⟩ = some (.int .i64 rg) := fun o => box_cell (box_later b0 o) rfl
  have H1 : Hid (Below W3.heap.size W3 w1 ∧ Below w.heap.size w w1) := ⟨hb1, hw1⟩
  clear hb1 hw1 b0 b1 b2 HW3 HCK
  go_wp2_with fail
  have hbU : Below w.heap.size w (w1.alloc (.cells #[.int .i64 0, .int .i64 0, .int .i64 0] 30)) := H1.out.2.alloc H1.out.2.size _
  refine Calls.mono (HBR.out _ hbU) ?_
  rintro e w2 ⟨mb, rfl, hM2, hmb, hb2⟩
  have hb02 := hbU.trans (hb2.mono hbU.size)
  have hN2 := heap_alloc_new w2 (.cells #[.slice ca n cc, .slice ka n kc, .map (some mb)] 75)
  have h2N := below_one w2 (.cells #[.slice ca n cc, .slice ka n kc, .map (some mb)] 75)
  have hbN := hb02.alloc hb02.size (.cells #[.slice ca n cc, .slice ka n kc, .map (some mb)] 75)
  have hMN := hM2.below h2N
  have h3N : Below W3.heap.size W3 (w2.alloc (.cells #[.slice ca n cc, .slice ka n kc, .map (some mb)] 75)) := by
    have h0 := H1.out.1.alloc H1.out.1.size (.cells #[.int .i64 0, .int .i64 0, .int .i64 0] 30)
    have h1 := h0.trans (hb2.mono h0.size)
    exact h1.alloc h1.size _
  obtain ⟨-, c0, -, -⟩ := HAT.out _ h3N
  have g0 := box_cell (i := 0) c0 rfl
  have g1 := box_cell (i := 1) c0 rfl
  have g2 := box_cell (i := 2) c0 rfl
  have g3 := box_cell (i := 3) c0 rfl
  have k0 := box_cell (i := 0) hN2 rfl
  have k1 := box_cell (i := 1) hN2 rfl
  have k2 := box_cell (i := 2) hN2 rfl
  obtain ⟨U, hU⟩ : ∃ V, w2.alloc (.cells #[.slice ca n cc, .slice ka n kc, .map (some mb)] 75) = V := ⟨_, rfl⟩
  have HU := Hid.out (p := Hid _) hU
  rw [hU] at hN2 hbN hMN h3N
  have HPU := Hid.out (p := Hid _) (HPT.out U mb hMN hbN)
  have H2 := Hid.out (p := Hid _) (And.intro hN2 (And.intro hbN (And.intro hMN (And.intro h3N (box_lt hN2)))))
  clear hM2 hmb hb2 hb02 hN2 h2N hbN hMN h3N c0 hU HPT H1 p0 p1 p2 p3 hbU HBR
  go_wp2_with fail
  rw [HU.out]
  refine Calls.mono HPU.out ?_
  rintro e w3 ⟨va, vc, ua, uc, tv, rfl, h1, h2, h3, h4⟩
  have hR := new_box (lk := (lk : Int)) (rg := (rg : Int)) h1 h2 h3 h4
  rw [HMW.out] at hR ⊢
  have h34 := below_one w3 (.cells #[.slice va n vc, .slice ua mw uc, .int .i64 lk, .int .i64 rg] 25)
  have hU4 := h4.trans (h34.mono h4.size)
  have hM4 := H2.out.2.2.1.below hU4
  have hk4 := blk hU4 H2.out.1
  have hln := wmap_len hM4
  have k2 := box_cell (i := 2) hk4 rfl
  have x1 := box_cell (i := 1) hR.box rfl
  obtain ⟨ub, ud, w5, hrun5, hbx5, hR5⟩ := hR.zeros sp (by rw [HMW.out]; omega)
  rw [HMW.out] at hrun5 hR5
  have x5 := box_cell (i := 1) hbx5 rfl
  have xf5 : ∀ i, w5.frozen? ⟨w3.heap.size, i, none⟩ = false := fun i => box_free hbx5
  have v3 := box_cell (i := 3) hR5.box rfl
  have vf : ∀ i, (w5.setCell ⟨w3.heap.size, 1, none⟩ (.slice ub (mw + sp) ud)).frozen? ⟨w3.heap.size, i, none⟩ = false := fun i => box_free hR5.box
  have hR6 := hR5.regs 8
  have y0 := box_cell (i := 0) hR6.box rfl
  have y1 := box_cell (i := 1) hR6.box rfl
  have y2 := box_cell (i := 2) hR6.box rfl
  have y3 := box_cell (i := 3) hR6.box rfl
  obtain ⟨W6, hW6⟩ : ∃ V, (w5.setCell ⟨w3.heap.size, 1, none⟩ (.slice ub (mw + sp) ud)).setCell ⟨w3.heap.size, 3, none⟩ (.int .i64 8) = V := ⟨_, rfl⟩
  have HW6 := Hid.out (p := Hid _) hW6
  rw [hW6] at hR6
  have HCK6 := Hid.out (p := Hid _) (HCQ.out W6 U w3.heap.size va vc ub ud tv hR6)
  have HR6 := Hid.out (p := Hid _) hR6
  clear h1 h2 h3 h4 hR h34 hU4 hM4 hk4 hbx5 hR5 hR6 hW6 HCQ HPU HU k0 k1 g0 g1 g2 g3
  go_wp2_with fail
  rw [HW6.out]
  refine Calls.mono HCK6.out ?_
  rintro e w7 ⟨rfl, hb7⟩
  have hR7 := HR6.out.below hb7
  have hU7 := H2.out.2.2.2.1.trans (hR7.low.mono H2.out.2.2.2.1.size)
  obtain ⟨hw7, b0, b1, b2⟩ := HAT.out w7 hU7
  have hwl : (words ++ List.replicate sp 0).length = mw + sp := by rw [List.length_append, List.length_replicate, HMW.out]
  have hNQ : NewQ U n (words ++ List.replicate sp 0) lk 8 B L (.returned (.agg #[.slice va n vc, .slice ub (mw + sp) ud, .int .i64 lk, .int .i64 8])) w7 := by
    refine ⟨va, vc, ub, ud, tv, by rw [hwl], hR7.code, fun t ht => (hR7.thr t ht).1, ?_, hR7.low⟩
    have := hR7.words
    rw [hwl] at this ⊢
    exact this
  have b3 := hR7.box
  have hqU := hR7.hq
  have hlU := H2.out.2.2.2.1.size
  have hl7 : w3.heap.size < w7.heap.size := box_lt b3
  have hsz : w.heap.size + 3 ≤ U.heap.size := by omega
  have HNQ := Hid.out (p := Hid _) (And.intro hNQ (And.intro hw7 hsz))
  clear hNQ hU7 hwl k2 x1 x5 xf5 v3 vf y0 y1 y2 y3 hrun5 hln HW6 HCK6 HR6 HAT hb7 hR7
  by_cases hx : x = 0
  · subst hx
    have s0 : ∀ o, (w7.alloc o).cell? ⟨w3.heap.size, 0, none⟩ = some (.slice va n vc) := fun o => box_cell (box_later b3 o) rfl
    have s1 : ∀ o, (w7.alloc o).cell? ⟨w3.heap.size, 1, none⟩ = some (.slice ub (mw + sp) ud) := fun o => box_cell (box_later b3 o) rfl
    have s2 : ∀ o, (w7.alloc o).cell? ⟨w3.heap.size, 2, none⟩ = some (.int .i64 lk) := fun o => box_cell (box_later b3 o) rfl
    have s3 : ∀ o, (w7.alloc o).cell? ⟨w3.heap.size, 3, none⟩ = some (.int .i64 8) := fun o => box_cell (box_later b3 o) rfl
    have t0 : ∀ o, (w7.alloc o).cell? ⟨w.heap.size + 1, 0, none⟩ = some nilV := fun o => box_cell (box_later b1 o) rfl
    have t1 : ∀ o, (w7.alloc o).cell? ⟨w.heap.size + 1, 1, none⟩ = some nilV := fun o => box_cell (box_later b1 o) rfl
    have t2 : ∀ o, (w7.alloc o).cell? ⟨w.heap.size + 1, 2, none⟩ = some (.int .i64 0) := fun o => box_cell (box_later b1 o) rfl
    have t3 : ∀ o, (w7.alloc o).cell? ⟨w.heap.size + 1, 3, none⟩ = some (.int .i64 0) := fun o => box_cell (box_later b1 o) rfl
    have u0 : ∀ o, (w7.alloc o).cell? ⟨w.heap.size + 1 + 1, 0, none⟩ = some (.int .i64 0) := fun o => box_cell (box_later b2 o) rfl
    have u1 : ∀ o, (w7.alloc o).cell? ⟨w.heap.size + 1 + 1, 1, none⟩ = some (.int .i64 0) := fun o => box_cell (box_later b2 o) rfl
    have u2 : ∀ o, (w7.alloc o).cell? ⟨w.heap.size + 1 + 1, 2, none⟩ = some (.int .i64 0) := fun o => box_cell (box_later b2 o) rfl
    have tf : ∀ o i, (w7.alloc o).frozen? ⟨w.heap.size + 1, i, none⟩ = false := fun o i => box_free (box_later b1 o)
    have uf : ∀ o i, (w7.alloc o).frozen? ⟨w.heap.size + 1 + 1, i, none⟩ = false := fun o i => box_free (box_later b2 o)
    obtain ⟨V, hV, ⟨r0, r1, r2, r3, r4, r5, r6⟩, hlow, hfar⟩ := res7 (hw7.alloc hw7.size (.cells #[.int .i64 0, .int .i64 y, .int .i64 z] 30)) (box_later b1 _) (box_later b2 _) (.slice va n vc) (.slice ub (mw + sp) ud) (.int .i64 lk) (.int .i64 8) (.int .i64 0) (.int .i64 0) (.int .i64 0)
    have HV := Hid.out (p := Hid _) (And.intro hV (And.intro hlow hfar))
    have h7N := below_one w7 (.cells #[.int .i64 0, .int .i64 y, .int .i64 z] 30)
    have HNV : Hid (NewQ w n (words ++ List.replicate sp 0) lk 8 B L (.returned (.agg #[.slice va n vc, .slice ub (mw + sp) ud, .int .i64 lk, .int .i64 8])) V) := by
      refine HNQ.out.1.far (fun k hk1 hk2 => ?_) (by omega) hlow
      rw [hfar k (by omega) (by omega)]
      exact h7N.block k hk2
    clear b0 b1 b2 b3 hV hlow hfar h7N hw7
    go_wp2_with fail
    rw [HV.out.1]
    refine bodyPost_ret (v := .tuple #[.agg #[.slice va n vc, .slice ub (mw + sp) ud, .int .i64 lk, .int .i64 8], ints3 0 0 0]) (by simp [results, Tryd.results18, go_sem, r0, r1, r2, r3, r4, r5, r6]) rfl ?_
    exact ⟨va, vc, ub, ud, rfl, fun V' hV' => HNV.out.below hV', HV.out.2.1⟩
  · have hx' : (x != 0) = true := by simpa using hx
    have t0 : ∀ o, (w7.alloc o).cell? ⟨w.heap.size + 1, 0, none⟩ = some nilV := fun o => box_cell (box_later b1 o) rfl
    have t1 : ∀ o, (w7.alloc o).cell? ⟨w.heap.size + 1, 1, none⟩ = some nilV := fun o => box_cell (box_later b1 o) rfl
    have t2 : ∀ o, (w7.alloc o).cell? ⟨w.heap.size + 1, 2, none⟩ = some (.int .i64 0) := fun o => box_cell (box_later b1 o) rfl
    have t3 : ∀ o, (w7.alloc o).cell? ⟨w.heap.size + 1, 3, none⟩ = some (.int .i64 0) := fun o => box_cell (box_later b1 o) rfl
    have u0 : ∀ o, (w7.alloc o).cell? ⟨w.heap.size + 1 + 1, 0, none⟩ = some (.int .i64 0) := fun o => box_cell (box_later b2 o) rfl
    have u1 : ∀ o, (w7.alloc o).cell? ⟨w.heap.size + 1 + 1, 1, none⟩ = some (.int .i64 0) := fun o => box_cell (box_later b2 o) rfl
    have u2 : ∀ o, (w7.alloc o).cell? ⟨w.heap.size + 1 + 1, 2, none⟩ = some (.int .i64 0) := fun o => box_cell (box_later b2 o) rfl
    have tf : ∀ o i, (w7.alloc o).frozen? ⟨w.heap.size + 1, i, none⟩ = false := fun o i => box_free (box_later b1 o)
    have uf : ∀ o i, (w7.alloc o).frozen? ⟨w.heap.size + 1 + 1, i, none⟩ = false := fun o i => box_free (box_later b2 o)
    have n1 : w7.heap.size ≠ w.heap.size + 1 := by omega
    have n2 : w7.heap.size ≠ w.heap.size + 1 + 1 := by omega
    have n3 : w.heap.size + 1 ≠ w7.heap.size := by omega
    have n4 : w.heap.size + 1 + 1 ≠ w7.heap.size := by omega
    clear b0 b1 b2 b3 hw7
    go_wp2_with fail
    go_region
    all_goals go_wp2
    have hB : Below w.heap.size w (w7.alloc (.cells #[.int .i64 x, .int .i64 y, .int .i64 z] 30)) := HNQ.out.2.1.alloc HNQ.out.2.1.size _
    all_goals refine bodyPost_ret (v := .tuple #[zeP, ints3 x y z]) (by simp [results, Tryd.results18, go_sem, t0, t1, t2, t3, u0, u1, u2]) rfl ?_
    all_goals refine ⟨rfl, ?_⟩
    all_goals exact below7 hB _ _ _ _ _ _ _

end Go.Proofs.YtocfocjnnjdcgaaDoor
