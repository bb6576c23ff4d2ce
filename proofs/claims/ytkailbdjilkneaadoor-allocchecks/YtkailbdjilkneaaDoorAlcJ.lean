/-
  What the program finds for colours.
-/
import Derived.Test.YtkailbdjilkneaaDoorAlcB
import Derived.Test.YtkailbdjilkneaaDoorAlcI
namespace Go.Proofs.YtkailbdjilkneaaDoor
open Go.RowKit

theorem O2.keepN {w w' : World} {B : Nat} {u : Value} {yss : List (List Int)} (h : O2 w B u yss) (hb : ∀ b, B ≤ b → w'.heap[b]? = w.heap[b]?) : O2 w' B u yss := by
  obtain ⟨xs, h1, h2⟩ := h
  exact ⟨xs, fam_keeps h1 fun b hb2 => hb b (h1.lt b hb2).1, fun k hk => fam_keeps (h2 k hk) fun b hb2 => hb b ((h2 k hk).lt b hb2).1⟩
theorem told_tld {X : Nat → Nat → Int} {l rg m lk : Nat} (hrg : rg ≤ 200) (hok : ∀ i, i < l → ordE rg m lk l (X i 0) (X i 1) (X i 2) (X i 3) = 0) {Sx : Nat → Nat → Nat} (h : ∀ a b, has (Sx a) b = true ↔ Cl X l a b) : TldC (tellS Sx rg) rg (Cl X l) := ⟨tellS_len _ _, fun _ hr => told_cl hrg hok h hr⟩
/-- What Colours tells, where the program may be. -/
def AcoQ (w : World) (n : Nat) (L : Nat → Nat) (X : Nat → Nat → Nat → Int) (rg : Nat) (e : Ending) (w' : World) : Prop := ∃ (K : List (List Int)) (ua : Option Addr) (uc : Nat), e = .returned (.tuple #[.slice ua n uc, ints3 0 0 0]) ∧ O2 w' w.heap.size (.slice ua n uc) K ∧ ColP K n L X rg ∧ Below w.heap.size w w'

set_option maxRecDepth 100000 in
set_option maxHeartbeats 3200000 in
theorem acolours_no (w : World) (ca : Option Addr) (n cc : Nat) (wa : Option Addr) (m wc : Nat) (lk rg x y z : Int) (hx : x ≠ 0) (HC : Hid (∀ W, Below w.heap.size w W → Calls Tryd.prog 26 #[prgV ca n cc wa m wc lk rg] W fun e w' => e = .returned (ints3 x y z) ∧ Below W.heap.size W w')) :
    Calls Tryd.prog 21 #[prgV ca n cc wa m wc lk rg] w fun e w' => e = .returned (.tuple #[nilV, ints3 x y z]) ∧ Below w.heap.size w w' := by
  obtain ⟨hS, hP, hF⟩ := two_at w (.cells #[.slice ca n cc, .slice wa m wc, .int .i64 lk, .int .i64 rg] 25) (.cells #[.int .i64 0, .int .i64 0, .int .i64 0] 29)
  obtain ⟨S, hSS⟩ : ∃ V, (w.alloc (.cells #[.slice ca n cc, .slice wa m wc, .int .i64 lk, .int .i64 rg] 25)).alloc (.cells #[.int .i64 0, .int .i64 0, .int .i64 0] 29) = V := ⟨_, rfl⟩
  rw [hSS] at hS hP hF
  have HSS := Hid.out (p := Hid _) hSS
  have HCL := Hid.out (p := Hid _) (clashP_no S ca n cc wa m wc lk rg x y z hx (fun W hW => HC.out W (hS.trans (hW.mono hS.size))))
  have HF := Hid.out (p := Hid _) (And.intro hS hF)
  have hx' : (x != 0) = true := by simpa using hx
  clear hS hP hF hSS HC hx
  go_enter Tryd.func21, Tryd.ntmps21
  go_wp2_with fail
  rw [HSS.out]
  refine Calls.mono HCL.out ?_
  rintro e w1 ⟨rfl, hb1⟩
  have hF1 := blk hb1 HF.out.2
  have hl1 : w.heap.size + 1 < w1.heap.size := box_lt hF1
  have u0 : w1.cell? ⟨w.heap.size + 1, 0, none⟩ = some (.int .i64 0) := box_cell hF1 rfl
  have u1 : w1.cell? ⟨w.heap.size + 1, 1, none⟩ = some (.int .i64 0) := box_cell hF1 rfl
  have u2 : w1.cell? ⟨w.heap.size + 1, 2, none⟩ = some (.int .i64 0) := box_cell hF1 rfl
  have uf : ∀ i, w1.frozen? ⟨w.heap.size + 1, i, none⟩ = false := fun i => box_free hF1
  have HB1 := Hid.out (p := Hid _) (HF.out.1.trans (hb1.mono HF.out.1.size))
  have HR := Hid.out (p := Hid _) (set3_all (HF.out.1.trans (hb1.mono HF.out.1.size)) (g := w.heap.size + 1) (by omega) hF1 (.int .i64 x) (.int .i64 y) (.int .i64 z) (.cells #[.int .i64 x, .int .i64 y, .int .i64 z] 29))
  have n1 : w1.heap.size ≠ w.heap.size + 1 := by omega
  have n2 : w.heap.size + 1 ≠ w1.heap.size := by omega
  clear hF1 hb1 HSS HF HCL
  go_wp2_with fail
  go_region
  all_goals go_wp2
  all_goals refine bodyPost_ret (v := .tuple #[nilV, ints3 x y z]) (by simp [results, Tryd.results21, go_sem, HR.out.2.1, HR.out.2.2.1, HR.out.2.2.2]) rfl ⟨rfl, ?_⟩
  all_goals exact HR.out.1.drew


attribute [local go_sem ↓] appS_eq in
set_option maxRecDepth 100000 in
set_option maxHeartbeats 3200000 in
theorem acolours_yes (w : World) (ca : Option Addr) (n cc : Nat) (wa : Option Addr) (m wc lk rg : Nat) (A : Nat → Option Addr) (L C : Nat → Nat) (X : Nat → Nat → Nat → Int) (hp : PIn w ca n A L C X) (hn0 : 0 < n) (hc : COk n L X m lk rg) (hT : TabZ w)
    (HC : Hid (∀ W, Below w.heap.size w W → Calls Tryd.prog 26 #[prgV ca n cc wa m wc lk rg] W fun e w' => e = .returned (ints3 0 0 0) ∧ Below W.heap.size W w')) :
    Calls Tryd.prog 21 #[prgV ca n cc wa m wc lk rg] w (AcoQ w n L X rg) := by
  obtain ⟨hS, hP, hF⟩ := two_at w (.cells #[.slice ca n cc, .slice wa m wc, .int .i64 lk, .int .i64 rg] 25) (.cells #[.int .i64 0, .int .i64 0, .int .i64 0] 29)
  obtain ⟨S, hSS⟩ : ∃ V, (w.alloc (.cells #[.slice ca n cc, .slice wa m wc, .int .i64 lk, .int .i64 rg] 25)).alloc (.cells #[.int .i64 0, .int .i64 0, .int .i64 0] 29) = V := ⟨_, rfl⟩
  rw [hSS] at hS hP hF
  have HSS := Hid.out (p := Hid _) hSS
  have HCL : Hid (Calls Tryd.prog 44 #[prgV ca n cc wa m wc lk rg] S fun e w' => ∃ u ysss, e = .returned (.tuple #[u, ints3 0 0 0]) ∧ Hid (O3 w' S.heap.size u ysss ∧ ysss.length = n ∧ (∀ t, t < n → ∃ S, (∀ a b, has (S a) b = true ↔ Cl (X t) (L t) a b) ∧ ysss.getD t [] = tellS S (rg)) ∧ Below S.heap.size S w')) := (clashP_yes S ca n cc wa m wc lk rg A L C X (hp.below hS) hc (hT.below hS) (fun W hW => HC.out W (hS.trans (hW.mono hS.size)))).mono fun e w' ⟨u, ysss, h1, h2⟩ => ⟨u, ysss, h1, h2⟩
  have HF := Hid.out (p := Hid _) (And.intro hS (And.intro hP hF))
  have HPI : Hid (PIn w ca n A L C X) := hp
  have HCO := Hid.out (p := Hid _) hc
  have hrg := hc.rg2
  have hn4 := hc.n4
  clear hS hP hF hSS HC hp hc hT
  go_enter Tryd.func21, Tryd.ntmps21
  go_wp2_with fail
  rw [HSS.out]
  refine Calls.mono HCL.out ?_
  rintro e w1 ⟨u, ysss, rfl, H1⟩
  obtain ⟨ua, uc, rfl⟩ := H1.out.1.form
  have hb1 := H1.out.2.2.2
  have hu : Below w1.heap.size w1 (w1.alloc (.cells #[.int .i64 0, .int .i64 0, .int .i64 0] 29)) := below_one _ _
  have hbS := hb1.trans (hu.mono hb1.size)
  obtain ⟨yn, hyn⟩ : ∃ q, ysss.length = q := ⟨_, rfl⟩
  have HYN := Hid.out (p := Hid _) hyn
  obtain rfl : yn = n := by rw [← hyn]; exact H1.out.2.1
  rw [hyn]
  have hP1 := blk hbS HF.out.2.1
  have hF1 := blk hb1 HF.out.2.2
  have hFW := blk hbS HF.out.2.2
  have p0 := box_cell (i := 0) hP1 rfl
  have hsz : w.heap.size + 1 < w1.heap.size := box_lt hF1
  clear hyn
  obtain ⟨W1, hW1⟩ : ∃ V, w1.alloc (.cells #[.int .i64 0, .int .i64 0, .int .i64 0] 29) = V := ⟨_, rfl⟩
  have HW1 := Hid.out (p := Hid _) hW1
  rw [hW1] at hu hbS hP1 hFW
  have HAT1 : Hid (∀ V, Below W1.heap.size W1 V → Below w.heap.size w V ∧ V.heap[w.heap.size]? = some (.cells #[.slice ca yn cc, .slice wa m wc, .int .i64 lk, .int .i64 rg] 25) ∧ V.heap[w.heap.size + 1]? = some (.cells #[.int .i64 0, .int .i64 0, .int .i64 0] 29) ∧ O3 V S.heap.size (.slice ua yn uc) ysss) := fun V hV => by
    have hO := H1.out.1
    rw [HYN.out] at hO
    exact ⟨HF.out.1.trans ((hbS.trans (hV.mono hbS.size)).mono HF.out.1.size), blk hV hP1, blk hV hFW, hO.below (hu.trans (hV.mono hu.size))⟩
  have HZ : Hid (w.heap.size + 1 < W1.heap.size) := box_lt hFW
  clear hb1 hu hbS hF1 hFW hP1 hW1 hsz HCL HSS
  go_wp2_with fail
  rw [HW1.out]
  clear p0 HW1
  go_loopw [6, 21] (fun kv iv wr => ∃ (t : Nat) (K : List (List Int)), t ≤ yn ∧ iv = .int .i64 t ∧ Hid (O2 wr W1.heap.size kv K ∧ K.length = t ∧ (∀ q, q < t → ColT (K.getD q []) (Cl (X q) (L q)) rg) ∧ Below W1.heap.size W1 wr)) (fun _ iv _ => yn - (intOf iv).toNat)
  case atStart => exact ⟨0, [], Nat.zero_le _, rfl, o2_nil _ _, rfl, fun q hq => absurd hq (Nat.not_lt_zero _), Below.refl _ _⟩
  case round =>
    obtain ⟨t, K, ht, rfl, HI⟩ := hrel
    obtain ⟨hwV, hPV, hFV, hOV⟩ := HAT1.out wr HI.out.2.2.2
    by_cases htn : t < yn
    · have htI : (t : Int) < (yn : Int) := by omega
      obtain ⟨cb, co, rfl, hcell⟩ := (HPI.out.below hwV).code t htn
      obtain ⟨ub, x, rfl, -, hux, hxO⟩ := hOV.at (k := t) (by rw [HYN.out]; exact htn)
      obtain ⟨Sx, hSx, hyt⟩ := H1.out.2.2.1 t htn
      rw [hyt] at hxO
      obtain ⟨xa, xc, rfl⟩ := hxO.form
      rw [tellS_len] at hux hxO
      obtain ⟨l, hl⟩ : ∃ l, L t = l := ⟨_, rfl⟩
      have hl4 : l ≤ 1000 := by rw [← hl]; exact HCO.out.L4 t htn
      obtain ⟨ak, hak⟩ : ∃ a, A t = a := ⟨_, rfl⟩
      rw [hl, hak] at hcell
      have HOK : Hid (∀ j, j < l → ordE rg m lk l (X t j 0) (X t j 1) (X t j 2) (X t j 3) = 0) := fun j hj => by
        have := HCO.out.ord t j htn (by rw [hl]; exact hj)
        rw [hl] at this
        exact this
      have HNG := Hid.out (p := Hid _) (ngraph_any wr xa xc S.heap.size (tellS Sx rg) ak l (C t) (X t) rg m lk HCO.out.rg0 hrg hl4 hxO (tellS_len _ _) (fun i hi => by
        obtain ⟨ab, ao, e1, c⟩ := (HPI.out.below hwV).ord t i htn (by rw [hl]; exact hi)
        exact ⟨ab, ao, by rw [← hak, e1], c⟩) HOK.out)
      have HXO : Hid (O2 wr S.heap.size (.slice xa rg xc) (tellS Sx rg)) := hxO
      have HTL := Hid.out (p := Hid _) (told_tld hrg HOK.out (by rw [hl] at hSx; exact hSx))
      have HLT := Hid.out (p := Hid _) hl
      obtain ⟨ka, kc, hkv⟩ := HI.out.1.form
      have hkl := HI.out.2.1
      rw [hkl] at hkv
      subst hkv
      clear hxO hSx hyt hwV hPV hFV hOV hl hak
      go_wp2_with fail
      refine Calls.mono HNG.out ?_
      rintro e w5 ⟨gb, ub2, rb, rc, ab, rfl, hG⟩
      have HGC := Hid.out (p := Hid _) (gcolours_any wr w5 gb ub2 rb rc ab rg xa xc S.heap.size (tellS Sx rg) (Cl (X t) l) hG HXO.out HTL.out HCO.out.rg0 hrg (fun a b h => h.symm) (fun a h => h.1 rfl))
      have HLW := Hid.out (p := Hid _) hG.low
      clear hG HNG hux hcell
      go_wp2_with fail
      refine Calls.mono HGC.out ?_
      rintro e w6 ⟨k, fb, fc, rfl, hko, hkl2, hkc, hb6⟩
      have hs5 := HLW.out.size
      have hW1s := HI.out.2.2.2.size
      obtain ⟨g7, cap7, w7, hrun7, hO7, hlow7⟩ := app_lst HI.out.1 hb6 hW1s (hko.low (by omega)) (by rw [hkl]; omega)
      rw [hkl] at hrun7 hO7
      have HN : Hid (O2 w7 W1.heap.size (.slice (some ⟨g7, 0, none⟩) (t + 1) cap7) (K ++ [k]) ∧ (K ++ [k]).length = t + 1 ∧ (∀ q, q < t + 1 → ColT ((K ++ [k]).getD q []) (Cl (X q) (L q)) rg) ∧ Below W1.heap.size W1 w7) := by
        refine ⟨hO7, by simp [hkl], fun q hq => ?_, hlow7 W1 (HI.out.2.2.2.trans (hb6.mono hW1s))⟩
        rw [getD_snoc, hkl]
        by_cases e : q < t
        · rw [if_pos e]
          exact HI.out.2.2.1 q e
        · obtain rfl : q = t := by omega
          rw [if_neg e, if_pos rfl, HLT.out]
          exact ⟨hkl2, hkc⟩
      clear hko hkl2 hkc hb6 hO7 hlow7 hs5 hW1s HGC
      go_wp2_with fail
      go_roundw
      case rel => exact ⟨t + 1, _, by omega, by go_num, HN.out⟩
      case measure => simp [intOf]; omega
    · obtain rfl : t = yn := by omega
      obtain ⟨ka, kc, hkv⟩ := HI.out.1.form
      rw [HI.out.2.1] at hkv
      subst hkv
      have u0 := box_cell (i := 0) hFV rfl
      have u1 := box_cell (i := 1) hFV rfl
      have u2 := box_cell (i := 2) hFV rfl
      have uf : ∀ i, wr.frozen? ⟨w.heap.size + 1, i, none⟩ = false := fun i => box_free hFV
      have HR := Hid.out (p := Hid _) (And.intro (set3_low hwV (F := w.heap.size + 1) (by omega) (.int .i64 0) (.int .i64 0) (.int .i64 0)) (set3_is hFV (.int .i64 0) (.int .i64 0) (.int .i64 0)))
      have r0 := Hid.out (p := Hid _) (box_cell (i := 0) HR.out.2 rfl)
      have r1 := Hid.out (p := Hid _) (box_cell (i := 1) HR.out.2 rfl)
      have r2 := Hid.out (p := Hid _) (box_cell (i := 2) HR.out.2 rfl)
      clear hwV hPV hFV hOV
      go_wp2_with fail
      refine bodyPost_ret (v := .tuple #[.slice ka t kc, ints3 0 0 0]) (by simp [results, Tryd.results21, go_sem, r0.out, r1.out, r2.out]) rfl ⟨K, ka, kc, rfl, (HI.out.1.keepN fun b hb => set3_far (by have := HZ.out; omega) _ _ _).low (by have := HZ.out; omega), ⟨HI.out.2.1, HI.out.2.2.1⟩, ?_⟩
      exact HR.out.1

end Go.Proofs.YtkailbdjilkneaaDoor
