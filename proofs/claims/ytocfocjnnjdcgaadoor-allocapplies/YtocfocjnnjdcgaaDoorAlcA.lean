/-
  Colours, as plain numbers; what the program says of one thread's.
-/
import Derived.Test.YtocfocjnnjdcgaaDoorLivK
import Derived.Test.YtocfocjnnjdcgaaDoorLivP
import Derived.Deep.LoopGhost
namespace Go.Proofs.YtocfocjnnjdcgaaDoor
open Go.RowKit

/-- Lists of numbers that came in, in memory. -/
def CIn (W : World) (ka : Option Addr) (K : List (List Int)) : Prop := ∀ t, t < K.length → ∃ g o a c, ka = some ⟨g, o, none⟩ ∧ W.cell? ⟨g, o + t, none⟩ = some (.slice a (K.getD t []).length c) ∧ SIs W a (K.getD t [])
theorem CIn.below {W V : World} {ka : Option Addr} {K : List (List Int)} (h : CIn W ka K) (hb : Below W.heap.size W V) : CIn V ka K := fun t ht => by
  obtain ⟨g, o, a, c, e, h1, h2⟩ := h t ht
  exact ⟨g, o, a, c, e, (hb.cell (lt_of_cell h1)).trans h1, h2.below hb⟩
/-- The colour of a register is one, and none that clashes has it. -/
def ColR (k : List Int) (cl : Nat → Nat → Prop) (r : Nat) : Prop := -1 ≤ k.getD r 0 ∧ k.getD r 0 < 6 ∧ ∀ s, s < k.length → cl r s → k.getD r 0 ≠ -1 → k.getD r 0 ≠ k.getD s 0
def ColT (k : List Int) (cl : Nat → Nat → Prop) (rg : Nat) : Prop := k.length = rg ∧ ∀ r, r < rg → ColR k cl r
/-- These are some of the program. -/
def ColP (K : List (List Int)) (n : Nat) (L : Nat → Nat) (X : Nat → Nat → Nat → Int) (rg : Nat) : Prop := K.length = n ∧ ∀ t, t < n → ColT (K.getD t []) (Cl (X t) (L t)) rg

/-- A truth is told. -/
def BoolQ (w : World) (P : Prop) (e : Ending) (w' : World) : Prop := ∃ b, e = .returned (.bool b) ∧ (b = true ↔ P) ∧ Below w.heap.size w w'

set_option maxRecDepth 100000 in
set_option maxHeartbeats 3200000 in
theorem maybe_any (w : World) (ka : Option Addr) (kc n : Nat) (k : List Int) (a : Option Addr) (m c B : Nat) (yss : List (List Int)) (cl : Nat → Nat → Prop) (hk : SIs w ka k) (hn : k.length = n) (hn1 : n ≤ 200) (hO : O2 w B (.slice a m c) yss) (hl : n ≤ yss.length)
    (hy : ∀ r, r < n → (∀ x, x ∈ yss.getD r [] → ∃ s : Nat, x = (s : Int) ∧ s < n) ∧ ∀ s : Nat, s < n → ((s : Int) ∈ yss.getD r [] ↔ cl r s)) (hy2 : ∀ r, r < n → (yss.getD r []).length ≤ 256) :
    Calls Tryd.prog 57 #[.slice ka n kc, .slice a m c] w (BoolQ w (∀ r, r < n → ColR k cl r)) := by
  have HK : Hid (SIs w ka k) := hk
  have HN := Hid.out (p := Hid _) hn
  have HO : Hid (O2 w B (.slice a m c) yss) := hO
  have HL := Hid.out (p := Hid _) hl
  have HY := Hid.out (p := Hid _) hy
  have HY2 := Hid.out (p := Hid _) hy2
  clear hk hn hO hl hy hy2
  go_enter Tryd.func57, Tryd.ntmps57
  go_wp2_with fail
  go_loopw [11] (fun i wr => ∃ r : Nat, r ≤ n ∧ i = .int .i64 r ∧ Hid (∀ q, q < r → ColR k cl q) ∧ wr = w) (fun i _ => n - (intOf i).toNat)
  case atStart => exact ⟨0, Nat.zero_le _, rfl, fun q hq => absurd hq (Nat.not_lt_zero _), rfl⟩
  case round =>
    obtain ⟨r, hr, rfl, HI, rfl⟩ := hrel
    by_cases hrn : r < n
    · have hrI : (r : Int) < (n : Int) := by omega
      obtain ⟨gb, go, rfl, hc⟩ := HK.out r (by rw [HN.out]; exact hrn)
      obtain ⟨g, x, rfl, rfl, hx, hxs⟩ := HO.out.at (k := r) (by have := HL.out; omega)
      obtain ⟨xa, xc, rfl⟩ := hxs.form
      have hrm : (r : Int) < ((yss.length : Nat) : Int) := by have := HL.out; omega
      obtain ⟨v, hv⟩ : ∃ v, k.getD r 0 = v := ⟨_, rfl⟩
      rw [hv] at hc
      have HV := Hid.out (p := Hid _) hv
      obtain ⟨ys, hys⟩ : ∃ ys, yss.getD r [] = ys := ⟨_, rfl⟩
      rw [hys] at hx hxs
      have HYS : Hid ((∀ x, x ∈ ys → ∃ s : Nat, x = (s : Int) ∧ s < n) ∧ ∀ s : Nat, s < n → ((s : Int) ∈ ys ↔ cl r s)) := by rw [← hys]; exact HY.out r hrn
      have hyl : ys.length ≤ 256 := by rw [← hys]; exact HY2.out r hrn
      have HXS : Hid (OwL wr B (.slice xa ys.length xc) ys) := hxs
      obtain ⟨yl, hyy⟩ : ∃ q, ys.length = q := ⟨_, rfl⟩
      have HYL := Hid.out (p := Hid _) hyy
      obtain ⟨ym, hym⟩ : ∃ q, yss.length = q := ⟨_, rfl⟩
      rw [hyy] at hx hyl
      rw [hym] at hrm
      rw [hym]
      have HYM := Hid.out (p := Hid _) hym
      clear hxs hys hv hyy hym
      by_cases hlo : v < -1
      · have hno : ¬ ∀ r, r < n → ColR k cl r := fun h => by
          have := (h r hrn).1
          rw [HV.out] at this
          omega
        have HNO := Hid.out (p := Hid _) hno
        clear hno
        go_wp2_with fail
        go_ret
        exact ⟨false, rfl, ⟨fun h => (by cases h), fun h => absurd h HNO.out⟩, Below.refl _ _⟩
      · by_cases hhi : 6 ≤ v
        · have hno : ¬ ∀ r, r < n → ColR k cl r := fun h => by
            have := (h r hrn).2.1
            rw [HV.out] at this
            omega
          have HNO := Hid.out (p := Hid _) hno
          clear hno
          go_wp2_with fail
          go_ret
          exact ⟨false, rfl, ⟨fun h => (by cases h), fun h => absurd h HNO.out⟩, Below.refl _ _⟩
        · have HVV : Hid (-1 ≤ v ∧ v < 6) := ⟨by omega, by omega⟩
          go_wp2_with fail
          go_loopw [27] (fun i wi => ∃ q : Nat, q ≤ yl ∧ i = .int .i64 q ∧ Hid (∀ j, j < q → v ≠ -1 → v ≠ k.getD (ys.getD j 0).toNat 0) ∧ wi = wr) (fun i _ => yl - (intOf i).toNat)
          case atStart => exact ⟨0, Nat.zero_le _, rfl, fun q hq => absurd hq (Nat.not_lt_zero _), rfl⟩
          case round =>
            obtain ⟨q, hq, rfl, HJ, rfl⟩ := hrel
            by_cases hqy : q < yl
            · have hqI : (q : Int) < (yl : Int) := by omega
              obtain ⟨yb, yo, rfl, hyc⟩ := HXS.out.sis q (by rw [HYL.out]; exact hqy)
              obtain ⟨s, hs1, hs2⟩ := HYS.out.1 (ys.getD q 0) (by
                rw [List.getD_eq_getElem?_getD, List.getElem?_eq_getElem (by rw [HYL.out]; exact hqy)]
                exact List.getElem_mem _)
              rw [hs1] at hyc
              obtain ⟨sb, so, hse, hsc⟩ := HK.out s (by rw [HN.out]; exact hs2)
              simp only [Option.some.injEq, Addr.mk.injEq, and_true] at hse
              obtain ⟨rfl, rfl⟩ := hse
              have hsI : (s : Int) < (n : Int) := by omega
              obtain ⟨u, hu⟩ : ∃ u, k.getD s 0 = u := ⟨_, rfl⟩
              rw [hu] at hsc
              have HU := Hid.out (p := Hid _) (And.intro hu hs1)
              have HS2 := Hid.out (p := Hid _) hs2
              clear hu hs1 hs2
              by_cases hv1 : v = -1
              · have hvb : (v != -1) = false := by simp [hv1]
                have HNX : Hid (∀ j, j < q + 1 → v ≠ -1 → v ≠ k.getD (ys.getD j 0).toNat 0) := fun j _ h => absurd hv1 h
                clear hv1
                go_wp2_with fail
                go_roundw
                case rel => exact ⟨q + 1, by omega, by go_num, HNX.out, by first | rfl | trivial⟩
                case measure => simp [intOf]; omega
              · have hvb : (v != -1) = true := by simpa using hv1
                by_cases hvu : v = u
                · have hvub : (v == u) = true := by simpa using hvu
                  have hno : ¬ ∀ r, r < n → ColR k cl r := fun h => by
                    have h1 := (h r hrn).2.2 s (by rw [HN.out]; exact HS2.out) ((HYS.out.2 s HS2.out).1 (by
                      rw [← HU.out.2, List.getD_eq_getElem?_getD, List.getElem?_eq_getElem (by rw [HYL.out]; exact hqy)]
                      exact List.getElem_mem _)) (by rw [HV.out]; exact hv1)
                    rw [HV.out, HU.out.1] at h1
                    exact h1 hvu
                  have HNO := Hid.out (p := Hid _) hno
                  clear hno hvu hv1
                  go_wp2_with fail
                  go_ret
                  exact ⟨false, rfl, ⟨fun h => (by cases h), fun h => absurd h HNO.out⟩, Below.refl _ _⟩
                · have hvub : (v == u) = false := by simpa using hvu
                  have HNX : Hid (∀ j, j < q + 1 → v ≠ -1 → v ≠ k.getD (ys.getD j 0).toNat 0) := fun j hj h => by
                    by_cases e : j = q
                    · rw [e, HU.out.2, Int.toNat_natCast, HU.out.1]
                      exact hvu
                    · exact HJ.out j (by omega) h
                  clear hvu hv1
                  go_wp2_with fail
                  go_roundw
                  case rel => exact ⟨q + 1, by omega, by go_num, HNX.out, by first | rfl | trivial⟩
                  case measure => simp [intOf]; omega
            · obtain rfl : q = yl := by omega
              have HNX : Hid (∀ p, p < r + 1 → ColR k cl p) := fun p hp => by
                by_cases e : p = r
                · subst e
                  refine ⟨by rw [HV.out]; exact HVV.out.1, by rw [HV.out]; exact HVV.out.2, fun s hs hcl hne => ?_⟩
                  rw [HN.out] at hs
                  have hm := (HYS.out.2 s hs).2 hcl
                  obtain ⟨j, hj, hje⟩ := List.getElem_of_mem hm
                  have h1 := HJ.out j (by rw [← HYL.out]; exact hj) (by rw [← HV.out]; exact hne)
                  have e2 : ys.getD j 0 = (s : Int) := by rw [List.getD_eq_getElem?_getD, List.getElem?_eq_getElem hj, Option.getD_some, hje]
                  rw [e2, Int.toNat_natCast] at h1
                  rw [HV.out]
                  exact h1
                · exact HI.out p (by omega)
              go_wp2_with fail
              go_roundw
              case rel => exact ⟨r + 1, by omega, by go_num, HNX.out, by first | rfl | trivial⟩
              case measure => simp [intOf]; omega
    · obtain rfl : r = n := by omega
      go_wp2_with fail
      go_ret
      exact ⟨true, rfl, ⟨fun _ => HI.out, fun _ => rfl⟩, Below.refl _ _⟩

end Go.Proofs.YtocfocjnnjdcgaaDoor
