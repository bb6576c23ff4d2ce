/-
  What the document says of colours.
-/
import Derived.Test.YtocfocjnnjdcgaaDoorAlcA
import Derived.Test.YtocfocjnnjdcgaaDoorLivJ
import Derived.Test.YtocfocjnnjdcgaaDoorOwnS
import Derived.Test.YtocfocjnnjdcgaaDoorCOkP
import Derived.Deep.RegionHeld3
import Derived.BigQuiet
namespace Go.Proofs.YtocfocjnnjdcgaaDoor
open Go.RowKit

set_option maxRecDepth 100000 in
set_option maxHeartbeats 3200000 in
theorem rcolours_any (w : World) (ca : Option Addr) (n cc : Nat) (wa : Option Addr) (m wc lk rg : Nat) (A : Nat → Option Addr) (L C : Nat → Nat) (X : Nat → Nat → Nat → Int) (ka : Option Addr) (kn kc : Nat) (K : List (List Int)) (hp : PIn w ca n A L C X) (hc : COk n L X m lk rg) (hK : CIn w ka K) (hkn : K.length = kn) (hk100 : kn ≤ 100) :
    Calls Tryd.prog 20 #[prgV ca n cc wa m wc lk rg, .slice ka kn kc] w (BoolQ w (ColP K n L X rg)) := by
  have hS : Below w.heap.size w (w.alloc (.cells #[.slice ca n cc, .slice wa m wc, .int .i64 lk, .int .i64 rg] 25)) := below_one _ _
  have hP := heap_alloc_new w (.cells #[.slice ca n cc, .slice wa m wc, .int .i64 lk, .int .i64 rg] 25)
  obtain ⟨S, hSS⟩ : ∃ V, w.alloc (.cells #[.slice ca n cc, .slice wa m wc, .int .i64 lk, .int .i64 rg] 25) = V := ⟨_, rfl⟩
  have HSS := Hid.out (p := Hid _) hSS
  have p0 := box_cell (i := 0) hP rfl
  rw [hSS] at hS hP
  have HAT : Hid (∀ V, Below S.heap.size S V → Below w.heap.size w V ∧ V.heap[w.heap.size]? = some (.cells #[.slice ca n cc, .slice wa m wc, .int .i64 lk, .int .i64 rg] 25) ∧ PIn V ca n A L C X ∧ CIn V ka K) := fun V hV => by
    have h := hS.trans (hV.mono hS.size)
    exact ⟨h, blk hV hP, hp.below h, hK.below h⟩
  have HKN := Hid.out (p := Hid _) hkn
  have HCO := Hid.out (p := Hid _) hc
  have hrg := hc.rg2
  have hn4 := hc.n4
  clear hS hP hSS hp hK hkn hc
  go_enter Tryd.func20, Tryd.ntmps20
  by_cases hkk : kn = n
  · subst hkk
    have hkb : ((kn : Int) != (kn : Int)) = false := by simp
    go_wp2_with fail
    rw [HSS.out]
    clear p0 HSS hkb
    go_loopw [5] (fun i wr => ∃ t : Nat, t ≤ kn ∧ i = .int .i64 t ∧ Hid ((∀ q, q < t → ColT (K.getD q []) (Cl (X q) (L q)) rg) ∧ Below S.heap.size S wr)) (fun i _ => kn - (intOf i).toNat)
    case atStart => exact ⟨0, Nat.zero_le _, rfl, fun q hq => absurd hq (Nat.not_lt_zero _), Below.refl _ _⟩
    case round =>
      obtain ⟨t, ht, rfl, HI⟩ := hrel
      obtain ⟨hwV, hPV, hpV, hKV⟩ := HAT.out wr HI.out.2
      by_cases htn : t < kn
      · have htI : (t : Int) < (kn : Int) := by omega
        obtain ⟨kb, ko, kca, kcc, rfl, hkc, hks⟩ := hKV t (by rw [HKN.out]; exact htn)
        obtain ⟨cb, co, rfl, hcell⟩ := hpV.code t htn
        have p0 := box_cell (i := 0) hPV rfl
        have p3 := box_cell (i := 3) hPV rfl
        obtain ⟨k, hk⟩ : ∃ k, K.getD t [] = k := ⟨_, rfl⟩
        rw [hk] at hkc hks
        have HKT := Hid.out (p := Hid _) hk
        obtain ⟨kl, hkl⟩ : ∃ q, k.length = q := ⟨_, rfl⟩
        rw [hkl] at hkc
        have HKL := Hid.out (p := Hid _) hkl
        by_cases hlen : kl = rg
        · subst hlen
          have hlb : ((kl : Int) != (kl : Int)) = false := by simp
          obtain ⟨l, hl⟩ : ∃ l, L t = l := ⟨_, rfl⟩
          have HLT := Hid.out (p := Hid _) hl
          have hl4 : l ≤ 1000 := by rw [← hl]; exact HCO.out.L4 t htn
          obtain ⟨ak, hak⟩ : ∃ a, A t = a := ⟨_, rfl⟩
          rw [hl, hak] at hcell
          have HOK : Hid (∀ j, j < l → ordE kl m lk l (X t j 0) (X t j 1) (X t j 2) (X t j 3) = 0) := fun j hj => by
            have := HCO.out.ord t j htn (by rw [hl]; exact hj)
            rw [hl] at this
            exact this
          have HCS : Hid (∀ V, Below wr.heap.size wr V → V.cell? ⟨w.heap.size, 0, none⟩ = some (.slice (some ⟨cb, co, none⟩) kn cc) ∧ V.cell? ⟨cb, co + t, none⟩ = some (.slice ak l (C t)) ∧ V.cell? ⟨w.heap.size, 3, none⟩ = some (.int .i64 kl) ∧ V.cell? ⟨kb, ko + t, none⟩ = some (.slice kca kl kcc)) := fun V hV => ⟨(hV.cell (lt_of_cell p0)).trans p0, (hV.cell (lt_of_cell hcell)).trans hcell, (hV.cell (lt_of_cell p3)).trans p3, (hV.cell (lt_of_cell hkc)).trans hkc⟩
          have HCL : Hid (∀ V, Below wr.heap.size wr V → Calls Tryd.prog 12 #[.slice ak l (C t), .int .i64 kl] V fun e w' => ∃ g G P, e = .returned (.slice (some ⟨g, 0, none⟩) kl kl) ∧ Hid (Grid V w' g kl kl kl G P ∧ (∀ a b, a < kl → b < kl → ((P a).getD b false = true ↔ Cl (X t) l a b))) ∧ Below V.heap.size V w') := fun V hV => by
            refine (rclash_any V ak l (C t) (X t) kl m lk hl4 hrg (fun i hi => ?_) (fun i hi => HOK.out i hi)).mono ?_
            · obtain ⟨ab, ao, e1, c⟩ := ((HAT.out V (HI.out.2.trans (hV.mono HI.out.2.size))).2.2.1).ord t i htn (by rw [hl]; exact hi)
              exact ⟨ab, ao, by rw [← hak, e1], c⟩
            · rintro e w' ⟨g, G, P, rfl, hG, hB⟩
              exact ⟨g, G, P, rfl, ⟨hG, hB⟩, hG.low⟩
          have HKS : Hid (SIs wr kca k) := hks
          clear hks hk hkl hpV hwV hPV hKV hl hak
          go_wp2_with fail
          go_quiet (fail)
          go_wp2_with fail
          obtain ⟨V1, hV1⟩ : ∃ V, wr.drewN nq = V := ⟨_, rfl⟩
          have hB1 : Below wr.heap.size wr V1 := by rw [← hV1]; exact below_drewN (Below.refl _ _)
          rw [hV1]
          have HB1 := Hid.out (p := Hid _) hB1
          clear hV1 hB1 p0 hcell p3 hkc
          obtain ⟨p0, hcell, p3, -⟩ := HCS.out V1 HB1.out
          go_region_held3 (fun w' => w'.cell? ⟨w.heap.size, 0, none⟩ = some (.slice (some ⟨cb, co, none⟩) kn cc) ∧ w'.cell? ⟨cb, co + t, none⟩ = some (.slice ak l (C t)) ∧ w'.cell? ⟨w.heap.size, 3, none⟩ = some (.int .i64 kl)) (refine ⟨?_, ?_, ?_⟩ <;> (repeat (first | (with_reducible assumption) | (with_reducible refine cell_drw ?_) | (with_reducible refine cell_up ?_ _)))) ((go_at_call 12; refine Calls.mono (HCL.out _ HB1.out.drew) ?_; rintro e w5 ⟨g, G, P, rfl, HG, hb5⟩; have HB5 : Hid (Below wr.heap.size wr w5) := HB1.out.trans ((Below.refl _ _).drew.trans (hb5.mono (Nat.le_refl _)) |>.mono HB1.out.size); clear hb5; obtain ⟨p0, hcell, p3, -⟩ := HCS.out w5 HB5.out))
          have HGR : Hid (Grid V1.drew w5 g kl kl kl G P) := HG.out.1
          have HCB := Hid.out (p := Hid _) HG.out.2
          have HC5 : Hid (∀ V, Below w5.heap.size w5 V → Below wr.heap.size wr V ∧ Below S.heap.size S V ∧ V.cell? ⟨w.heap.size, 3, none⟩ = some (.int .i64 kl) ∧ V.cell? ⟨kb, ko + t, none⟩ = some (.slice kca kl kcc) ∧ SIs V kca k ∧ Grid V1.drew V g kl kl kl G P) := fun V hV => by
            have h := HB5.out.trans (hV.mono HB5.out.size)
            obtain ⟨-, -, q3, qk⟩ := HCS.out V h
            exact ⟨h, HI.out.2.trans (h.mono HI.out.2.size), q3, qk, HKS.out.below h, HGR.out.below hV⟩
          clear p0 hcell p3 HG HCL
          go_wp2_with fail
          go_loopw [7] (fun i wi => ∃ r : Nat, r ≤ kl ∧ i = .int .i64 r ∧ Hid ((∀ q, q < r → ColR k (Cl (X t) (L t)) q) ∧ Below w5.heap.size w5 wi)) (fun i _ => kl - (intOf i).toNat)
          case atStart => exact ⟨0, Nat.zero_le _, rfl, fun q hq => absurd hq (Nat.not_lt_zero _), (by first | exact Below.refl _ _ | exact (Below.refl _ _).drew)⟩
          case round =>
            obtain ⟨r, hr, rfl, HJ⟩ := hrel
            obtain ⟨hw6, hs6, q3, qk, hks, hg6⟩ := HC5.out wr HJ.out.2
            by_cases hrn : r < kl
            · have hrI : (r : Int) < (kl : Int) := by omega
              obtain ⟨vb, vo, rfl, hvc⟩ := hks r (by rw [HKL.out]; exact hrn)
              obtain ⟨v, hv⟩ : ∃ v, k.getD r 0 = v := ⟨_, rfl⟩
              rw [hv] at hvc
              have HV := Hid.out (p := Hid _) hv
              have HW6 := Hid.out (p := Hid _) hw6
              clear hv hks hg6 hs6 hw6
              by_cases hlo : v < -1
              · have HNO : Hid (¬ ColP K kn L X kl) := fun h => by
                  have h1 := ((h.2 t htn).2 r hrn).1
                  rw [HKT.out, HV.out] at h1
                  omega
                obtain ⟨-, hs6, -⟩ := HC5.out wr HJ.out.2
                have HWV := Hid.out (p := Hid _) (HAT.out wr hs6).1
                clear hs6
                go_wp2_with fail
                go_ret
                exact ⟨false, rfl, ⟨fun h => (by cases h), fun h => absurd h HNO.out⟩, HWV.out⟩
              · by_cases hhi : 6 ≤ v
                · have HNO : Hid (¬ ColP K kn L X kl) := fun h => by
                    have h1 := ((h.2 t htn).2 r hrn).2.1
                    rw [HKT.out, HV.out] at h1
                    omega
                  obtain ⟨-, hs6, -⟩ := HC5.out wr HJ.out.2
                  have HWV := Hid.out (p := Hid _) (HAT.out wr hs6).1
                  clear hs6
                  go_wp2_with fail
                  go_ret
                  exact ⟨false, rfl, ⟨fun h => (by cases h), fun h => absurd h HNO.out⟩, HWV.out⟩
                · have HVV : Hid (-1 ≤ v ∧ v < 6) := ⟨by omega, by omega⟩
                  go_wp2_with fail
                  clear q3 qk hvc
                  go_loopw [9] (fun i wi => ∃ s : Nat, s ≤ kl ∧ i = .int .i64 s ∧ Hid ((∀ q, q < s → Cl (X t) (L t) r q → v ≠ -1 → v ≠ k.getD q 0) ∧ Below w5.heap.size w5 wi)) (fun i _ => kl - (intOf i).toNat)
                  case atStart => exact ⟨0, Nat.zero_le _, rfl, fun q hq => absurd hq (Nat.not_lt_zero _), HJ.out.2⟩
                  case round =>
                    obtain ⟨s, hs, rfl, HL⟩ := hrel
                    obtain ⟨-, hs6, q3, qk, hks, hg6⟩ := HC5.out wr HL.out.2
                    by_cases hsn : s < kl
                    · have hsI : (s : Int) < (kl : Int) := by omega
                      have HS6 := Hid.out (p := Hid _) hs6
                      by_cases hv0 : 0 ≤ v
                      · have gr := hg6.at hrn
                        have gs := hg6.cell hrn hsn
                        obtain ⟨cbit, hcb⟩ : ∃ x, (P r).getD s false = x := ⟨_, rfl⟩
                        rw [hcb] at gs
                        have HBC : Hid (cbit = true ↔ Cl (X t) (L t) r s) := by rw [← hcb, HLT.out]; exact HCB.out r s hrn hsn
                        obtain ⟨sb, so, hse, hsc⟩ := hks s (by rw [HKL.out]; exact hsn)
                        simp only [Option.some.injEq, Addr.mk.injEq, and_true] at hse
                        obtain ⟨rfl, rfl⟩ := hse
                        obtain ⟨u, hu⟩ : ∃ u, k.getD s 0 = u := ⟨_, rfl⟩
                        rw [hu] at hsc
                        have HU := Hid.out (p := Hid _) hu
                        clear hcb hu hks hg6 hs6
                        cases cbit with
                        | false =>
                          have HNX : Hid (∀ q, q < s + 1 → Cl (X t) (L t) r q → v ≠ -1 → v ≠ k.getD q 0) := fun q hq hcl h => by
                            by_cases e : q = s
                            · rw [e] at hcl
                              have := HBC.out.2 hcl
                              cases this
                            · exact HL.out.1 q (by omega) hcl h
                          go_wp2_with fail
                          go_roundw
                          case rel => exact ⟨s + 1, by omega, by go_num, HNX.out, HL.out.2⟩
                          case measure => simp [intOf]; omega
                        | true =>
                          by_cases hvu : u = v
                          · have hvub : (u == v) = true := by simpa using hvu
                            have HNO : Hid (¬ ColP K kn L X kl) := fun h => by
                              have h1 := ((h.2 t htn).2 r hrn).2.2 s (by rw [HKT.out, HKL.out]; exact hsn) (HBC.out.1 rfl)
                              rw [HKT.out, HV.out, HU.out] at h1
                              exact h1 (by omega) hvu.symm
                            have HWV := Hid.out (p := Hid _) (HAT.out wr HS6.out).1
                            clear hvu
                            go_wp2_with fail
                            go_ret
                            exact ⟨false, rfl, ⟨fun h => (by cases h), fun h => absurd h HNO.out⟩, HWV.out⟩
                          · have hvub : (u == v) = false := by simpa using hvu
                            have HNX : Hid (∀ q, q < s + 1 → Cl (X t) (L t) r q → v ≠ -1 → v ≠ k.getD q 0) := fun q hq hcl h => by
                              by_cases e : q = s
                              · rw [e, HU.out]
                                exact fun e => hvu e.symm
                              · exact HL.out.1 q (by omega) hcl h
                            clear hvu
                            go_wp2_with fail
                            go_roundw
                            case rel => exact ⟨s + 1, by omega, by go_num, HNX.out, HL.out.2⟩
                            case measure => simp [intOf]; omega
                      · have HNX : Hid (∀ q, q < s + 1 → Cl (X t) (L t) r q → v ≠ -1 → v ≠ k.getD q 0) := fun q hq hcl h => by
                          have := HVV.out
                          omega
                        have hv0' : ¬ 0 ≤ v := hv0
                        clear hks hg6 hs6
                        go_wp2_with fail
                        go_roundw
                        case rel => exact ⟨s + 1, by omega, by go_num, HNX.out, HL.out.2⟩
                        case measure => simp [intOf]; omega
                    · obtain rfl : s = kl := by omega
                      have HNX : Hid (∀ q, q < r + 1 → ColR k (Cl (X t) (L t)) q) := fun q hq => by
                        by_cases e : q = r
                        · rw [e]
                          refine ⟨by rw [HV.out]; exact HVV.out.1, by rw [HV.out]; exact HVV.out.2, fun p hp hcl h => ?_⟩
                          rw [HV.out] at h ⊢
                          exact HL.out.1 p (by rw [← HKL.out]; exact hp) hcl h
                        · exact HJ.out.1 q (by omega)
                      clear hks hg6 hs6
                      go_wp2_with fail
                      go_roundw
                      case rel => exact ⟨r + 1, by omega, by go_num, HNX.out, HL.out.2⟩
                      case measure => simp [intOf]; omega
            · obtain rfl : r = kl := by omega
              have HNX : Hid (∀ q, q < t + 1 → ColT (K.getD q []) (Cl (X q) (L q)) r) := fun q hq => by
                by_cases e : q = t
                · rw [e, HKT.out]
                  exact ⟨HKL.out, HJ.out.1⟩
                · exact HI.out.1 q (by omega)
              have HS6 := Hid.out (p := Hid _) hs6
              clear hks hg6 hs6 hw6
              go_wp2_with fail
              go_roundw
              case rel => exact ⟨t + 1, by omega, by go_num, HNX.out, HS6.out⟩
              case measure => simp [intOf]; omega
        · have hlb : ((kl : Int) != (rg : Int)) = true := by simp; omega
          have hlb2 : ((kl : Int) == (rg : Int)) = false := by simp; omega
          have HNO : Hid (¬ ColP K kn L X rg) := fun h => by
            have h1 := (h.2 t htn).1
            rw [HKT.out, HKL.out] at h1
            exact hlen h1
          have HWV := Hid.out (p := Hid _) hwV
          clear hks hk hkl hpV hwV hPV hKV
          go_wp2_with fail
          go_quiet (fail)
          go_wp2_with fail
          go_ret
          exact ⟨false, rfl, ⟨fun h => (by cases h), fun h => absurd h HNO.out⟩, below_drewN HWV.out⟩
      · obtain rfl : t = kn := by omega
        have HWV := Hid.out (p := Hid _) hwV
        clear hpV hwV hPV hKV
        go_wp2_with fail
        go_ret
        exact ⟨true, rfl, ⟨fun _ => ⟨HKN.out, HI.out.1⟩, fun _ => rfl⟩, HWV.out⟩
  · have hkb : ((kn : Int) != (n : Int)) = true := by simp; omega
    have hkb2 : ((kn : Int) == (n : Int)) = false := by simp; omega
    have HNO : Hid (¬ ColP K n L X rg) := fun h => hkk (by rw [← HKN.out]; exact h.1)
    have HB : Hid (Below w.heap.size w (w.alloc (.cells #[.slice ca n cc, .slice wa m wc, .int .i64 lk, .int .i64 rg] 25))) := below_one _ _
    go_wp2_with fail
    go_ret
    exact ⟨false, rfl, ⟨fun h => (by cases h), fun h => absurd h HNO.out⟩, HB.out⟩

end Go.Proofs.YtocfocjnnjdcgaaDoor
