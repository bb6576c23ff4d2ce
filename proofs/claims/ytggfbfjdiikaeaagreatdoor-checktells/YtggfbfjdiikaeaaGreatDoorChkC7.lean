/-
  The program's checker: what is asked of a node itself.
-/
import Derived.Test.YtggfbfjdiikaeaaGreatDoorSqM
namespace Go.Proofs.YtggfbfjdiikaeaaGreatDoor
open Go.RowKit

section
variable {w0 w : World} {a : Option Addr} {c : Nat} {rows : List Row} {P : Nat} {v : Rk → Value} {ms : List Nat} {cm : Nat} {s : Cs}
theorem put_is {s s1 : Cs} {i : Nat} (h : putC rows i s = .ok s1) : s1 = pushC s i := by
  unfold putC at h
  split at h
  · cases h
  · exact (Except.ok.inj h).symm
theorem push_len {s : Cs} {i : Nat} (h : s.sc ≠ []) : (pushC s i).sc.length = s.sc.length := by
  have := sc_cons h
  rw [this]
  simp [pushC]
theorem flat_head (s : Cs) : (s.sc.headD []).length ≤ s.sc.flatten.length := by
  cases s.sc with
  | nil => simp
  | cons S r => simp
set_option maxRecDepth 100000 in
set_option maxHeartbeats 6400000 in
theorem clook_any (h : CPs w0 w a c rows P v ms cm s) (hok : CsOk rows s) (ht : TxtOk rows) {i : Nat} (hi : i < rows.length) {k : Int} (hk : (rowA rows i).kind = k) (hlen : s.sc.length ≤ 10000) (hfl : s.sc.flatten.length ≤ 10000) (hrl : rows.length ≤ 10000) :
    Calls Tryz.prog 91 #[.pointer (some ⟨P, 0, none⟩), .int .i64 (i : Int)] w fun e w' => PQ w0 a c rows P s.sc.length (lookC rows k i s) e w' ∧ KpC w w' := by
  have hml : ms.length ≤ 100000 := by rw [h.len]; omega
  have hhd : (s.sc.headD []).length ≤ 100000 := by have := flat_head s; omega
  obtain ⟨g, ka, kc, rfl, hnd⟩ := h.node hi
  have x0 := hnd.k
  rw [hk] at x0
  have c0 := h.c0
  have hi' : (i : Int) < (rows.length : Int) := by omega
  have HNM := Hid.out (p := Hid _) (cname_any h hok.ne ht hi hml hhd (by omega))
  have HCT : Hid (∀ (kn m : Nat) W v' ms' cm' s', CPs w0 W (some ⟨g, 0, none⟩) c rows P v' ms' cm' s' → k = (kn : Int) → (kn = 2 ∨ kn = 3 ∨ kn = 4) → s'.cn k ≤ m → m ≤ 16 → (∀ q, s'.cn q ≤ 16) → Calls Tryz.prog 122 #[.pointer (some ⟨P, 0, none⟩), .int .i64 (i : Int), .int .i64 (m : Int)] W fun e w' => PQ w0 (some ⟨g, 0, none⟩) c rows P s'.sc.length (mostC rows i m s') e w' ∧ KpC W w') := fun kn m W v' ms' cm' s' hW hkn h3 hle hm hcn => ccount_any hW hi (k := kn) (by rw [hk]; exact hkn) h3 m (by rw [← hkn]; exact hle) hm hcn
  have HUS : Hid (∀ (zs : List Int) (p : Int → Bool) (n : Nat), n = zs.length → n ≤ 10 → (∀ q, p q = zs.contains q) → Calls Tryz.prog 89 #[.pointer (some ⟨P, 0, none⟩), .int .i64 (i : Int), .slice (some ⟨w.heap.size, 0, none⟩) n n] (w.alloc (.cells (iV zs).toArray 3)) fun e w' => PQ w0 (some ⟨g, 0, none⟩) c rows P s.sc.length (useC rows i p s) e w' ∧ KpC w w') := fun zs p n hn hn2 hp => by
    have hA := (Below.refl w.heap.size w).alloc (Nat.le_refl _) (.cells (iV zs).toArray 3)
    refine (cuse_any (h.below hA) hok ht hi hml (by omega) w.heap.size zs n hn hn2 (fun j hj => ?_) p hp).mono ?_
    · refine box_cell (heap_alloc_new w _) ?_
      have : (iV zs)[j]? = some (.int .i64 (zs.getD j 0)) := iV_at (by rw [List.getD_eq_getElem?_getD, List.getElem?_eq_getElem hj]; rfl)
      simpa using this
    · rintro e w' ⟨h1, h2⟩
      exact ⟨h1, (KpC.of_below hA).trans h2⟩
  have HOK := Hid.out (p := Hid _) (And.intro h hok)
  have hkind : k = 2 ∨ k = 3 ∨ k = 4 ∨ k = 6 ∨ k = 16 ∨ k = 7 ∨ k = 8 ∨ k = 12 ∨ k = 13 ∨ (k ≠ 2 ∧ k ≠ 3 ∧ k ≠ 4 ∧ k ≠ 6 ∧ k ≠ 16 ∧ k ≠ 7 ∧ k ≠ 8 ∧ k ≠ 12 ∧ k ≠ 13) := by omega
  obtain ⟨R, hR⟩ : ∃ R, R = lookC rows k i s := ⟨_, rfl⟩
  rw [← hR]
  have HR := Hid.out (p := Hid _) hR
  clear h hok ht hi hk hnd hml hhd hR
  rcases hkind with hk | hk | hk | hk | hk | hk | hk | hk | hk | hk
  · have b2 : (k == 2) = true := by simp [hk]
    have hRR : R = (putC rows i s).and (mostC rows i 16) := by rw [HR.out]; unfold lookC; rw [if_pos hk]
    subst hRR
    clear HR
    have HK2 : Hid (k = ((2 : Nat) : Int)) := hk
    have HSL : Hid ((pushC s i).sc.length = s.sc.length) := push_len HOK.out.2.ne
    have HBD : Hid ((pushC s i).cn k ≤ 16) := HOK.out.2.cn k
    cases hp : putC rows i s with
    | error f =>
      rw [hp] at HNM
      clear hp hk
      go_enter Tryz.func91, Tryz.ntmps91
      go_wp2_with fail
      refine Calls.mono HNM.out ?_
      rintro e w1 ⟨⟨rfl, hw⟩, hk1⟩
      exact ⟨rfl, ⟨rfl, hw⟩, hk1⟩
    | ok s1 =>
      rw [hp] at HNM
      have hs1 := put_is hp
      subst hs1
      clear hp hk
      go_enter Tryz.func91, Tryz.ntmps91
      go_wp2_with fail
      refine Calls.mono HNM.out ?_
      rintro e w1 ⟨⟨rfl, v1, ms1, cm1, hP1⟩, hk1⟩
      have HC2 := Hid.out (p := Hid _) (HCT.out 2 16 w1 v1 ms1 cm1 (pushC s i) hP1 HK2.out (by decide) HBD.out (by decide) HOK.out.2.cn)
      have HK1 := Hid.out (p := Hid _) hk1
      clear hP1 hk1 x0 c0
      go_wp2_with fail
      refine Calls.mono HC2.out ?_
      rw [HSL.out]
      show ∀ e w2, PQ _ _ _ _ _ _ _ e w2 ∧ _ → _
      cases hq : mostC rows i 16 (pushC s i) with
      | error f =>
        rintro e w2 ⟨⟨rfl, hw⟩, hk2⟩
        exact ⟨rfl, (by show PQ _ _ _ _ _ _ (mostC rows i 16 (pushC s i)) _ _; rw [hq]; exact ⟨rfl, hw⟩), HK1.out.trans hk2⟩
      | ok s2 =>
        rintro e w2 ⟨⟨rfl, hw⟩, hk2⟩
        have HW2 := Hid.out (p := Hid _) (And.intro hw hk2)
        clear hw hk2
        go_wp2_with fail
        go_end0
        exact ⟨(by show PQ _ _ _ _ _ _ (mostC rows i 16 (pushC s i)) _ _; rw [hq]; exact ⟨rfl, HW2.out.1⟩), HK1.out.trans HW2.out.2⟩
  · have b2 : (k == 2) = false := by simp [hk]
    have b3 : (k == 3) = true := by simp [hk]
    have hRR : R = (putC rows i s).and (mostC rows i 4) := by rw [HR.out]; unfold lookC; rw [if_neg (by rw [hk]; decide), if_pos hk]
    subst hRR
    clear HR
    have HK2 : Hid (k = ((3 : Nat) : Int)) := hk
    have HSL : Hid ((pushC s i).sc.length = s.sc.length) := push_len HOK.out.2.ne
    have HBD : Hid ((pushC s i).cn k ≤ 4) := (by rw [hk]; exact HOK.out.2.c4.1)
    cases hp : putC rows i s with
    | error f =>
      rw [hp] at HNM
      clear hp hk
      go_enter Tryz.func91, Tryz.ntmps91
      go_wp2_with fail
      refine Calls.mono HNM.out ?_
      rintro e w1 ⟨⟨rfl, hw⟩, hk1⟩
      exact ⟨rfl, ⟨rfl, hw⟩, hk1⟩
    | ok s1 =>
      rw [hp] at HNM
      have hs1 := put_is hp
      subst hs1
      clear hp hk
      go_enter Tryz.func91, Tryz.ntmps91
      go_wp2_with fail
      refine Calls.mono HNM.out ?_
      rintro e w1 ⟨⟨rfl, v1, ms1, cm1, hP1⟩, hk1⟩
      have HC2 := Hid.out (p := Hid _) (HCT.out 3 4 w1 v1 ms1 cm1 (pushC s i) hP1 HK2.out (by decide) HBD.out (by decide) HOK.out.2.cn)
      have HK1 := Hid.out (p := Hid _) hk1
      clear hP1 hk1 x0 c0
      go_wp2_with fail
      refine Calls.mono HC2.out ?_
      rw [HSL.out]
      show ∀ e w2, PQ _ _ _ _ _ _ _ e w2 ∧ _ → _
      cases hq : mostC rows i 4 (pushC s i) with
      | error f =>
        rintro e w2 ⟨⟨rfl, hw⟩, hk2⟩
        exact ⟨rfl, (by show PQ _ _ _ _ _ _ (mostC rows i 4 (pushC s i)) _ _; rw [hq]; exact ⟨rfl, hw⟩), HK1.out.trans hk2⟩
      | ok s2 =>
        rintro e w2 ⟨⟨rfl, hw⟩, hk2⟩
        have HW2 := Hid.out (p := Hid _) (And.intro hw hk2)
        clear hw hk2
        go_wp2_with fail
        go_end0
        exact ⟨(by show PQ _ _ _ _ _ _ (mostC rows i 4 (pushC s i)) _ _; rw [hq]; exact ⟨rfl, HW2.out.1⟩), HK1.out.trans HW2.out.2⟩
  · have b2 : (k == 2) = false := by simp [hk]
    have b3 : (k == 3) = false := by simp [hk]
    have b4 : (k == 4) = true := by simp [hk]
    have hRR : R = mostC rows i 4 s := by rw [HR.out]; unfold lookC; rw [if_neg (by rw [hk]; decide), if_neg (by rw [hk]; decide), if_pos hk]
    subst hRR
    clear HR
    have HC2 := Hid.out (p := Hid _) (HCT.out 4 4 w v ms cm s HOK.out.1 hk (by decide) (by rw [hk]; exact HOK.out.2.c4.2) (by decide) HOK.out.2.cn)
    clear hk
    go_enter Tryz.func91, Tryz.ntmps91
    go_wp2_with fail
    refine Calls.mono HC2.out ?_
    cases hq : mostC rows i 4 s with
    | error f =>
      rintro e w2 ⟨⟨rfl, hw⟩, hk2⟩
      exact ⟨rfl, (by show PQ _ _ _ _ _ _ (mostC rows i 4 s) _ _; rw [hq]; exact ⟨rfl, hw⟩), hk2⟩
    | ok s2 =>
      rintro e w2 ⟨⟨rfl, hw⟩, hk2⟩
      have HW2 := Hid.out (p := Hid _) (And.intro hw hk2)
      clear hw hk2
      go_wp2_with fail
      go_end0
      exact ⟨(by show PQ _ _ _ _ _ _ (mostC rows i 4 s) _ _; rw [hq]; exact ⟨rfl, HW2.out.1⟩), HW2.out.2⟩
  · have b2 : (k == 2) = false := by simp [hk]
    have b3 : (k == 3) = false := by simp [hk]
    have b4 : (k == 4) = false := by simp [hk]
    have b6 : (k == 6) = true := by simp [hk]
    have hRR : R = putC rows i s := by rw [HR.out]; unfold lookC; rw [if_neg (by rw [hk]; decide), if_neg (by rw [hk]; decide), if_neg (by rw [hk]; decide), if_pos hk]
    subst hRR
    clear HR
    clear hk
    go_enter Tryz.func91, Tryz.ntmps91
    go_wp2_with fail
    refine Calls.mono HNM.out ?_
    cases hq : putC rows i s with
    | error f =>
      rintro e w2 ⟨⟨rfl, hw⟩, hk2⟩
      exact ⟨rfl, (by show PQ _ _ _ _ _ _ (putC rows i s) _ _; rw [hq]; exact ⟨rfl, hw⟩), hk2⟩
    | ok s2 =>
      rintro e w2 ⟨⟨rfl, hw⟩, hk2⟩
      have HW2 := Hid.out (p := Hid _) (And.intro hw hk2)
      clear hw hk2
      go_wp2_with fail
      go_end0
      exact ⟨(by show PQ _ _ _ _ _ _ (putC rows i s) _ _; rw [hq]; exact ⟨rfl, HW2.out.1⟩), HW2.out.2⟩
  · have b2 : (k == 2) = false := by simp [hk]
    have b3 : (k == 3) = false := by simp [hk]
    have b4 : (k == 4) = false := by simp [hk]
    have b6 : (k == 6) = false := by simp [hk]
    have b16 : (k == 16) = true := by simp [hk]
    have hRR : R = useC rows i isVar s := by rw [HR.out]; unfold lookC; rw [if_neg (by rw [hk]; decide), if_neg (by rw [hk]; decide), if_neg (by rw [hk]; decide), if_neg (by rw [hk]; decide), if_pos (by rw [hk]; decide)]
    subst hRR
    clear HR
    have HC2 := Hid.out (p := Hid _) (HUS.out [2, 6] isVar 2 rfl (by decide) (fun q => by unfold isVar; rw [Bool.eq_iff_iff]; simp))
    clear hk
    go_enter Tryz.func91, Tryz.ntmps91
    go_wp2_with fail
    refine Calls.mono HC2.out ?_
    cases hq : useC rows i isVar s with
    | error f =>
      rintro e w2 ⟨⟨rfl, hw⟩, hk2⟩
      exact ⟨rfl, (by show PQ _ _ _ _ _ _ (useC rows i isVar s) _ _; rw [hq]; exact ⟨rfl, hw⟩), hk2⟩
    | ok s2 =>
      rintro e w2 ⟨⟨rfl, hw⟩, hk2⟩
      have HW2 := Hid.out (p := Hid _) (And.intro hw hk2)
      clear hw hk2
      go_wp2_with fail
      go_end0
      exact ⟨(by show PQ _ _ _ _ _ _ (useC rows i isVar s) _ _; rw [hq]; exact ⟨rfl, HW2.out.1⟩), HW2.out.2⟩
  · have b2 : (k == 2) = false := by simp [hk]
    have b3 : (k == 3) = false := by simp [hk]
    have b4 : (k == 4) = false := by simp [hk]
    have b6 : (k == 6) = false := by simp [hk]
    have b16 : (k == 16) = false := by simp [hk]
    have b7 : (k == 7) = true := by simp [hk]
    have hRR : R = useC rows i isVar s := by rw [HR.out]; unfold lookC; rw [if_neg (by rw [hk]; decide), if_neg (by rw [hk]; decide), if_neg (by rw [hk]; decide), if_neg (by rw [hk]; decide), if_pos (by rw [hk]; decide)]
    subst hRR
    clear HR
    have HC2 := Hid.out (p := Hid _) (HUS.out [2, 6] isVar 2 rfl (by decide) (fun q => by unfold isVar; rw [Bool.eq_iff_iff]; simp))
    clear hk
    go_enter Tryz.func91, Tryz.ntmps91
    go_wp2_with fail
    refine Calls.mono HC2.out ?_
    cases hq : useC rows i isVar s with
    | error f =>
      rintro e w2 ⟨⟨rfl, hw⟩, hk2⟩
      exact ⟨rfl, (by show PQ _ _ _ _ _ _ (useC rows i isVar s) _ _; rw [hq]; exact ⟨rfl, hw⟩), hk2⟩
    | ok s2 =>
      rintro e w2 ⟨⟨rfl, hw⟩, hk2⟩
      have HW2 := Hid.out (p := Hid _) (And.intro hw hk2)
      clear hw hk2
      go_wp2_with fail
      go_end0
      exact ⟨(by show PQ _ _ _ _ _ _ (useC rows i isVar s) _ _; rw [hq]; exact ⟨rfl, HW2.out.1⟩), HW2.out.2⟩
  · have b2 : (k == 2) = false := by simp [hk]
    have b3 : (k == 3) = false := by simp [hk]
    have b4 : (k == 4) = false := by simp [hk]
    have b6 : (k == 6) = false := by simp [hk]
    have b16 : (k == 16) = false := by simp [hk]
    have b7 : (k == 7) = false := by simp [hk]
    have b8 : (k == 8) = true := by simp [hk]
    have hRR : R = useC rows i isVar s := by rw [HR.out]; unfold lookC; rw [if_neg (by rw [hk]; decide), if_neg (by rw [hk]; decide), if_neg (by rw [hk]; decide), if_neg (by rw [hk]; decide), if_pos (by rw [hk]; decide)]
    subst hRR
    clear HR
    have HC2 := Hid.out (p := Hid _) (HUS.out [2, 6] isVar 2 rfl (by decide) (fun q => by unfold isVar; rw [Bool.eq_iff_iff]; simp))
    clear hk
    go_enter Tryz.func91, Tryz.ntmps91
    go_wp2_with fail
    refine Calls.mono HC2.out ?_
    cases hq : useC rows i isVar s with
    | error f =>
      rintro e w2 ⟨⟨rfl, hw⟩, hk2⟩
      exact ⟨rfl, (by show PQ _ _ _ _ _ _ (useC rows i isVar s) _ _; rw [hq]; exact ⟨rfl, hw⟩), hk2⟩
    | ok s2 =>
      rintro e w2 ⟨⟨rfl, hw⟩, hk2⟩
      have HW2 := Hid.out (p := Hid _) (And.intro hw hk2)
      clear hw hk2
      go_wp2_with fail
      go_end0
      exact ⟨(by show PQ _ _ _ _ _ _ (useC rows i isVar s) _ _; rw [hq]; exact ⟨rfl, HW2.out.1⟩), HW2.out.2⟩
  · have b2 : (k == 2) = false := by simp [hk]
    have b3 : (k == 3) = false := by simp [hk]
    have b4 : (k == 4) = false := by simp [hk]
    have b6 : (k == 6) = false := by simp [hk]
    have b16 : (k == 16) = false := by simp [hk]
    have b7 : (k == 7) = false := by simp [hk]
    have b8 : (k == 8) = false := by simp [hk]
    have b12 : (k == 12) = true := by simp [hk]
    have hRR : R = useC rows i isLok s := by rw [HR.out]; unfold lookC; rw [if_neg (by rw [hk]; decide), if_neg (by rw [hk]; decide), if_neg (by rw [hk]; decide), if_neg (by rw [hk]; decide), if_neg (by rw [hk]; decide), if_pos (by rw [hk]; decide)]
    subst hRR
    clear HR
    have HC2 := Hid.out (p := Hid _) (HUS.out [3] isLok 1 rfl (by decide) (fun q => by unfold isLok; rw [Bool.eq_iff_iff]; simp))
    clear hk
    go_enter Tryz.func91, Tryz.ntmps91
    go_wp2_with fail
    refine Calls.mono HC2.out ?_
    cases hq : useC rows i isLok s with
    | error f =>
      rintro e w2 ⟨⟨rfl, hw⟩, hk2⟩
      exact ⟨rfl, (by show PQ _ _ _ _ _ _ (useC rows i isLok s) _ _; rw [hq]; exact ⟨rfl, hw⟩), hk2⟩
    | ok s2 =>
      rintro e w2 ⟨⟨rfl, hw⟩, hk2⟩
      have HW2 := Hid.out (p := Hid _) (And.intro hw hk2)
      clear hw hk2
      go_wp2_with fail
      go_end0
      exact ⟨(by show PQ _ _ _ _ _ _ (useC rows i isLok s) _ _; rw [hq]; exact ⟨rfl, HW2.out.1⟩), HW2.out.2⟩
  · have b2 : (k == 2) = false := by simp [hk]
    have b3 : (k == 3) = false := by simp [hk]
    have b4 : (k == 4) = false := by simp [hk]
    have b6 : (k == 6) = false := by simp [hk]
    have b16 : (k == 16) = false := by simp [hk]
    have b7 : (k == 7) = false := by simp [hk]
    have b8 : (k == 8) = false := by simp [hk]
    have b12 : (k == 12) = false := by simp [hk]
    have b13 : (k == 13) = true := by simp [hk]
    have hRR : R = useC rows i isLok s := by rw [HR.out]; unfold lookC; rw [if_neg (by rw [hk]; decide), if_neg (by rw [hk]; decide), if_neg (by rw [hk]; decide), if_neg (by rw [hk]; decide), if_neg (by rw [hk]; decide), if_pos (by rw [hk]; decide)]
    subst hRR
    clear HR
    have HC2 := Hid.out (p := Hid _) (HUS.out [3] isLok 1 rfl (by decide) (fun q => by unfold isLok; rw [Bool.eq_iff_iff]; simp))
    clear hk
    go_enter Tryz.func91, Tryz.ntmps91
    go_wp2_with fail
    refine Calls.mono HC2.out ?_
    cases hq : useC rows i isLok s with
    | error f =>
      rintro e w2 ⟨⟨rfl, hw⟩, hk2⟩
      exact ⟨rfl, (by show PQ _ _ _ _ _ _ (useC rows i isLok s) _ _; rw [hq]; exact ⟨rfl, hw⟩), hk2⟩
    | ok s2 =>
      rintro e w2 ⟨⟨rfl, hw⟩, hk2⟩
      have HW2 := Hid.out (p := Hid _) (And.intro hw hk2)
      clear hw hk2
      go_wp2_with fail
      go_end0
      exact ⟨(by show PQ _ _ _ _ _ _ (useC rows i isLok s) _ _; rw [hq]; exact ⟨rfl, HW2.out.1⟩), HW2.out.2⟩
  · obtain ⟨h2, h3, h4, h6, h16, h7, h8, h12, h13⟩ := hk
    have b2 : (k == 2) = false := by simp [h2]
    have b3 : (k == 3) = false := by simp [h3]
    have b4 : (k == 4) = false := by simp [h4]
    have b6 : (k == 6) = false := by simp [h6]
    have b16 : (k == 16) = false := by simp [h16]
    have b7 : (k == 7) = false := by simp [h7]
    have b8 : (k == 8) = false := by simp [h8]
    have b12 : (k == 12) = false := by simp [h12]
    have b13 : (k == 13) = false := by simp [h13]
    have hRR : R = .ok s := by
      rw [HR.out]
      unfold lookC
      rw [if_neg h2, if_neg h3, if_neg h4, if_neg h6, if_neg (by omega), if_neg (by omega)]
    subst hRR
    clear h2 h3 h4 h6 h16 h7 h8 h12 h13 HR
    go_enter Tryz.func91, Tryz.ntmps91
    go_wp2_with fail
    go_end0
    exact ⟨⟨rfl, _, _, _, HOK.out.1⟩, KpC.refl _⟩
end

end Go.Proofs.YtggfbfjdiikaeaaGreatDoor
