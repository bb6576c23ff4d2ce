/-
  The program's checker: a name that is used.
  The program's checker: what is asked of a node itself.
  The program's parser: an expression in brackets behind a word; print; a local's statement.
  The program's parser: a local's statement; locks.
-/
import Derived.Test.YtclnjhffcfkihaeGreatDoorChkC5
import Derived.Test.YtclnjhffcfkihaeGreatDoorShelf
import Derived.Test.YtclnjhffcfkihaeGreatDoorSqJ
namespace Go.Proofs.YtclnjhffcfkihaeGreatDoor
section
open Go.RowKit

section
variable {w0 w : World} {a : Option Addr} {c : Nat} {rows : List Row} {P : Nat} {v : Rk → Value} {ms : List Nat} {cm : Nat} {s : Cs}
set_option maxRecDepth 100000 in
set_option maxHeartbeats 3200000 in
theorem cuse_any (h : CPs w0 w a c rows P v ms cm s) (hok : CsOk rows s) (ht : TxtOk rows) {i : Nat} (hi : i < rows.length) (hlen : ms.length ≤ 100000) (hrl : rows.length ≤ 100000) (kb : Nat) (zs : List Int) (m : Nat) (hm : m = zs.length) (hm2 : m ≤ 10) (hk : ∀ j, j < zs.length → w.cell? ⟨kb, j, none⟩ = some (.int .i64 (zs.getD j 0))) (p : Int → Bool) (hp : ∀ k, p k = zs.contains k) :
    Calls Tryz.prog 104 #[.pointer (some ⟨P, 0, none⟩), .int .i64 (i : Int), .slice (some ⟨kb, 0, none⟩) m m] w fun e w' => PQ w0 a c rows P s.sc.length (useC rows i p s) e w' ∧ KpC w w' := by
  have HFD := Hid.out (p := Hid _) (cfind_any h hok.ne ht hi hlen)
  have HW := Hid.out (p := Hid _) h.weak
  cases hf : findC rows s.sc (rowA rows i).text with
  | none =>
    rw [hf] at HFD
    have hR : useC rows i p s = .error (7, (rowA rows i).pos) := by unfold useC; rw [hf]
    rw [hR]
    clear h hok ht hk hp hf hR hm
    go_enter Tryz.func104, Tryz.ntmps104
    go_wp2_with fail
    refine Calls.mono HFD.out ?_
    rintro e w1 ⟨rfl, hb1⟩
    exact ⟨rfl, ⟨rfl, HW.out.below hb1⟩, KpC.of_below hb1⟩
  | some d =>
    rw [hf] at HFD
    obtain ⟨⟨S, hS, hd⟩, -⟩ := find_mem hf
    have hdl := (hok.mem S hS d hd).1
    obtain ⟨g, ka, kc, rfl, hnd⟩ := h.node hdl
    obtain ⟨ub, uc, huv, hub, -, hul⟩ := fam_block (h.fam.own .ow) (by show 0 < s.us.length; rw [hok.us]; omega)
    have huv' : v .ow = .slice (some ⟨ub, 0, none⟩) rows.length uc := by rw [← hok.us]; exact huv
    obtain ⟨KD, hKD⟩ : ∃ x, (rowA rows d).kind = x := ⟨_, rfl⟩
    have hR : useC rows i p s = if p KD then .ok { s with us := s.us.set i (d : Int) } else .error (9, (rowA rows i).pos) := by unfold useC; rw [hf, ← hKD]
    have HCT : Hid (∀ W, Below w.heap.size w W → Calls Tryz.prog 125 #[.slice (some ⟨kb, 0, none⟩) m m, .int .i64 KD] W fun e w' => e = .returned (.bool (p KD)) ∧ w' = W) := fun W hW => by
      have := Tryz.slices_Contains_int kb 0 m m zs KD W (by omega) (by omega) (fun j hj => by
        rw [Nat.zero_add]
        exact (hW.cell (lt_of_cell (hk j hj))).trans (hk j hj))
      rw [hm, List.take_length, ← hp] at this
      rw [hm]
      exact this
    have HC : Hid (∀ W, Below w.heap.size w W → W.cell? ⟨P, 0, none⟩ = some (.slice (some ⟨g, 0, none⟩) rows.length c) ∧ W.cell? ⟨g, d * 5, none⟩ = some (.int .i64 KD) ∧ W.cell? ⟨P, 1, none⟩ = some (.slice (some ⟨ub, 0, none⟩) rows.length uc) ∧ (∃ u, W.cell? ⟨ub, i, none⟩ = some u) ∧ W.frozen? ⟨ub, i, none⟩ = false ∧ CPs w0 W (some ⟨g, 0, none⟩) c rows P v ms cm s) := fun W hW => by
      have h' := h.below hW
      obtain ⟨g2, ka2, kc2, hg2, hn2⟩ := h'.node hdl
      simp only [Option.some.injEq, Addr.mk.injEq, and_true] at hg2
      obtain rfl := hg2
      have hkk := hn2.k
      rw [hKD] at hkk
      have c1 := h'.c1
      rw [huv'] at c1
      obtain ⟨x, hx⟩ : ∃ x, s.us[i]? = some x := ⟨_, List.getElem?_eq_getElem (by rw [hok.us]; exact hi)⟩
      exact ⟨h'.c0, hkk, c1, ⟨_, h'.fam.cell hub (iV_at hx)⟩, h'.fam.frozen hub i, h'⟩
    have HUB := Hid.out (p := Hid _) hub
    have HFL : Hid (∀ W, Below w.heap.size w W → Calls Tryz.prog 77 #[.pointer (some ⟨P, 0, none⟩), .int .i64 9, .int .i64 (i : Int)] W fun e w' => e = .returned (.agg #[.int .i64 9, .int .i64 0, .int .i64 (rowA rows i).pos]) ∧ Below W.heap.size W w') := fun W hW => cfault_any (h.below hW) hi 9
    have hi' : (i : Int) < (rows.length : Int) := by omega
    have hdl' : (d : Int) < (rows.length : Int) := by omega
    obtain ⟨pb, hpb⟩ : ∃ pb, p KD = pb := ⟨_, rfl⟩
    rw [hpb] at hR HCT
    rw [hR]
    clear h hok ht hk hp hf hR hm hnd huv huv' hub hKD hS hd hpb hdl hi
    cases pb with
    | true =>
      go_enter Tryz.func104, Tryz.ntmps104
      go_wp2_with fail
      refine Calls.mono HFD.out ?_
      rintro e w1 ⟨rfl, hb1⟩
      obtain ⟨c0, x0, c1, ⟨u, u0⟩, uf, hP⟩ := HC.out w1 hb1
      have HB1 := Hid.out (p := Hid _) (And.intro hb1 hP)
      clear hb1 hP
      go_wp2_with fail
      refine Calls.mono (HCT.out _ HB1.out.1) ?_
      rintro e w2 ⟨rfl, rfl⟩
      go_wp2_with fail
      go_end0
      exact ⟨⟨rfl, _, _, _, HB1.out.2.setU HUB.out i (d : Int)⟩, (KpC.of_below HB1.out.1).trans (HB1.out.2.kept HUB.out i _)⟩
    | false =>
      go_enter Tryz.func104, Tryz.ntmps104
      go_wp2_with fail
      refine Calls.mono HFD.out ?_
      rintro e w1 ⟨rfl, hb1⟩
      obtain ⟨c0, x0, c1, ⟨u, u0⟩, uf, hP⟩ := HC.out w1 hb1
      have HB1 := Hid.out (p := Hid _) (And.intro hb1 hP)
      clear hb1 hP
      go_wp2_with fail
      refine Calls.mono (HCT.out _ HB1.out.1) ?_
      rintro e w2 ⟨rfl, rfl⟩
      go_wp2_with fail
      refine Calls.mono (HFL.out _ HB1.out.1) ?_
      rintro e w3 ⟨rfl, hb3⟩
      have HB3 := Hid.out (p := Hid _) hb3
      clear hb3
      go_wp2_with fail
      exact ⟨rfl, ⟨rfl, (HW.out.below HB1.out.1).below HB3.out⟩, (KpC.of_below HB1.out.1).trans (KpC.of_below HB3.out)⟩
end
end

section
open Go.RowKit

section
variable {w0 w : World} {a : Option Addr} {c : Nat} {rows : List Row} {P : Nat} {v : Rk → Value} {ms : List Nat} {cm : Nat} {s : Cs}
theorem put_is {s s1 : Cs} {i : Nat} (h : putC rows i s = .ok s1) : s1 = pushC s i := by
  unfold putC at h
  split at h
  · cases h
  · exact (Except.ok.inj h).symm
theorem push_len {s : Cs} {i : Nat} (h : s.sc ≠ []) : (pushC s i).sc.length = s.sc.length := by
  have := sc_cons h
  rw [this]
  simp [pushC]
theorem flat_head (s : Cs) : (s.sc.headD []).length ≤ s.sc.flatten.length := by
  cases s.sc with
  | nil => simp
  | cons S r => simp
set_option maxRecDepth 100000 in
set_option maxHeartbeats 6400000 in
theorem clook_any (h : CPs w0 w a c rows P v ms cm s) (hok : CsOk rows s) (ht : TxtOk rows) {i : Nat} (hi : i < rows.length) {k : Int} (hk : (rowA rows i).kind = k) (hlen : s.sc.length ≤ 10000) (hfl : s.sc.flatten.length ≤ 10000) (hrl : rows.length ≤ 10000) :
    Calls Tryz.prog 106 #[.pointer (some ⟨P, 0, none⟩), .int .i64 (i : Int)] w fun e w' => PQ w0 a c rows P s.sc.length (lookC rows k i s) e w' ∧ KpC w w' := by
  have hml : ms.length ≤ 100000 := by rw [h.len]; omega
  have hhd : (s.sc.headD []).length ≤ 100000 := by have := flat_head s; omega
  obtain ⟨g, ka, kc, rfl, hnd⟩ := h.node hi
  have x0 := hnd.k
  rw [hk] at x0
  have c0 := h.c0
  have hi' : (i : Int) < (rows.length : Int) := by omega
  have HNM := Hid.out (p := Hid _) (cname_any h hok.ne ht hi hml hhd (by omega))
  have HCT : Hid (∀ (kn m : Nat) W v' ms' cm' s', CPs w0 W (some ⟨g, 0, none⟩) c rows P v' ms' cm' s' → k = (kn : Int) → (kn = 2 ∨ kn = 3 ∨ kn = 4) → s'.cn k ≤ m → m ≤ 16 → (∀ q, s'.cn q ≤ 16) → Calls Tryz.prog 127 #[.pointer (some ⟨P, 0, none⟩), .int .i64 (i : Int), .int .i64 (m : Int)] W fun e w' => PQ w0 (some ⟨g, 0, none⟩) c rows P s'.sc.length (mostC rows i m s') e w' ∧ KpC W w') := fun kn m W v' ms' cm' s' hW hkn h3 hle hm hcn => ccount_any hW hi (k := kn) (by rw [hk]; exact hkn) h3 m (by rw [← hkn]; exact hle) hm hcn
  have HUS : Hid (∀ (zs : List Int) (p : Int → Bool) (n : Nat), n = zs.length → n ≤ 10 → (∀ q, p q = zs.contains q) → Calls Tryz.prog 104 #[.pointer (some ⟨P, 0, none⟩), .int .i64 (i : Int), .slice (some ⟨w.heap.size, 0, none⟩) n n] (w.alloc (.cells (iV zs).toArray 3)) fun e w' => PQ w0 (some ⟨g, 0, none⟩) c rows P s.sc.length (useC rows i p s) e w' ∧ KpC w w') := fun zs p n hn hn2 hp => by
    have hA := (Below.refl w.heap.size w).alloc (Nat.le_refl _) (.cells (iV zs).toArray 3)
    refine (cuse_any (h.below hA) hok ht hi hml (by omega) w.heap.size zs n hn hn2 (fun j hj => ?_) p hp).mono ?_
    · refine box_cell (heap_alloc_new w _) ?_
      have : (iV zs)[j]? = some (.int .i64 (zs.getD j 0)) := iV_at (by rw [List.getD_eq_getElem?_getD, List.getElem?_eq_getElem hj]; rfl)
      simpa using this
    · rintro e w' ⟨h1, h2⟩
      exact ⟨h1, (KpC.of_below hA).trans h2⟩
  have HOK := Hid.out (p := Hid _) (And.intro h hok)
  have hkind : k = 2 ∨ k = 3 ∨ k = 4 ∨ k = 6 ∨ k = 16 ∨ k = 7 ∨ k = 8 ∨ k = 12 ∨ k = 13 ∨ (k ≠ 2 ∧ k ≠ 3 ∧ k ≠ 4 ∧ k ≠ 6 ∧ k ≠ 16 ∧ k ≠ 7 ∧ k ≠ 8 ∧ k ≠ 12 ∧ k ≠ 13) := by omega
  obtain ⟨R, hR⟩ : ∃ R, R = lookC rows k i s := ⟨_, rfl⟩
  rw [← hR]
  have HR := Hid.out (p := Hid _) hR
  clear h hok ht hi hk hnd hml hhd hR
  rcases hkind with hk | hk | hk | hk | hk | hk | hk | hk | hk | hk
  · have b2 : (k == 2) = true := by simp [hk]
    have hRR : R = (putC rows i s).and (mostC rows i 16) := by rw [HR.out]; unfold lookC; rw [if_pos hk]
    subst hRR
    clear HR
    have HK2 : Hid (k = ((2 : Nat) : Int)) := hk
    have HSL : Hid ((pushC s i).sc.length = s.sc.length) := push_len HOK.out.2.ne
    have HBD : Hid ((pushC s i).cn k ≤ 16) := HOK.out.2.cn k
    cases hp : putC rows i s with
    | error f =>
      rw [hp] at HNM
      clear hp hk
      go_enter Tryz.func106, Tryz.ntmps106
      go_wp2_with fail
      refine Calls.mono HNM.out ?_
      rintro e w1 ⟨⟨rfl, hw⟩, hk1⟩
      exact ⟨rfl, ⟨rfl, hw⟩, hk1⟩
    | ok s1 =>
      rw [hp] at HNM
      have hs1 := put_is hp
      subst hs1
      clear hp hk
      go_enter Tryz.func106, Tryz.ntmps106
      go_wp2_with fail
      refine Calls.mono HNM.out ?_
      rintro e w1 ⟨⟨rfl, v1, ms1, cm1, hP1⟩, hk1⟩
      have HC2 := Hid.out (p := Hid _) (HCT.out 2 16 w1 v1 ms1 cm1 (pushC s i) hP1 HK2.out (by decide) HBD.out (by decide) HOK.out.2.cn)
      have HK1 := Hid.out (p := Hid _) hk1
      clear hP1 hk1 x0 c0
      go_wp2_with fail
      refine Calls.mono HC2.out ?_
      rw [HSL.out]
      show ∀ e w2, PQ _ _ _ _ _ _ _ e w2 ∧ _ → _
      cases hq : mostC rows i 16 (pushC s i) with
      | error f =>
        rintro e w2 ⟨⟨rfl, hw⟩, hk2⟩
        exact ⟨rfl, (by show PQ _ _ _ _ _ _ (mostC rows i 16 (pushC s i)) _ _; rw [hq]; exact ⟨rfl, hw⟩), HK1.out.trans hk2⟩
      | ok s2 =>
        rintro e w2 ⟨⟨rfl, hw⟩, hk2⟩
        have HW2 := Hid.out (p := Hid _) (And.intro hw hk2)
        clear hw hk2
        go_wp2_with fail
        go_end0
        exact ⟨(by show PQ _ _ _ _ _ _ (mostC rows i 16 (pushC s i)) _ _; rw [hq]; exact ⟨rfl, HW2.out.1⟩), HK1.out.trans HW2.out.2⟩
  · have b2 : (k == 2) = false := by simp [hk]
    have b3 : (k == 3) = true := by simp [hk]
    have hRR : R = (putC rows i s).and (mostC rows i 4) := by rw [HR.out]; unfold lookC; rw [if_neg (by rw [hk]; decide), if_pos hk]
    subst hRR
    clear HR
    have HK2 : Hid (k = ((3 : Nat) : Int)) := hk
    have HSL : Hid ((pushC s i).sc.length = s.sc.length) := push_len HOK.out.2.ne
    have HBD : Hid ((pushC s i).cn k ≤ 4) := (by rw [hk]; exact HOK.out.2.c4.1)
    cases hp : putC rows i s with
    | error f =>
      rw [hp] at HNM
      clear hp hk
      go_enter Tryz.func106, Tryz.ntmps106
      go_wp2_with fail
      refine Calls.mono HNM.out ?_
      rintro e w1 ⟨⟨rfl, hw⟩, hk1⟩
      exact ⟨rfl, ⟨rfl, hw⟩, hk1⟩
    | ok s1 =>
      rw [hp] at HNM
      have hs1 := put_is hp
      subst hs1
      clear hp hk
      go_enter Tryz.func106, Tryz.ntmps106
      go_wp2_with fail
      refine Calls.mono HNM.out ?_
      rintro e w1 ⟨⟨rfl, v1, ms1, cm1, hP1⟩, hk1⟩
      have HC2 := Hid.out (p := Hid _) (HCT.out 3 4 w1 v1 ms1 cm1 (pushC s i) hP1 HK2.out (by decide) HBD.out (by decide) HOK.out.2.cn)
      have HK1 := Hid.out (p := Hid _) hk1
      clear hP1 hk1 x0 c0
      go_wp2_with fail
      refine Calls.mono HC2.out ?_
      rw [HSL.out]
      show ∀ e w2, PQ _ _ _ _ _ _ _ e w2 ∧ _ → _
      cases hq : mostC rows i 4 (pushC s i) with
      | error f =>
        rintro e w2 ⟨⟨rfl, hw⟩, hk2⟩
        exact ⟨rfl, (by show PQ _ _ _ _ _ _ (mostC rows i 4 (pushC s i)) _ _; rw [hq]; exact ⟨rfl, hw⟩), HK1.out.trans hk2⟩
      | ok s2 =>
        rintro e w2 ⟨⟨rfl, hw⟩, hk2⟩
        have HW2 := Hid.out (p := Hid _) (And.intro hw hk2)
        clear hw hk2
        go_wp2_with fail
        go_end0
        exact ⟨(by show PQ _ _ _ _ _ _ (mostC rows i 4 (pushC s i)) _ _; rw [hq]; exact ⟨rfl, HW2.out.1⟩), HK1.out.trans HW2.out.2⟩
  · have b2 : (k == 2) = false := by simp [hk]
    have b3 : (k == 3) = false := by simp [hk]
    have b4 : (k == 4) = true := by simp [hk]
    have hRR : R = mostC rows i 4 s := by rw [HR.out]; unfold lookC; rw [if_neg (by rw [hk]; decide), if_neg (by rw [hk]; decide), if_pos hk]
    subst hRR
    clear HR
    have HC2 := Hid.out (p := Hid _) (HCT.out 4 4 w v ms cm s HOK.out.1 hk (by decide) (by rw [hk]; exact HOK.out.2.c4.2) (by decide) HOK.out.2.cn)
    clear hk
    go_enter Tryz.func106, Tryz.ntmps106
    go_wp2_with fail
    refine Calls.mono HC2.out ?_
    cases hq : mostC rows i 4 s with
    | error f =>
      rintro e w2 ⟨⟨rfl, hw⟩, hk2⟩
      exact ⟨rfl, (by show PQ _ _ _ _ _ _ (mostC rows i 4 s) _ _; rw [hq]; exact ⟨rfl, hw⟩), hk2⟩
    | ok s2 =>
      rintro e w2 ⟨⟨rfl, hw⟩, hk2⟩
      have HW2 := Hid.out (p := Hid _) (And.intro hw hk2)
      clear hw hk2
      go_wp2_with fail
      go_end0
      exact ⟨(by show PQ _ _ _ _ _ _ (mostC rows i 4 s) _ _; rw [hq]; exact ⟨rfl, HW2.out.1⟩), HW2.out.2⟩
  · have b2 : (k == 2) = false := by simp [hk]
    have b3 : (k == 3) = false := by simp [hk]
    have b4 : (k == 4) = false := by simp [hk]
    have b6 : (k == 6) = true := by simp [hk]
    have hRR : R = putC rows i s := by rw [HR.out]; unfold lookC; rw [if_neg (by rw [hk]; decide), if_neg (by rw [hk]; decide), if_neg (by rw [hk]; decide), if_pos hk]
    subst hRR
    clear HR
    clear hk
    go_enter Tryz.func106, Tryz.ntmps106
    go_wp2_with fail
    refine Calls.mono HNM.out ?_
    cases hq : putC rows i s with
    | error f =>
      rintro e w2 ⟨⟨rfl, hw⟩, hk2⟩
      exact ⟨rfl, (by show PQ _ _ _ _ _ _ (putC rows i s) _ _; rw [hq]; exact ⟨rfl, hw⟩), hk2⟩
    | ok s2 =>
      rintro e w2 ⟨⟨rfl, hw⟩, hk2⟩
      have HW2 := Hid.out (p := Hid _) (And.intro hw hk2)
      clear hw hk2
      go_wp2_with fail
      go_end0
      exact ⟨(by show PQ _ _ _ _ _ _ (putC rows i s) _ _; rw [hq]; exact ⟨rfl, HW2.out.1⟩), HW2.out.2⟩
  · have b2 : (k == 2) = false := by simp [hk]
    have b3 : (k == 3) = false := by simp [hk]
    have b4 : (k == 4) = false := by simp [hk]
    have b6 : (k == 6) = false := by simp [hk]
    have b16 : (k == 16) = true := by simp [hk]
    have hRR : R = useC rows i isVar s := by rw [HR.out]; unfold lookC; rw [if_neg (by rw [hk]; decide), if_neg (by rw [hk]; decide), if_neg (by rw [hk]; decide), if_neg (by rw [hk]; decide), if_pos (by rw [hk]; decide)]
    subst hRR
    clear HR
    have HC2 := Hid.out (p := Hid _) (HUS.out [2, 6] isVar 2 rfl (by decide) (fun q => by unfold isVar; rw [Bool.eq_iff_iff]; simp))
    clear hk
    go_enter Tryz.func106, Tryz.ntmps106
    go_wp2_with fail
    refine Calls.mono HC2.out ?_
    cases hq : useC rows i isVar s with
    | error f =>
      rintro e w2 ⟨⟨rfl, hw⟩, hk2⟩
      exact ⟨rfl, (by show PQ _ _ _ _ _ _ (useC rows i isVar s) _ _; rw [hq]; exact ⟨rfl, hw⟩), hk2⟩
    | ok s2 =>
      rintro e w2 ⟨⟨rfl, hw⟩, hk2⟩
      have HW2 := Hid.out (p := Hid _) (And.intro hw hk2)
      clear hw hk2
      go_wp2_with fail
      go_end0
      exact ⟨(by show PQ _ _ _ _ _ _ (useC rows i isVar s) _ _; rw [hq]; exact ⟨rfl, HW2.out.1⟩), HW2.out.2⟩
  · have b2 : (k == 2) = false := by simp [hk]
    have b3 : (k == 3) = false := by simp [hk]
    have b4 : (k == 4) = false := by simp [hk]
    have b6 : (k == 6) = false := by simp [hk]
    have b16 : (k == 16) = false := by simp [hk]
    have b7 : (k == 7) = true := by simp [hk]
    have hRR : R = useC rows i isVar s := by rw [HR.out]; unfold lookC; rw [if_neg (by rw [hk]; decide), if_neg (by rw [hk]; decide), if_neg (by rw [hk]; decide), if_neg (by rw [hk]; decide), if_pos (by rw [hk]; decide)]
    subst hRR
    clear HR
    have HC2 := Hid.out (p := Hid _) (HUS.out [2, 6] isVar 2 rfl (by decide) (fun q => by unfold isVar; rw [Bool.eq_iff_iff]; simp))
    clear hk
    go_enter Tryz.func106, Tryz.ntmps106
    go_wp2_with fail
    refine Calls.mono HC2.out ?_
    cases hq : useC rows i isVar s with
    | error f =>
      rintro e w2 ⟨⟨rfl, hw⟩, hk2⟩
      exact ⟨rfl, (by show PQ _ _ _ _ _ _ (useC rows i isVar s) _ _; rw [hq]; exact ⟨rfl, hw⟩), hk2⟩
    | ok s2 =>
      rintro e w2 ⟨⟨rfl, hw⟩, hk2⟩
      have HW2 := Hid.out (p := Hid _) (And.intro hw hk2)
      clear hw hk2
      go_wp2_with fail
      go_end0
      exact ⟨(by show PQ _ _ _ _ _ _ (useC rows i isVar s) _ _; rw [hq]; exact ⟨rfl, HW2.out.1⟩), HW2.out.2⟩
  · have b2 : (k == 2) = false := by simp [hk]
    have b3 : (k == 3) = false := by simp [hk]
    have b4 : (k == 4) = false := by simp [hk]
    have b6 : (k == 6) = false := by simp [hk]
    have b16 : (k == 16) = false := by simp [hk]
    have b7 : (k == 7) = false := by simp [hk]
    have b8 : (k == 8) = true := by simp [hk]
    have hRR : R = useC rows i isVar s := by rw [HR.out]; unfold lookC; rw [if_neg (by rw [hk]; decide), if_neg (by rw [hk]; decide), if_neg (by rw [hk]; decide), if_neg (by rw [hk]; decide), if_pos (by rw [hk]; decide)]
    subst hRR
    clear HR
    have HC2 := Hid.out (p := Hid _) (HUS.out [2, 6] isVar 2 rfl (by decide) (fun q => by unfold isVar; rw [Bool.eq_iff_iff]; simp))
    clear hk
    go_enter Tryz.func106, Tryz.ntmps106
    go_wp2_with fail
    refine Calls.mono HC2.out ?_
    cases hq : useC rows i isVar s with
    | error f =>
      rintro e w2 ⟨⟨rfl, hw⟩, hk2⟩
      exact ⟨rfl, (by show PQ _ _ _ _ _ _ (useC rows i isVar s) _ _; rw [hq]; exact ⟨rfl, hw⟩), hk2⟩
    | ok s2 =>
      rintro e w2 ⟨⟨rfl, hw⟩, hk2⟩
      have HW2 := Hid.out (p := Hid _) (And.intro hw hk2)
      clear hw hk2
      go_wp2_with fail
      go_end0
      exact ⟨(by show PQ _ _ _ _ _ _ (useC rows i isVar s) _ _; rw [hq]; exact ⟨rfl, HW2.out.1⟩), HW2.out.2⟩
  · have b2 : (k == 2) = false := by simp [hk]
    have b3 : (k == 3) = false := by simp [hk]
    have b4 : (k == 4) = false := by simp [hk]
    have b6 : (k == 6) = false := by simp [hk]
    have b16 : (k == 16) = false := by simp [hk]
    have b7 : (k == 7) = false := by simp [hk]
    have b8 : (k == 8) = false := by simp [hk]
    have b12 : (k == 12) = true := by simp [hk]
    have hRR : R = useC rows i isLok s := by rw [HR.out]; unfold lookC; rw [if_neg (by rw [hk]; decide), if_neg (by rw [hk]; decide), if_neg (by rw [hk]; decide), if_neg (by rw [hk]; decide), if_neg (by rw [hk]; decide), if_pos (by rw [hk]; decide)]
    subst hRR
    clear HR
    have HC2 := Hid.out (p := Hid _) (HUS.out [3] isLok 1 rfl (by decide) (fun q => by unfold isLok; rw [Bool.eq_iff_iff]; simp))
    clear hk
    go_enter Tryz.func106, Tryz.ntmps106
    go_wp2_with fail
    refine Calls.mono HC2.out ?_
    cases hq : useC rows i isLok s with
    | error f =>
      rintro e w2 ⟨⟨rfl, hw⟩, hk2⟩
      exact ⟨rfl, (by show PQ _ _ _ _ _ _ (useC rows i isLok s) _ _; rw [hq]; exact ⟨rfl, hw⟩), hk2⟩
    | ok s2 =>
      rintro e w2 ⟨⟨rfl, hw⟩, hk2⟩
      have HW2 := Hid.out (p := Hid _) (And.intro hw hk2)
      clear hw hk2
      go_wp2_with fail
      go_end0
      exact ⟨(by show PQ _ _ _ _ _ _ (useC rows i isLok s) _ _; rw [hq]; exact ⟨rfl, HW2.out.1⟩), HW2.out.2⟩
  · have b2 : (k == 2) = false := by simp [hk]
    have b3 : (k == 3) = false := by simp [hk]
    have b4 : (k == 4) = false := by simp [hk]
    have b6 : (k == 6) = false := by simp [hk]
    have b16 : (k == 16) = false := by simp [hk]
    have b7 : (k == 7) = false := by simp [hk]
    have b8 : (k == 8) = false := by simp [hk]
    have b12 : (k == 12) = false := by simp [hk]
    have b13 : (k == 13) = true := by simp [hk]
    have hRR : R = useC rows i isLok s := by rw [HR.out]; unfold lookC; rw [if_neg (by rw [hk]; decide), if_neg (by rw [hk]; decide), if_neg (by rw [hk]; decide), if_neg (by rw [hk]; decide), if_neg (by rw [hk]; decide), if_pos (by rw [hk]; decide)]
    subst hRR
    clear HR
    have HC2 := Hid.out (p := Hid _) (HUS.out [3] isLok 1 rfl (by decide) (fun q => by unfold isLok; rw [Bool.eq_iff_iff]; simp))
    clear hk
    go_enter Tryz.func106, Tryz.ntmps106
    go_wp2_with fail
    refine Calls.mono HC2.out ?_
    cases hq : useC rows i isLok s with
    | error f =>
      rintro e w2 ⟨⟨rfl, hw⟩, hk2⟩
      exact ⟨rfl, (by show PQ _ _ _ _ _ _ (useC rows i isLok s) _ _; rw [hq]; exact ⟨rfl, hw⟩), hk2⟩
    | ok s2 =>
      rintro e w2 ⟨⟨rfl, hw⟩, hk2⟩
      have HW2 := Hid.out (p := Hid _) (And.intro hw hk2)
      clear hw hk2
      go_wp2_with fail
      go_end0
      exact ⟨(by show PQ _ _ _ _ _ _ (useC rows i isLok s) _ _; rw [hq]; exact ⟨rfl, HW2.out.1⟩), HW2.out.2⟩
  · obtain ⟨h2, h3, h4, h6, h16, h7, h8, h12, h13⟩ := hk
    have b2 : (k == 2) = false := by simp [h2]
    have b3 : (k == 3) = false := by simp [h3]
    have b4 : (k == 4) = false := by simp [h4]
    have b6 : (k == 6) = false := by simp [h6]
    have b16 : (k == 16) = false := by simp [h16]
    have b7 : (k == 7) = false := by simp [h7]
    have b8 : (k == 8) = false := by simp [h8]
    have b12 : (k == 12) = false := by simp [h12]
    have b13 : (k == 13) = false := by simp [h13]
    have hRR : R = .ok s := by
      rw [HR.out]
      unfold lookC
      rw [if_neg h2, if_neg h3, if_neg h4, if_neg h6, if_neg (by omega), if_neg (by omega)]
    subst hRR
    clear h2 h3 h4 h6 h16 h7 h8 h12 h13 HR
    go_enter Tryz.func106, Tryz.ntmps106
    go_wp2_with fail
    go_end0
    exact ⟨⟨rfl, _, _, _, HOK.out.1⟩, KpC.refl _⟩
end
end

section
open Go.RowKit

theorem name_ok9 {E : Int} {l r : List Tok} {s : List UInt8} (h : nameT E l = .ok (s, r)) : ∃ t, l = t :: r ∧ t.kind = 1 ∧ t.text = s := by
  cases l with
  | nil => cases h
  | cons t r' =>
    by_cases hk : t.kind = 1
    · rw [nameT_yes hk] at h
      have h1 := Except.ok.inj h
      simp only [Prod.mk.injEq] at h1
      exact ⟨t, by rw [h1.2], hk, h1.1⟩
    · rw [nameT_no hk] at h; cases h
theorem name_no9 {E : Int} {l : List Tok} {f : Int × Int} (h : nameT E l = .error f) : f = (5, posOf E l) ∧ (tokE E l).kind ≠ 1 := by
  cases l with
  | nil => cases h; exact ⟨rfl, fun e => by cases e⟩
  | cons t r =>
    by_cases hk : t.kind = 1
    · rw [nameT_yes hk] at h; cases h
    · rw [nameT_no hk] at h; cases h; exact ⟨rfl, hk⟩
section
variable {C : Cx9} {w w' : World} {d : Nat} {bx : Option (Nat × Obj)} {ps : List (List Int × Value)} {l : List Tok} {rows : List Row}
theorem qword1g (h : GoP C w d bx ps l rows) (g : Nat) (hgs : g = w.heap.size) (z : ByteArray) (hlit : isLit z.data.toList) (hsh : shB z.data.toList → 1 ≤ d) (R : Except (Int × Int) (Nat × List Tok)) (HR : wordsR C.E d [z.data.toList] l = R) :
    Calls Tryz.prog 91 #[.pointer (some ⟨C.P, 0, none⟩), .slice (some ⟨g, 0, none⟩) 1 1] (w.alloc (.cells #[.string z] 9)) fun e w' => WdQ C w bx ps rows R e w' := by
  subst hgs
  exact qword1 h z hlit hsh R HR
theorem qword2g (h : GoP C w d bx ps l rows) (g : Nat) (hgs : g = w.heap.size) (y z : ByteArray) (hy : isLit y.data.toList) (hz : isLit z.data.toList) (hsh : shOk d [y.data.toList, z.data.toList]) (R : Except (Int × Int) (Nat × List Tok)) (HR : wordsR C.E d [y.data.toList, z.data.toList] l = R) :
    Calls Tryz.prog 91 #[.pointer (some ⟨C.P, 0, none⟩), .slice (some ⟨g, 0, none⟩) 2 2] (w.alloc (.cells #[.string y, .string z] 9)) fun e w' => WdQ C w bx ps rows R e w' := by
  subst hgs
  exact qword2 h y z hy hz hsh R HR
theorem qis1g (h : GoP C w d bx ps l rows) (g : Nat) (hgs : g = w.heap.size) (z : ByteArray) (hlit : isLit z.data.toList) :
    Calls Tryz.prog 54 #[.pointer (some ⟨C.P, 0, none⟩), .slice (some ⟨g, 0, none⟩) 1 1] (w.alloc (.cells #[.string z] 9)) fun e w' => e = .returned (.bool (isTok z.data.toList l)) ∧ Below w.heap.size w w' := by
  subst hgs
  exact qis1 h z hlit
end
section
variable {E : Int} {d : Nat} {l : List Tok}
set_option maxRecDepth 100000 in
set_option maxHeartbeats 1600000 in
theorem qwithin (z : ByteArray) (hz : isWord z.data.toList = true) : Cpr 154 [.string z] E d l (bindL (takeT E z.data.toList l) fun r => heldT E d r) := by
  refine cpr_of fun C w rows hE hg => ?_
  subst hE
  have hp : ¬ opB z.data.toList ∧ ¬ shB z.data.toList := by
    simp only [isWord, decide_eq_true_eq, wordsL, List.mem_cons, List.not_mem_nil, or_false] at hz
    rcases hz with h | h | h | h | h | h | h | h | h | h <;> (rw [h]; decide)
  have HG := Hid.out (p := Hid _) hg
  obtain ⟨R, hR⟩ : ∃ R : TRes Nd, R = bindL (takeT C.E z.data.toList l) fun r => heldT C.E d r := ⟨_, rfl⟩
  rw [← hR]
  have HW := Hid.out (p := Hid _) (qword2 hg z ⟨#[40]⟩ (lit_word hz) (lit_sign (by decide)) ⟨fun h => absurd h hp.2, ⟨fun h => absurd h (by decide), trivial⟩⟩ _ (words_two hp.1 hp.2))
  clear hg hz hp
  go_enter Tryz.func154, Tryz.ntmps154
  go_wp2_with fail
  refine Calls.mono HW.out ?_
  intro e w1 hq
  cases ht : takeT C.E z.data.toList l with
  | error f =>
    rw [ht] at hq hR
    obtain ⟨rfl, hf⟩ := hq
    subst hR
    exact ⟨rfl, rfl, hf⟩
  | ok r =>
    rw [ht] at hq hR
    simp only [bindL] at hR
    rw [heldT_is] at hR
    change WdQ C w none [] rows (wordsR C.E d [[40]] r) e w1 at hq
    rw [words_open (Or.inl rfl)] at hq
    cases ho : openT C.E [40] d r with
    | error f =>
      rw [ho] at hq hR
      obtain ⟨rfl, hf⟩ := hq
      subst hR
      exact ⟨rfl, rfl, hf⟩
    | ok r1 =>
      rw [ho] at hq hR
      obtain ⟨rfl, hg1, -⟩ := hq
      simp only [bindL] at hR
      have HX := Hid.out (p := Hid _) (qexpr0 (E := C.E) r1 (d + 1) C w1 none [] rows rfl hg1)
      clear hg1 ho ht
      go_wp2_with fail
      refine Calls.mono HX.out ?_
      intro e w2 hq
      cases hx : exprT C.E 0 (d + 1) r1 with
      | error f =>
        rw [hx] at hq hR
        obtain ⟨rfl, hf⟩ := hq
        subst hR
        exact ⟨rfl, rfl, hf⟩
      | ok y =>
        obtain ⟨x, q⟩ := y
        rw [hx] at hq hR
        obtain ⟨rfl, hg2⟩ := hq
        simp only [bindT] at hR
        have HG2 := Hid.out (p := Hid _) hg2
        clear hg2 hx HX
        go_wp2_with fail
        refine Calls.mono (qword1 HG2.out _ (lit_sign (by decide)) (fun _ => Nat.le_add_left 1 d) _ (words_shut (Or.inl rfl))) ?_
        intro e w3 hq
        change WdQ C w2 none [] _ (liftD (takeT C.E [41] q) d) e w3 at hq
        cases ht : takeT C.E [41] q with
        | error f =>
          rw [ht] at hq hR
          obtain ⟨rfl, hf⟩ := hq
          subst hR
          exact ⟨rfl, rfl, hf⟩
        | ok p =>
          rw [ht] at hq hR
          obtain ⟨rfl, hg3, -⟩ := hq
          have HG3 := Hid.out (p := Hid _) hg3
          have HR := Hid.out (p := Hid _) hR
          clear hg3 ht hR
          go_wp2_with fail
          go_ret
          rw [HR.out]
          exact ⟨rfl, HG3.out⟩
set_option maxRecDepth 100000 in
set_option maxHeartbeats 1600000 in
theorem qprint : Cpr 135 [] E d l (bindT (bindL (takeT E wPrint l) fun r => heldT E d r) fun x r => bindL (takeT E [59] r) fun q => .ok (.mk 11 0 (posOf E l) [] [x], q)) := by
  refine cpr_of fun C w rows hE hg => ?_
  subst hE
  have hfw := hg.fewR
  have HN := Hid.out (p := Hid _) (qnext hg)
  have HG := Hid.out (p := Hid _) hg
  have hfd := fld2
  obtain ⟨R, hR⟩ : ∃ R : TRes Nd, R = bindT (bindL (takeT C.E wPrint l) fun r => heldT C.E d r) fun x r => bindL (takeT C.E [59] r) fun q => .ok (.mk 11 0 (posOf C.E l) [] [x], q) := ⟨_, rfl⟩
  rw [← hR]
  have HP : Hid ((tokE C.E l).pos = posOf C.E l) := tokE_pos _ _
  clear hg
  go_enter Tryz.func135, Tryz.ntmps135
  go_wp2_with (go_at_call 57; refine Calls.mono HN.out ?_; rintro e w1 ⟨rfl, hb⟩; rw [HP.out]; have HG1 := Hid.out (p := Hid _) (HG.out.below hb); clear hb)
  refine Calls.mono (qwithin (E := C.E) ⟨#[112, 114, 105, 110, 116]⟩ (by decide) C _ _ _ _ rfl (HG1.out.box (.cells #[.int .i64 11, .int .i64 0, .int .i64 (posOf C.E l), .string ⟨#[]⟩, nilV] 53))) ?_
  intro e w2 hq
  change PrQ C w2 d _ [] rows (bindL (takeT C.E wPrint l) fun r => heldT C.E d r) e at hq
  cases hx : (bindL (takeT C.E wPrint l) fun r => heldT C.E d r) with
  | error f =>
    rw [hx] at hq hR
    obtain ⟨rfl, hf⟩ := hq
    subst hR
    exact ⟨rfl, rfl, hf⟩
  | ok y =>
    obtain ⟨x, q⟩ := y
    rw [hx] at hq hR
    obtain ⟨rfl, hg2⟩ := hq
    simp only [bindT] at hR
    have hsz : ndSize x + q.length + 1 ≤ l.length := by
      cases ht : takeT C.E wPrint l with
      | error f => rw [ht] at hx; cases hx
      | ok r =>
        rw [ht] at hx
        simp only [bindL] at hx
        have h1 := take_len ht
        obtain ⟨n, y, hy⟩ := he_tot (e := C.E) d r
        have h3 := tld_is (he_up r) hy
        have h4 := (expr_size n).2.2.2 _ _ _ _ (hy.trans (congrArg some (h3.symm.trans hx)))
        omega
    obtain ⟨v, hv⟩ : ∃ v, v = ((rows.length + ndSize x : Nat) : Int) - 1 := ⟨_, rfl⟩
    rw [← hv]
    have HV := Hid.out (p := Hid _) hv
    obtain ⟨hb2, hbP, hbl⟩ := hg2.bxc
    have hbP2 : ¬ C.P = w1.heap.size := fun e => hbP e.symm
    obtain ⟨b0, b1, b2, b3, b4, bf⟩ := box5 hb2
    have HG2 := Hid.out (p := Hid _) hg2
    clear hg2 hx hb2 hv
    go_wp2_with fail
    have hg3 := (HG2.out.set4 (.slice (some ⟨w2.heap.size, 0, none⟩) 1 1)).kids [v] 1 rfl (Nat.le_refl _) #[.int .i64 v] rfl (by decide) w2.heap.size (by rw [set_size])
    refine Calls.mono (qword1g hg3 (w2.heap.size + 1) (by simp) ⟨#[59]⟩ (lit_sign (by decide)) (fun h => absurd h (by decide)) _ (words_one (by decide) (by decide))) ?_
    intro e w3 hq
    change WdQ C _ _ _ _ (liftD (takeT C.E [59] q) d) e w3 at hq
    cases ht : takeT C.E [59] q with
    | error f =>
      rw [ht] at hq hR
      obtain ⟨rfl, hf⟩ := hq
      subst hR
      exact ⟨rfl, rfl, hf⟩
    | ok p =>
      rw [ht] at hq hR
      obtain ⟨rfl, hg4, -⟩ := hq
      have h59 := take_len ht
      obtain ⟨hb4, -, hbl4⟩ := hg4.bxc
      obtain ⟨d0, d1, d2, d3, d4, df⟩ := box5 hb4
      have HG4 := Hid.out (p := Hid _) hg4
      have HR := Hid.out (p := Hid _) hR
      have hfe : (rows ++ flat rows.length x).length + 1 + p.length ≤ C.T.length := by
        rw [List.length_append, flat_len]
        have := hfw.1
        omega
      clear hg4 ht hR hb4 hg3 b0 b1 b2 b3 b4 bf
      go_wp2_with fail
      refine Calls.mono (qadd HG4.out 11 0 (posOf C.E l) [] [v] _ _ _ (Or.inl (List.mem_cons_self ..)) hfe) ?_
      rintro e w5 ⟨rfl, hg5⟩
      have HG5 := Hid.out (p := Hid _) hg5.drop
      clear hg5
      go_wp2_with fail
      go_ret
      rw [HR.out]
      refine ⟨?_, ?_⟩
      · exact ret_int (by first | (rw [List.length_append, flat_len, size_one]; omega) | (rw [flat_len, size_one]; omega))
      · have h7 : rows ++ flat rows.length (.mk 11 0 (posOf C.E l) [] [x]) = (rows ++ flat rows.length x) ++ [⟨11, 0, posOf C.E l, [], [v]⟩] := by
          rw [HV.out]
          simp [flat, flats, idxs]
        rw [h7]
        exact HG5.out
end
end

section
open Go.RowKit

section
variable {E : Int} {d : Nat} {l : List Tok}
set_option maxRecDepth 100000 in
set_option maxHeartbeats 1600000 in
theorem qlocal : Cpr 132 [] E d l (bindL (takeT E wInt l) fun r0 => bindT (nameT E r0) fun s r => bindL (takeT E [61] r) fun r => etT E d [59] r fun x q => .ok (.mk 6 0 (posOf E l) s [x], q)) := by
  refine cpr_of fun C w rows hE hg => ?_
  subst hE
  have hfw := hg.fewR
  have HN := Hid.out (p := Hid _) (qnext hg)
  have HG := Hid.out (p := Hid _) hg
  have hfd := fld2
  have hfd3 := fld3
  obtain ⟨R, hR⟩ : ∃ R : TRes Nd, R = bindL (takeT C.E wInt l) fun r0 => bindT (nameT C.E r0) fun s r => bindL (takeT C.E [61] r) fun r => etT C.E d [59] r fun x q => .ok (.mk 6 0 (posOf C.E l) s [x], q) := ⟨_, rfl⟩
  rw [← hR]
  have HP : Hid ((tokE C.E l).pos = posOf C.E l) := tokE_pos _ _
  clear hg
  go_enter Tryz.func132, Tryz.ntmps132
  go_wp2_with (go_at_call 57; refine Calls.mono HN.out ?_; rintro e w1 ⟨rfl, hb⟩; rw [HP.out]; have HG1 := Hid.out (p := Hid _) (HG.out.below hb); clear hb)
  have hg1 := HG1.out.box (.cells #[.int .i64 6, .int .i64 0, .int .i64 (posOf C.E l), .string ⟨#[]⟩, nilV] 53)
  refine Calls.mono (qword1g hg1 (w1.heap.size + 1) (by simp) ⟨#[105, 110, 116]⟩ (lit_word (by decide)) (fun h => absurd h (by decide)) _ (words_one (by decide) (by decide))) ?_
  intro e w2 hq
  change WdQ C _ _ _ _ (liftD (takeT C.E [105, 110, 116] l) d) e w2 at hq
  cases ht1 : takeT C.E [105, 110, 116] l with
  | error f =>
    rw [ht1] at hq hR
    obtain ⟨rfl, hf⟩ := hq
    subst hR
    exact ⟨rfl, rfl, hf⟩
  | ok r0 =>
    rw [ht1] at hq hR
    obtain ⟨rfl, hg, -⟩ := hq
    simp only [bindL] at hR
    have k1 := take_len ht1
    cases hn : nameT C.E r0 with
    | error f =>
      obtain ⟨hf5, hk⟩ := name_no9 hn
      rw [hn] at hR
      have HK := Hid.out (p := Hid _) (qkind_no hg 1 hk)
      clear hg hg1
      go_wp2_with fail
      refine Calls.mono HK.out ?_
      rintro e w3 ⟨rfl, hf⟩
      subst hf5 hR
      exact ⟨rfl, rfl, hf⟩
    | ok y =>
      obtain ⟨s, r⟩ := y
      have k2 := name_len hn
      obtain ⟨t, rfl, hkt, rfl⟩ := name_ok9 hn
      rw [hn] at hR
      simp only [bindT] at hR
      have HK := Hid.out (p := Hid _) (qkind_yes hg 1 hkt (Or.inl rfl))
      clear hg hg1
      go_wp2_with fail
      refine Calls.mono HK.out ?_
      rintro e w3 ⟨rfl, hg3, -⟩
      obtain ⟨hb3, hbP, hbl⟩ := hg3.bxc
      have hbP2 : ¬ C.P = w1.heap.size := fun e => hbP e.symm
      obtain ⟨b0, b1, b2, b3, b4, bf⟩ := box5 hb3
      have HG3 := Hid.out (p := Hid _) hg3
      clear hg3 hb3
      go_wp2_with fail
      have hg4 := HG3.out.set3 (.string ⟨⟨t.text⟩⟩)
      refine Calls.mono (qword1g hg4 (w3.heap.size) (by rw [set_size]) ⟨#[61]⟩ (lit_sign (by decide)) (fun h => absurd h (by decide)) _ (words_one (by decide) (by decide))) ?_
      intro e w4 hq
      change WdQ C _ _ _ _ (liftD (takeT C.E [61] r) d) e w4 at hq
      cases ht2 : takeT C.E [61] r with
      | error f =>
        rw [ht2] at hq hR
        obtain ⟨rfl, hf⟩ := hq
        subst hR
        exact ⟨rfl, rfl, hf⟩
      | ok r4 =>
        rw [ht2] at hq hR
        obtain ⟨rfl, hg, -⟩ := hq
        simp only [bindL, etT] at hR
        have k4 := take_len ht2
        have HX := Hid.out (p := Hid _) (qexpr0 (E := C.E) r4 d C _ _ _ _ rfl hg)
        clear hg hg4
        go_wp2_with fail
        refine Calls.mono (HX.out) ?_
        intro e w5 hq
        cases hx3 : exprT C.E 0 d r4 with
        | error f =>
          rw [hx3] at hq hR
          obtain ⟨rfl, hf⟩ := hq
          subst hR
          exact ⟨rfl, rfl, hf⟩
        | ok y =>
          obtain ⟨x, q5⟩ := y
          rw [hx3] at hq hR
          obtain ⟨rfl, hg⟩ := hq
          simp only [bindT] at hR
          have k5 := (exprT_len (by omega) hx3).2
          obtain ⟨v, hv⟩ : ∃ v, v = ((rows.length + ndSize x : Nat) : Int) - 1 := ⟨_, rfl⟩
          rw [← hv]
          have HV := Hid.out (p := Hid _) hv
          obtain ⟨hb5, -, hbl5⟩ := hg.bxc
          obtain ⟨c0, c1, c2, c3, c4, cf⟩ := box5 hb5
          have HG5 := Hid.out (p := Hid _) hg
          clear hg hb5 hv b0 b1 b2 b3 b4 bf
          go_wp2_with fail
          have hg6 := (HG5.out.set4 (.slice (some ⟨w5.heap.size, 0, none⟩) 1 1)).kids [v] 1 rfl (Nat.le_refl _) #[.int .i64 v] rfl (by decide) w5.heap.size (by rw [set_size])
          refine Calls.mono (qword1g hg6 (w5.heap.size + 1) (by simp) ⟨#[59]⟩ (lit_sign (by decide)) (fun h => absurd h (by decide)) _ (words_one (by decide) (by decide))) ?_
          intro e w6 hq
          change WdQ C _ _ _ _ (liftD (takeT C.E [59] q5) d) e w6 at hq
          cases ht4 : takeT C.E [59] q5 with
          | error f =>
            rw [ht4] at hq hR
            obtain ⟨rfl, hf⟩ := hq
            subst hR
            exact ⟨rfl, rfl, hf⟩
          | ok p =>
            rw [ht4] at hq hR
            obtain ⟨rfl, hg, -⟩ := hq
            skip
            have k6 := take_len ht4
            obtain ⟨hb6, -, hbl6⟩ := hg.bxc
            obtain ⟨d0, d1, d2, d3, d4, df⟩ := box5 hb6
            have HG6 := Hid.out (p := Hid _) hg
            have HR := Hid.out (p := Hid _) hR
            have hfe : (rows ++ flat rows.length x).length + 1 + p.length ≤ C.T.length := by
              rw [List.length_append, flat_len]
              have := hfw.1
              simp only [List.length_cons] at k1
              omega
            clear hg hR hb6 hg6 c0 c1 c2 c3 c4 cf
            go_wp2_with fail
            refine Calls.mono (qadd HG6.out 6 0 (posOf C.E l) t.text [v] _ _ _ (Or.inl (List.mem_cons_self ..)) hfe) ?_
            rintro e w7 ⟨rfl, hg7⟩
            have HG7 := Hid.out (p := Hid _) hg7.drop
            clear hg7
            go_wp2_with fail
            go_ret
            rw [HR.out]
            refine ⟨?_, ?_⟩
            · exact ret_int (by first | (rw [List.length_append, flat_len, size_one]; omega) | (rw [flat_len, size_one]; omega))
            · have h7 : rows ++ flat rows.length (.mk 6 0 (posOf C.E l) t.text [x]) = (rows ++ flat rows.length x) ++ [⟨6, 0, posOf C.E l, t.text, [v]⟩] := by
                rw [HV.out]
                simp [flat, flats, idxs]
              rw [h7]
              exact HG7.out
end
end

end Go.Proofs.YtclnjhffcfkihaeGreatDoor
