/-
  Where something may wait, by the document: the walk.
-/
import Derived.Test.YtgofbkgfonlceacZF3
import Derived.Test.YtgofbkgfonlceacMwW
import Derived.Deep.LoopGhost
namespace Go.Proofs.Ytgofbkgfonlceac
open Go.RowKit

theorem may_start (w : World) (l : Nat) (hl : l ≤ 400) : ∃ w1, (Instr.makeSlice 55 (.int .i64 ((l : Int) + 1)) (.int .i64 ((l : Int) + 1))).run Try.prog w = .ok (.slice (some ⟨w.heap.size, 0, none⟩) (l + 1) (l + 1)) w1 ∧ w1.ownsRow w.heap.size 4 1 (.slice (some ⟨w.heap.size, 0, none⟩) (l + 1) (l + 1)) (l + 1) (boolsV (List.replicate (l + 1) false)) ∧ Below w.heap.size w w1 := by
  obtain ⟨i, hi, hz0, hz1, hz2⟩ := info_is infoB
  obtain ⟨w1, r1, r2, r3⟩ := run_makeSlice_full (P := Try.prog) w w.heap.size 55 4 i (.bool false) 1 Try.underlying55 hi hz0 hz1 .i64 .i64 (l + 1) (by omega) (by rw [hz2]; omega) (by unfold maxLen; omega) (Nat.le_refl _)
  have hlow : Below w.heap.size w w1 := (Below.refl _ _).grown r3 (Nat.le_refl _) (fun k hk => by cases hk)
  refine ⟨w1, by simpa using r1, ?_, hlow⟩
  rw [Nat.mul_one] at r2
  have e : (Value.bool false).cells = #[Value.bool false] := rfl
  have e2 : wsL (l + 1) [] = List.replicate (l + 1) false := by
    apply List.ext_getElem?
    intro i
    by_cases h : i < l + 1
    · simp [wsL, h]
    · rw [List.getElem?_eq_none (by rw [ws_len]; omega), List.getElem?_eq_none (by simp; omega)]
  rw [e, made_bools, e2] at r2
  exact r2
theorem cell_far6 {w : World} {b o b' o' : Nat} {u v : Value} (h : w.cell? ⟨b, o, none⟩ = some v) (hne : b ≠ b') : (w.setCell ⟨b', o', none⟩ u).cell? ⟨b, o, none⟩ = some v := by
  rw [World.cell?_of_block (w := w) (Below.heap_setCell _ _ _ _ (fun x => hne (by simpa using x)))]
  exact h
theorem nxO_len (X : Nat → Nat → Int) (i : Nat) : (nxO X i).length ≤ 2 := by
  unfold nxO nextO
  split
  · simp
  · split <;> simp
/-- A row of truths. -/
def RowB (S : World) (rb l : Nat) (W : World) (R : List Bool) : Prop := W.ownsRow S.heap.size 4 1 (.slice (some ⟨rb, 0, none⟩) (l + 1) (l + 1)) (l + 1) (boolsV R) ∧ R.length = l + 1
theorem RowB.cell {S W : World} {rb l : Nat} {R : List Bool} (h : RowB S rb l W R) {i : Nat} (hi : i < l + 1) : W.cell? ⟨rb, i, none⟩ = some (.bool (R.getD i false)) := by
  have : R[i]? = some (R.getD i false) := by simp [List.getD, h.2, hi]
  exact fam_cell h.1 rfl (boolsV_at this)
theorem RowB.free {S W : World} {rb l : Nat} {R : List Bool} (h : RowB S rb l W R) (i : Nat) : W.frozen? ⟨rb, i, none⟩ = false := fam_frozen h.1 rfl i
theorem RowB.below {S W W' : World} {rb l : Nat} {R : List Bool} (h : RowB S rb l W R) (hb : Below W.heap.size W W') : RowB S rb l W' R := ⟨owns_below2 h.1 hb, h.2⟩
theorem RowB.set {S W : World} {rb l : Nat} {R : List Bool} (h : RowB S rb l W R) (j : Nat) : RowB S rb l (W.setCell ⟨rb, j, none⟩ (.bool true)) (R.set j true) := by
  refine ⟨?_, by simpa using h.2⟩
  have := fam_put h.1 (g := rb) rfl j (.bool true)
  have e : (boolsV R).set j (.bool true) = boolsV (R.set j true) := by simp [boolsV, List.map_set]
  rw [e] at this
  exact this
theorem RowB.far {S W : World} {rb l : Nat} {R : List Bool} (h : RowB S rb l W R) {a : Addr} {u : Value} (hne : rb ≠ a.block) : RowB S rb l (W.setCell a u) R := ⟨owns_far h.1 (fun e => hne (by simpa [Value.ownBlock] using e)), h.2⟩
theorem RowB.lt {S W : World} {rb l : Nat} {R : List Bool} (h : RowB S rb l W R) : S.heap.size ≤ rb ∧ rb < W.heap.size := h.1.lt rb rfl
set_option maxRecDepth 100000 in
set_option maxHeartbeats 3200000 in
theorem rmay_any (w : World) (a : Option Addr) (l cc : Nat) (X : Nat → Nat → Int) (rg m lk : Nat) (hl : l ≤ 400) (hord : ∀ i, i < l → ∃ b o, a = some ⟨b, o, none⟩ ∧ w.cell? ⟨b, o + i * 4, none⟩ = some (.int .i64 (X i 0)) ∧ w.cell? ⟨b, o + i * 4 + 1, none⟩ = some (.int .i64 (X i 1)) ∧ w.cell? ⟨b, o + i * 4 + 2, none⟩ = some (.int .i64 (X i 2)) ∧ w.cell? ⟨b, o + i * 4 + 3, none⟩ = some (.int .i64 (X i 3))) (hok : ∀ i, i < l → ordE rg m lk l (X i 0) (X i 1) (X i 2) (X i 3) = 0) :
    Calls Try.prog 29 #[.slice a l cc] w fun e w' => ∃ g M, e = .returned (.slice (some ⟨g, 0, none⟩) (l + 1) (l + 1)) ∧ w'.ownsRow w.heap.size 4 1 (.slice (some ⟨g, 0, none⟩) (l + 1) (l + 1)) (l + 1) (boolsV M) ∧ (∀ i, M.getD i false = true ↔ Way l X i true) ∧ Below w.heap.size w w' := by
  obtain ⟨w1, hrun1, hP1, hB1⟩ := may_start w l hl
  have y0 := fam_cell hP1 (g := w.heap.size) rfl (boolsV_at (l := List.replicate (l + 1) false) (i := 0) (b := false) (by simp))
  have yf : w1.frozen? ⟨w.heap.size, 0, none⟩ = false := fam_frozen hP1 rfl _
  have HORD := Hid.out (p := Hid _) hord
  have HOK := Hid.out (p := Hid _) hok
  have HP1 : Hid (w1.ownsRow w.heap.size 4 1 (.slice (some ⟨w.heap.size, 0, none⟩) (l + 1) (l + 1)) (l + 1) (boolsV (List.replicate (l + 1) false)) ∧ Below w.heap.size w w1) := ⟨hP1, hB1⟩
  clear hord hok hP1 hB1
  go_enter Try.func29, Try.ntmps29
  have HR0 : Hid (RowB w w.heap.size l (w1.setCell ⟨w.heap.size, 0, none⟩ (.bool true)) ((List.replicate (l + 1) false).set 0 true) ∧ Below w.heap.size w (w1.setCell ⟨w.heap.size, 0, none⟩ (.bool true)) ∧ (∀ j, ((List.replicate (l + 1) false).set 0 true).getD j false = true → ∃ q, Way l X j q) ∧ ((List.replicate (l + 1) false).set 0 true).getD 0 false = true) := by
    refine ⟨RowB.set ⟨HP1.out.1, by simp⟩ 0, HP1.out.2.setCell (Nat.le_refl _) _, fun j hj => ?_, ?_⟩
    · rw [getD_setT (by simp)] at hj
      split at hj
      · rename_i e; rw [e]; exact ⟨false, .base⟩
      · exfalso
        rw [List.getD_eq_getElem?_getD, List.getElem?_replicate] at hj
        split at hj <;> simp at hj
    · rw [getD_setT (by simp), if_pos rfl]
  have HNX : Hid (∀ V i, Below w.heap.size w V → i < l → Calls Try.prog 43 #[.slice a l cc, .int .i64 i] V fun e w' => ∃ g cap, e = .returned (.slice (some ⟨g, 0, none⟩) (nxO X i).length cap) ∧ SIs w' (some ⟨g, 0, none⟩) ((nxO X i).map fun (j : Nat) => (j : Int)) ∧ Below V.heap.size V w' ∧ V.heap.size ≤ g) := fun V i hV hi => by
    have h := HOK.out i hi
    refine rnexts_any V a l cc X i hi hl ?_ (fun e => ?_) (fun e => ?_)
    · obtain ⟨b, o, e, c0, c1, c2, c3⟩ := HORD.out i hi
      exact ⟨b, o, e, (hV.cell (lt_of_cell c0)).trans c0, (hV.cell (lt_of_cell c1)).trans c1, (hV.cell (lt_of_cell c2)).trans c2, (hV.cell (lt_of_cell c3)).trans c3⟩
    · rw [e] at h; exact (ok_jump h).1
    · rw [e] at h; exact (ok_zero h).2.1
  have HNL : Hid (∀ i, i < l → (nxO X i).length ≤ 2 ∧ ∀ j q, j ∈ nxO X i → Way l X i q → j ≤ l) := fun i hi => ⟨nxO_len X i, fun j q hj hq => way_le HOK.out (hq.step hi hj)⟩
  obtain ⟨R0, hR0⟩ : ∃ R, (List.replicate (l + 1) false).set 0 true = R := ⟨_, rfl⟩
  rw [hR0] at HR0
  clear hR0 HP1
  go_wp2
  obtain ⟨W1, hW1⟩ : ∃ V, w1.setCell ⟨w.heap.size, 0, none⟩ (.bool true) = V := ⟨_, rfl⟩
  rw [hW1] at HR0 ⊢
  clear hW1 y0 yf hrun1
  go_loopg [5] (1 + cntF R0) (fun gk ag wr => ∃ (b : Bool) (R : List Bool), ag = .bool b ∧ Hid (RowB w w.heap.size l wr R ∧ Below w.heap.size w wr ∧ (∀ j, R.getD j false = true → ∃ q, Way l X j q) ∧ R.getD 0 false = true ∧ (b = false → ClsP l (nxO X) (fun j => ∃ q, Way l X j q) gReach R) ∧ gk = if b then 1 + cntF R else 0))
  case atStart => exact ⟨true, R0, rfl, HR0.out.1, HR0.out.2.1, HR0.out.2.2.1, HR0.out.2.2.2, (fun h => by cases h), rfl⟩
  case round =>
    obtain ⟨b, R, rfl, HI⟩ := hrel
    clear HR0
    cases b with
    | true =>
      have HP0 : Hid (PasP l (nxO X) (fun j => ∃ q, Way l X j q) gReach R R 0 0 false) := PasP.begin HI.out.1.2 HI.out.2.2.1
      go_wp2
      obtain ⟨V0, rfl⟩ : ∃ V, V = wr := ⟨_, rfl⟩
      go_loopw [5, 6] (fun ag iv wi => ∃ (i : Nat) (b : Bool) (Q : List Bool), i ≤ l ∧ iv = .int .i64 i ∧ ag = .bool b ∧ Hid (RowB w w.heap.size l wi Q ∧ Below w.heap.size w wi ∧ PasP l (nxO X) (fun j => ∃ q, Way l X j q) gReach R Q i 0 b)) (fun _ iv _ => l - (intOf iv).toNat)
      case atStart => exact ⟨0, false, R, Nat.zero_le _, rfl, rfl, HI.out.1, HI.out.2.1, HP0.out⟩
      case round =>
        obtain ⟨i, b, Q, hi, rfl, rfl, HJ⟩ := hrel
        clear HP0
        by_cases hil : i < l
        · go_wp2_with fail
          refine Calls.mono (HNX.out _ i HJ.out.2.1 hil) ?_
          rintro e w6 ⟨g6, cap6, rfl, hs6, hb6, hg6⟩
          obtain ⟨nl, hnl⟩ : ∃ x, (nxO X i).length = x := ⟨_, rfl⟩
          have HL : Hid ((nxO X i).length = nl) := hnl
          have hnl2 : nl ≤ 2 := by rw [← hnl]; exact (HNL.out i hil).1
          rw [hnl]
          have hgne : g6 ≠ w.heap.size := by have := HJ.out.1.lt; omega
          have H6 : Hid (RowB w w.heap.size l w6 Q ∧ Below w.heap.size w w6 ∧ SIs w6 (some ⟨g6, 0, none⟩) ((nxO X i).map fun (j : Nat) => (j : Int))) := ⟨HJ.out.1.below hb6, HJ.out.2.1.trans (hb6.mono HJ.out.2.1.size), hs6⟩
          clear hnl hs6 hb6 hg6
          go_wp2_with fail
          go_loopw [5, 8] (fun ag kv wk => ∃ (k : Nat) (b : Bool) (Q : List Bool), k ≤ nl ∧ kv = .int .i64 k ∧ ag = .bool b ∧ Hid (RowB w w.heap.size l wk Q ∧ Below w.heap.size w wk ∧ SIs wk (some ⟨g6, 0, none⟩) ((nxO X i).map fun (j : Nat) => (j : Int)) ∧ PasP l (nxO X) (fun j => ∃ q, Way l X j q) gReach R Q i k b)) (fun _ kv _ => nl - (intOf kv).toNat)
          case atStart => exact ⟨0, b, Q, Nat.zero_le _, rfl, rfl, H6.out.1, H6.out.2.1, H6.out.2.2, HJ.out.2.2⟩
          case round =>
            obtain ⟨k, b2, Q2, hk, rfl, rfl, HK⟩ := hrel
            clear HJ H6
            by_cases hkl : k < nl
            · obtain ⟨b6, o6, e6, hc6⟩ := HK.out.2.2.1 k (by rw [List.length_map, HL.out]; exact hkl)
              simp only [Option.some.injEq, Addr.mk.injEq, and_true] at e6
              obtain ⟨rfl, rfl⟩ := e6
              have hkn : k < (nxO X i).length := by rw [HL.out]; exact hkl
              obtain ⟨j, hj⟩ : ∃ x, (nxO X i).getD k 0 = x := ⟨_, rfl⟩
              have hjm : j ∈ nxO X i := by rw [← hj, List.getD_eq_getElem?_getD, List.getElem?_eq_getElem hkn]; exact List.getElem_mem hkn
              have hjk : (nxO X i)[k]? = some j := by rw [← hj]; simp [List.getD, hkn]
              have e7 : ((nxO X i).map fun (j : Nat) => (j : Int)).getD k 0 = (j : Int) := by rw [← hj]; simp [List.getD, hkn]
              rw [e7, Nat.zero_add] at hc6
              obtain ⟨qi, hqi⟩ : ∃ x, Q2.getD i false = x := ⟨_, rfl⟩
              have ci := HK.out.1.cell (i := i) (by omega)
              rw [hqi] at ci
              have HJK := Hid.out (p := Hid _) (And.intro hjk hjm)
              clear hj hjk hjm e7
              cases qi with
              | false =>
                have HR : Hid (PasP l (nxO X) (fun j => ∃ q, Way l X j q) gReach R Q2 i (k + 1) b2) := HK.out.2.2.2.stay HJK.out.1 (fun e hg => by
                  have h1 := (HK.out.2.2.2.same e).1
                  unfold gReach at hg
                  rw [← h1, hqi] at hg
                  cases hg)
                go_wp2
                go_roundw
                case rel => exact ⟨k + 1, b2, Q2, by omega, by go_num, rfl, HK.out.1, HK.out.2.1, HK.out.2.2.1, HR.out⟩
                case measure => simp [intOf]; omega
              | true =>
                obtain ⟨wy, hwy⟩ := HK.out.2.2.2.sound i hqi
                have hjl : j ≤ l := (HNL.out i hil).2 j wy HJK.out.2 hwy
                have hwj : ∃ q, Way l X j q := ⟨_, hwy.step hil HJK.out.2⟩
                have cj := HK.out.1.cell (i := j) (by omega)
                have cf := HK.out.1.free j
                obtain ⟨qj, hqj⟩ : ∃ x, Q2.getD j false = x := ⟨_, rfl⟩
                rw [hqj] at cj
                cases qj with
                | true =>
                  have HR : Hid (PasP l (nxO X) (fun j => ∃ q, Way l X j q) gReach R Q2 i (k + 1) b2) := HK.out.2.2.2.stay HJK.out.1 (fun e _ => by rw [← (HK.out.2.2.2.same e).1]; exact hqj)
                  go_wp2
                  go_roundw
                  case rel => exact ⟨k + 1, b2, Q2, by omega, by go_num, rfl, HK.out.1, HK.out.2.1, HK.out.2.2.1, HR.out⟩
                  case measure => simp [intOf]; omega
                | false =>
                  have HR : Hid (RowB w w.heap.size l (wr.setCell ⟨w.heap.size, j, none⟩ (.bool true)) (Q2.set j true) ∧ Below w.heap.size w (wr.setCell ⟨w.heap.size, j, none⟩ (.bool true)) ∧ SIs (wr.setCell ⟨w.heap.size, j, none⟩ (.bool true)) (some ⟨g6, 0, none⟩) ((nxO X i).map fun (j : Nat) => (j : Int)) ∧ PasP l (nxO X) (fun j => ∃ q, Way l X j q) gReach R (Q2.set j true) i (k + 1) true) := by
                    refine ⟨HK.out.1.set j, HK.out.2.1.setCell (Nat.le_refl _) _, fun q hq => ?_, HK.out.2.2.2.turn (by omega) hqj hwj⟩
                    obtain ⟨b7, o7, e9, hc7⟩ := HK.out.2.2.1 q hq
                    refine ⟨b7, o7, e9, cell_far6 hc7 ?_⟩
                    simp only [Option.some.injEq, Addr.mk.injEq, and_true] at e9
                    rw [← e9.1]; exact hgne
                  clear hwj hwy
                  go_wp2
                  go_roundw
                  case rel => exact ⟨k + 1, true, Q2.set j true, by omega, by go_num, rfl, HR⟩
                  case measure => simp [intOf]; omega
            · have HR : Hid (PasP l (nxO X) (fun j => ∃ q, Way l X j q) gReach R Q2 (i + 1) 0 b2) := HK.out.2.2.2.next (Or.inl (by rw [HL.out]; omega))
              go_wp2
              go_roundw
              case rel => exact ⟨i + 1, b2, Q2, by omega, by go_num, rfl, HK.out.1, HK.out.2.1, HR.out⟩
              case measure => simp [intOf]; omega
        · have hil' : i = l := by omega
          subst hil'
          have HR : Hid (RowB w w.heap.size i wr Q ∧ Below w.heap.size w wr ∧ (∀ j, Q.getD j false = true → ∃ q, Way i X j q) ∧ Q.getD 0 false = true ∧ (b = false → ClsP i (nxO X) (fun j => ∃ q, Way i X j q) gReach Q)) := ⟨HJ.out.1, HJ.out.2.1, HJ.out.2.2.sound, HJ.out.2.2.more 0 HI.out.2.2.2.1, fun e => by have := HJ.out.2.2; rw [e] at this; exact this.done⟩
          have HLT : Hid ((if b then 1 + cntF Q else 0) < gk) := by
            have h1 := HI.out.2.2.2.2.2
            simp only [if_true] at h1
            show _ < _
            cases b with
            | true => have := HJ.out.2.2.less rfl; simp only [if_true]; omega
            | false => simp only [Bool.false_eq_true, if_false]; omega
          go_wp2
          go_roundg (if b then 1 + cntF Q else 0)
          case rel => exact ⟨b, Q, rfl, HR.out.1, HR.out.2.1, HR.out.2.2.1, HR.out.2.2.2.1, HR.out.2.2.2.2, rfl⟩
          case measure => exact HLT.out
    | false =>
      obtain ⟨w2, hrun2, hP2, hB2⟩ := may_start wr l hl
      have HCL : Hid (ClsP l (nxO X) (fun j => ∃ q, Way l X j q) gReach R ∧ R.getD 0 false = true) := ⟨HI.out.2.2.2.2.1 rfl, HI.out.2.2.2.1⟩
      have hmw : w.heap.size < wr.heap.size := HI.out.1.lt.2
      have HS2 : Hid (RowB w w.heap.size l w2 R ∧ RowB w wr.heap.size l w2 (List.replicate (l + 1) false) ∧ Below w.heap.size w w2) := ⟨HI.out.1.below hB2, ⟨own_low hP2 HI.out.2.1.size, by simp⟩, HI.out.2.1.trans (hB2.mono HI.out.2.1.size)⟩
      have HS0 : Hid (∀ j, (List.replicate (l + 1) false).getD j false = true → Way l X j true) := fun j hj => by
        exfalso
        rw [List.getD_eq_getElem?_getD, List.getElem?_replicate] at hj
        split at hj <;> simp at hj
      clear hP2 hB2
      go_wp2
      obtain ⟨mb, hmb⟩ : ∃ k, wr.heap.size = k := ⟨_, rfl⟩
      rw [hmb] at HS2 hmw ⊢
      obtain ⟨Z0, hZ0⟩ : ∃ Z : List Bool, List.replicate (l + 1) false = Z := ⟨_, rfl⟩
      rw [hZ0] at HS2 HS0
      clear hmb hZ0 hrun2 HI
      go_loopg [10] (1 + cntF Z0) (fun gk ag wr => ∃ (b : Bool) (M0 : List Bool), ag = .bool b ∧ Hid (RowB w w.heap.size l wr R ∧ RowB w mb l wr M0 ∧ Below w.heap.size w wr ∧ (∀ j, M0.getD j false = true → Way l X j true) ∧ (b = false → ClsP l (nxO X) (fun j => Way l X j true) (gMay X R) M0) ∧ gk = if b then 1 + cntF M0 else 0))
      case atStart => exact ⟨true, Z0, rfl, HS2.out.1, HS2.out.2.1, HS2.out.2.2, HS0.out, (fun h => by cases h), rfl⟩
      case round =>
        obtain ⟨b, M0, rfl, HI⟩ := hrel
        clear HS2 HS0
        cases b with
        | true =>
          have HP0 : Hid (PasP l (nxO X) (fun j => Way l X j true) (gMay X R) M0 M0 0 0 false) := PasP.begin HI.out.2.1.2 HI.out.2.2.2.1
          go_wp2
          obtain ⟨V0, rfl⟩ : ∃ V, V = wr := ⟨_, rfl⟩
          go_loopw [10, 11] (fun ag iv wi => ∃ (i : Nat) (b : Bool) (Q : List Bool), i ≤ l ∧ iv = .int .i64 i ∧ ag = .bool b ∧ Hid (RowB w w.heap.size l wi R ∧ RowB w mb l wi Q ∧ Below w.heap.size w wi ∧ PasP l (nxO X) (fun j => Way l X j true) (gMay X R) M0 Q i 0 b)) (fun _ iv _ => l - (intOf iv).toNat)
          case atStart => exact ⟨0, false, M0, Nat.zero_le _, rfl, rfl, HI.out.1, HI.out.2.1, HI.out.2.2.1, HP0.out⟩
          case round =>
            obtain ⟨i, b, Q, hi, rfl, rfl, HJ⟩ := hrel
            clear HP0
            by_cases hil : i < l
            · obtain ⟨cb, co, rfl, hcc, _⟩ := HORD.out i hil
              have hcl : cb < w.heap.size := lt_of_cell hcc
              have c0 := (HJ.out.2.2.1.cell (p := ⟨cb, co + i * 4, none⟩) hcl).trans hcc
              obtain ⟨op, hop⟩ : ∃ x, X i 0 = x := ⟨_, rfl⟩
              have HOP := Hid.out (p := Hid _) hop
              rw [hop] at c0
              have cr := HJ.out.1.cell (i := i) (by omega)
              have cm := HJ.out.2.1.cell (i := i) (by omega)
              obtain ⟨ri, hri⟩ : ∃ x, R.getD i false = x := ⟨_, rfl⟩
              obtain ⟨mi, hmi⟩ : ∃ x, Q.getD i false = x := ⟨_, rfl⟩
              rw [hri] at cr
              rw [hmi] at cm
              have HRM := Hid.out (p := Hid _) (And.intro hri hmi)
              clear hop hcc
              have hcs : op = 12 ∨ op = 13 ∨ op = 17 ∨ (op ≠ 12 ∧ op ≠ 13 ∧ op ≠ 17) := by omega
              rcases hcs with rfl | rfl | rfl | ⟨n12, n13, n17⟩
              · cases ri with
                | true =>
                  have HR : Hid (PasP l (nxO X) (fun j => Way l X j true) (gMay X R) M0 Q (i + 1) 0 b) := HJ.out.2.2.2.next (Or.inr (fun e => by
                    have h1 := (HJ.out.2.2.2.same e).1
                    rw [← h1]
                    unfold gMay
                    rw [HOP.out]
                    simp [wtO, awO]))
                  go_wp2_with (first | (go_at_call 32; refine (rwaits_any _ _).mono ?_; rintro e w5 ⟨rfl, rfl⟩))
                  go_roundw
                  case rel => exact ⟨i + 1, b, Q, by omega, by go_num, rfl, HJ.out.1, HJ.out.2.1, HJ.out.2.2.1, HR.out⟩
                  case measure => simp [intOf]; omega
                | false =>
                  have HR : Hid (PasP l (nxO X) (fun j => Way l X j true) (gMay X R) M0 Q (i + 1) 0 b) := HJ.out.2.2.2.next (Or.inr (fun e => by
                    have h1 := (HJ.out.2.2.2.same e).1
                    rw [← h1]
                    unfold gMay
                    rw [HOP.out]
                    rw [HRM.out.1]; rfl))
                  go_wp2_with (first | (go_at_call 32; refine (rwaits_any _ _).mono ?_; rintro e w5 ⟨rfl, rfl⟩))
                  go_roundw
                  case rel => exact ⟨i + 1, b, Q, by omega, by go_num, rfl, HJ.out.1, HJ.out.2.1, HJ.out.2.2.1, HR.out⟩
                  case measure => simp [intOf]; omega
              · cases ri with
                | true =>
                  have HR : Hid (PasP l (nxO X) (fun j => Way l X j true) (gMay X R) M0 Q (i + 1) 0 b) := HJ.out.2.2.2.next (Or.inr (fun e => by
                    have h1 := (HJ.out.2.2.2.same e).1
                    rw [← h1]
                    unfold gMay
                    rw [HOP.out]
                    simp [wtO, awO]))
                  go_wp2_with (first | (go_at_call 32; refine (rwaits_any _ _).mono ?_; rintro e w5 ⟨rfl, rfl⟩))
                  go_roundw
                  case rel => exact ⟨i + 1, b, Q, by omega, by go_num, rfl, HJ.out.1, HJ.out.2.1, HJ.out.2.2.1, HR.out⟩
                  case measure => simp [intOf]; omega
                | false =>
                  have HR : Hid (PasP l (nxO X) (fun j => Way l X j true) (gMay X R) M0 Q (i + 1) 0 b) := HJ.out.2.2.2.next (Or.inr (fun e => by
                    have h1 := (HJ.out.2.2.2.same e).1
                    rw [← h1]
                    unfold gMay
                    rw [HOP.out]
                    rw [HRM.out.1]; rfl))
                  go_wp2_with (first | (go_at_call 32; refine (rwaits_any _ _).mono ?_; rintro e w5 ⟨rfl, rfl⟩))
                  go_roundw
                  case rel => exact ⟨i + 1, b, Q, by omega, by go_num, rfl, HJ.out.1, HJ.out.2.1, HJ.out.2.2.1, HR.out⟩
                  case measure => simp [intOf]; omega
              · cases ri with
                | true =>
                  have HR : Hid (PasP l (nxO X) (fun j => Way l X j true) (gMay X R) M0 Q (i + 1) 0 b) := HJ.out.2.2.2.next (Or.inr (fun e => by
                    have h1 := (HJ.out.2.2.2.same e).1
                    rw [← h1]
                    unfold gMay
                    rw [HOP.out]
                    simp [wtO, awO]))
                  go_wp2_with (first | (go_at_call 32; refine (rwaits_any _ _).mono ?_; rintro e w5 ⟨rfl, rfl⟩))
                  go_roundw
                  case rel => exact ⟨i + 1, b, Q, by omega, by go_num, rfl, HJ.out.1, HJ.out.2.1, HJ.out.2.2.1, HR.out⟩
                  case measure => simp [intOf]; omega
                | false =>
                  have HR : Hid (PasP l (nxO X) (fun j => Way l X j true) (gMay X R) M0 Q (i + 1) 0 b) := HJ.out.2.2.2.next (Or.inr (fun e => by
                    have h1 := (HJ.out.2.2.2.same e).1
                    rw [← h1]
                    unfold gMay
                    rw [HOP.out]
                    rw [HRM.out.1]; rfl))
                  go_wp2_with (first | (go_at_call 32; refine (rwaits_any _ _).mono ?_; rintro e w5 ⟨rfl, rfl⟩))
                  go_roundw
                  case rel => exact ⟨i + 1, b, Q, by omega, by go_num, rfl, HJ.out.1, HJ.out.2.1, HJ.out.2.2.1, HR.out⟩
                  case measure => simp [intOf]; omega
              · have e12 : (op == 12) = false := by simpa using n12
                have e13 : (op == 13) = false := by simpa using n13
                have e17 : (op == 17) = false := by simpa using n17
                obtain ⟨wt, hwt⟩ : ∃ x, wtO op = x := ⟨_, rfl⟩
                have HWT := Hid.out (p := Hid _) hwt
                have haw : awO op = false := by unfold awO; rw [decide_eq_false n12, decide_eq_false n13, decide_eq_false n17]; rfl
                have HAW := Hid.out (p := Hid _) haw
                clear haw
                cases ri with
                | false =>
                  have HR : Hid (PasP l (nxO X) (fun j => Way l X j true) (gMay X R) M0 Q (i + 1) 0 b) := HJ.out.2.2.2.next (Or.inr (fun e => by
                    have h1 := (HJ.out.2.2.2.same e).1
                    rw [← h1]
                    unfold gMay
                    rw [HOP.out]
                    rw [HRM.out.1]; rfl))
                  go_wp2_with (first | (go_at_call 32; refine (rwaits_any _ _).mono ?_; rintro e w5 ⟨rfl, rfl⟩))
                  go_roundw
                  case rel => exact ⟨i + 1, b, Q, by omega, by go_num, rfl, HJ.out.1, HJ.out.2.1, HJ.out.2.2.1, HR.out⟩
                  case measure => simp [intOf]; omega
                | true =>
                  cases wt with
                  | true =>
                    have HG : Hid (∀ j, j ∈ nxO X i → Way l X j true) := fun j hj => by
                      obtain ⟨wy, hwy⟩ := HCL.out.1.sound i HRM.out.1; have := hwy.step hil hj; rw [HOP.out, HWT.out] at this; exact this
                    go_wp2_with (first | (go_at_call 32; refine (rwaits_any _ _).mono ?_; rintro e w5 ⟨rfl, rfl⟩))
                    refine Calls.mono (HNX.out _ i HJ.out.2.2.1 hil) ?_
                    rintro e w6 ⟨g6, cap6, rfl, hs6, hb6, hg6⟩
                    obtain ⟨nl, hnl⟩ : ∃ x, (nxO X i).length = x := ⟨_, rfl⟩
                    have HL : Hid ((nxO X i).length = nl) := hnl
                    have hnl2 : nl ≤ 2 := by rw [← hnl]; exact (HNL.out i hil).1
                    rw [hnl]
                    have hgne : g6 ≠ mb := by have := HJ.out.2.1.lt; omega
                    have H6 : Hid (RowB w w.heap.size l w6 R ∧ RowB w mb l w6 Q ∧ Below w.heap.size w w6 ∧ SIs w6 (some ⟨g6, 0, none⟩) ((nxO X i).map fun (j : Nat) => (j : Int))) := ⟨HJ.out.1.below hb6, HJ.out.2.1.below hb6, HJ.out.2.2.1.trans (hb6.mono HJ.out.2.2.1.size), hs6⟩
                    clear hnl hs6 hb6 hg6
                    go_wp2_with fail
                    go_loopw [10, 16] (fun ag kv wk => ∃ (k : Nat) (b : Bool) (Q : List Bool), k ≤ nl ∧ kv = .int .i64 k ∧ ag = .bool b ∧ Hid (RowB w w.heap.size l wk R ∧ RowB w mb l wk Q ∧ Below w.heap.size w wk ∧ SIs wk (some ⟨g6, 0, none⟩) ((nxO X i).map fun (j : Nat) => (j : Int)) ∧ PasP l (nxO X) (fun j => Way l X j true) (gMay X R) M0 Q i k b)) (fun _ kv _ => nl - (intOf kv).toNat)
                    case atStart => exact ⟨0, b, Q, Nat.zero_le _, rfl, rfl, H6.out.1, H6.out.2.1, H6.out.2.2.1, H6.out.2.2.2, HJ.out.2.2.2⟩
                    case round =>
                      obtain ⟨k, b2, Q2, hk, rfl, rfl, HK⟩ := hrel
                      clear HJ H6
                      by_cases hkl : k < nl
                      · obtain ⟨b6, o6, e6, hc6⟩ := HK.out.2.2.2.1 k (by rw [List.length_map, HL.out]; exact hkl)
                        simp only [Option.some.injEq, Addr.mk.injEq, and_true] at e6
                        obtain ⟨rfl, rfl⟩ := e6
                        have hkn : k < (nxO X i).length := by rw [HL.out]; exact hkl
                        obtain ⟨j, hj⟩ : ∃ x, (nxO X i).getD k 0 = x := ⟨_, rfl⟩
                        have hjm : j ∈ nxO X i := by rw [← hj, List.getD_eq_getElem?_getD, List.getElem?_eq_getElem hkn]; exact List.getElem_mem hkn
                        have hjk : (nxO X i)[k]? = some j := by rw [← hj]; simp [List.getD, hkn]
                        have e7 : ((nxO X i).map fun (j : Nat) => (j : Int)).getD k 0 = (j : Int) := by rw [← hj]; simp [List.getD, hkn]
                        rw [e7, Nat.zero_add] at hc6
                        have hwj := HG.out j hjm
                        have hjl : j ≤ l := way_le HOK.out hwj
                        have HWJ := Hid.out (p := Hid _) hwj
                        have HJK := Hid.out (p := Hid _) hjk
                        have cj := HK.out.2.1.cell (i := j) (by omega)
                        have cf := HK.out.2.1.free j
                        obtain ⟨qj, hqj⟩ : ∃ x, Q2.getD j false = x := ⟨_, rfl⟩
                        rw [hqj] at cj
                        clear hj hjk hjm e7 hwj
                        cases qj with
                        | true =>
                          have HR : Hid (PasP l (nxO X) (fun j => Way l X j true) (gMay X R) M0 Q2 i (k + 1) b2) := HK.out.2.2.2.2.stay HJK.out (fun e _ => by rw [← (HK.out.2.2.2.2.same e).1]; exact hqj)
                          go_wp2
                          go_roundw
                          case rel => exact ⟨k + 1, b2, Q2, by omega, by go_num, rfl, HK.out.1, HK.out.2.1, HK.out.2.2.1, HK.out.2.2.2.1, HR.out⟩
                          case measure => simp [intOf]; omega
                        | false =>
                          have HR : Hid (RowB w w.heap.size l (wr.setCell ⟨mb, j, none⟩ (.bool true)) R ∧ RowB w mb l (wr.setCell ⟨mb, j, none⟩ (.bool true)) (Q2.set j true) ∧ Below w.heap.size w (wr.setCell ⟨mb, j, none⟩ (.bool true)) ∧ SIs (wr.setCell ⟨mb, j, none⟩ (.bool true)) (some ⟨g6, 0, none⟩) ((nxO X i).map fun (j : Nat) => (j : Int)) ∧ PasP l (nxO X) (fun j => Way l X j true) (gMay X R) M0 (Q2.set j true) i (k + 1) true) := by
                            refine ⟨HK.out.1.far (by show w.heap.size ≠ mb; omega), HK.out.2.1.set j, HK.out.2.2.1.setCell (show w.heap.size ≤ mb by omega) _, fun q hq => ?_, HK.out.2.2.2.2.turn (by omega) hqj HWJ.out⟩
                            obtain ⟨b7, o7, e9, hc7⟩ := HK.out.2.2.2.1 q hq
                            refine ⟨b7, o7, e9, cell_far6 hc7 ?_⟩
                            simp only [Option.some.injEq, Addr.mk.injEq, and_true] at e9
                            rw [← e9.1]; exact hgne
                          go_wp2
                          go_roundw
                          case rel => exact ⟨k + 1, true, Q2.set j true, by omega, by go_num, rfl, HR⟩
                          case measure => simp [intOf]; omega
                      · have HR : Hid (PasP l (nxO X) (fun j => Way l X j true) (gMay X R) M0 Q2 (i + 1) 0 b2) := HK.out.2.2.2.2.next (Or.inl (by rw [HL.out]; omega))
                        go_wp2
                        go_roundw
                        case rel => exact ⟨i + 1, b2, Q2, by omega, by go_num, rfl, HK.out.1, HK.out.2.1, HK.out.2.2.1, HR.out⟩
                        case measure => simp [intOf]; omega
                  | false =>
                    cases mi with
                    | false =>
                      have HR : Hid (PasP l (nxO X) (fun j => Way l X j true) (gMay X R) M0 Q (i + 1) 0 b) := HJ.out.2.2.2.next (Or.inr (fun e => by
                        have h1 := (HJ.out.2.2.2.same e).1
                        rw [← h1]
                        unfold gMay
                        rw [HOP.out]
                        rw [HRM.out.2, HWT.out]; simp))
                      go_wp2_with (first | (go_at_call 32; refine (rwaits_any _ _).mono ?_; rintro e w5 ⟨rfl, rfl⟩))
                      go_roundw
                      case rel => exact ⟨i + 1, b, Q, by omega, by go_num, rfl, HJ.out.1, HJ.out.2.1, HJ.out.2.2.1, HR.out⟩
                      case measure => simp [intOf]; omega
                    | true =>
                      have HG : Hid (∀ j, j ∈ nxO X i → Way l X j true) := fun j hj => by
                        have hwy := HJ.out.2.2.2.sound i HRM.out.2; have := hwy.step hil hj; rw [HOP.out, HWT.out, HAW.out] at this; exact this
                      go_wp2_with (first | (go_at_call 32; refine (rwaits_any _ _).mono ?_; rintro e w5 ⟨rfl, rfl⟩))
                      refine Calls.mono (HNX.out _ i HJ.out.2.2.1 hil) ?_
                      rintro e w6 ⟨g6, cap6, rfl, hs6, hb6, hg6⟩
                      obtain ⟨nl, hnl⟩ : ∃ x, (nxO X i).length = x := ⟨_, rfl⟩
                      have HL : Hid ((nxO X i).length = nl) := hnl
                      have hnl2 : nl ≤ 2 := by rw [← hnl]; exact (HNL.out i hil).1
                      rw [hnl]
                      have hgne : g6 ≠ mb := by have := HJ.out.2.1.lt; omega
                      have H6 : Hid (RowB w w.heap.size l w6 R ∧ RowB w mb l w6 Q ∧ Below w.heap.size w w6 ∧ SIs w6 (some ⟨g6, 0, none⟩) ((nxO X i).map fun (j : Nat) => (j : Int))) := ⟨HJ.out.1.below hb6, HJ.out.2.1.below hb6, HJ.out.2.2.1.trans (hb6.mono HJ.out.2.2.1.size), hs6⟩
                      clear hnl hs6 hb6 hg6
                      go_wp2_with fail
                      go_loopw [10, 16] (fun ag kv wk => ∃ (k : Nat) (b : Bool) (Q : List Bool), k ≤ nl ∧ kv = .int .i64 k ∧ ag = .bool b ∧ Hid (RowB w w.heap.size l wk R ∧ RowB w mb l wk Q ∧ Below w.heap.size w wk ∧ SIs wk (some ⟨g6, 0, none⟩) ((nxO X i).map fun (j : Nat) => (j : Int)) ∧ PasP l (nxO X) (fun j => Way l X j true) (gMay X R) M0 Q i k b)) (fun _ kv _ => nl - (intOf kv).toNat)
                      case atStart => exact ⟨0, b, Q, Nat.zero_le _, rfl, rfl, H6.out.1, H6.out.2.1, H6.out.2.2.1, H6.out.2.2.2, HJ.out.2.2.2⟩
                      case round =>
                        obtain ⟨k, b2, Q2, hk, rfl, rfl, HK⟩ := hrel
                        clear HJ H6
                        by_cases hkl : k < nl
                        · obtain ⟨b6, o6, e6, hc6⟩ := HK.out.2.2.2.1 k (by rw [List.length_map, HL.out]; exact hkl)
                          simp only [Option.some.injEq, Addr.mk.injEq, and_true] at e6
                          obtain ⟨rfl, rfl⟩ := e6
                          have hkn : k < (nxO X i).length := by rw [HL.out]; exact hkl
                          obtain ⟨j, hj⟩ : ∃ x, (nxO X i).getD k 0 = x := ⟨_, rfl⟩
                          have hjm : j ∈ nxO X i := by rw [← hj, List.getD_eq_getElem?_getD, List.getElem?_eq_getElem hkn]; exact List.getElem_mem hkn
                          have hjk : (nxO X i)[k]? = some j := by rw [← hj]; simp [List.getD, hkn]
                          have e7 : ((nxO X i).map fun (j : Nat) => (j : Int)).getD k 0 = (j : Int) := by rw [← hj]; simp [List.getD, hkn]
                          rw [e7, Nat.zero_add] at hc6
                          have hwj := HG.out j hjm
                          have hjl : j ≤ l := way_le HOK.out hwj
                          have HWJ := Hid.out (p := Hid _) hwj
                          have HJK := Hid.out (p := Hid _) hjk
                          have cj := HK.out.2.1.cell (i := j) (by omega)
                          have cf := HK.out.2.1.free j
                          obtain ⟨qj, hqj⟩ : ∃ x, Q2.getD j false = x := ⟨_, rfl⟩
                          rw [hqj] at cj
                          clear hj hjk hjm e7 hwj
                          cases qj with
                          | true =>
                            have HR : Hid (PasP l (nxO X) (fun j => Way l X j true) (gMay X R) M0 Q2 i (k + 1) b2) := HK.out.2.2.2.2.stay HJK.out (fun e _ => by rw [← (HK.out.2.2.2.2.same e).1]; exact hqj)
                            go_wp2
                            go_roundw
                            case rel => exact ⟨k + 1, b2, Q2, by omega, by go_num, rfl, HK.out.1, HK.out.2.1, HK.out.2.2.1, HK.out.2.2.2.1, HR.out⟩
                            case measure => simp [intOf]; omega
                          | false =>
                            have HR : Hid (RowB w w.heap.size l (wr.setCell ⟨mb, j, none⟩ (.bool true)) R ∧ RowB w mb l (wr.setCell ⟨mb, j, none⟩ (.bool true)) (Q2.set j true) ∧ Below w.heap.size w (wr.setCell ⟨mb, j, none⟩ (.bool true)) ∧ SIs (wr.setCell ⟨mb, j, none⟩ (.bool true)) (some ⟨g6, 0, none⟩) ((nxO X i).map fun (j : Nat) => (j : Int)) ∧ PasP l (nxO X) (fun j => Way l X j true) (gMay X R) M0 (Q2.set j true) i (k + 1) true) := by
                              refine ⟨HK.out.1.far (by show w.heap.size ≠ mb; omega), HK.out.2.1.set j, HK.out.2.2.1.setCell (show w.heap.size ≤ mb by omega) _, fun q hq => ?_, HK.out.2.2.2.2.turn (by omega) hqj HWJ.out⟩
                              obtain ⟨b7, o7, e9, hc7⟩ := HK.out.2.2.2.1 q hq
                              refine ⟨b7, o7, e9, cell_far6 hc7 ?_⟩
                              simp only [Option.some.injEq, Addr.mk.injEq, and_true] at e9
                              rw [← e9.1]; exact hgne
                            go_wp2
                            go_roundw
                            case rel => exact ⟨k + 1, true, Q2.set j true, by omega, by go_num, rfl, HR⟩
                            case measure => simp [intOf]; omega
                        · have HR : Hid (PasP l (nxO X) (fun j => Way l X j true) (gMay X R) M0 Q2 (i + 1) 0 b2) := HK.out.2.2.2.2.next (Or.inl (by rw [HL.out]; omega))
                          go_wp2
                          go_roundw
                          case rel => exact ⟨i + 1, b2, Q2, by omega, by go_num, rfl, HK.out.1, HK.out.2.1, HK.out.2.2.1, HR.out⟩
                          case measure => simp [intOf]; omega
            · have hil' : i = l := by omega
              subst hil'
              have HR : Hid (RowB w w.heap.size i wr R ∧ RowB w mb i wr Q ∧ Below w.heap.size w wr ∧ (∀ j, Q.getD j false = true → Way i X j true) ∧ (b = false → ClsP i (nxO X) (fun j => Way i X j true) (gMay X R) Q)) := ⟨HJ.out.1, HJ.out.2.1, HJ.out.2.2.1, HJ.out.2.2.2.sound, fun e => by have := HJ.out.2.2.2; rw [e] at this; exact this.done⟩
              have HLT : Hid ((if b then 1 + cntF Q else 0) < gk) := by
                have h1 := HI.out.2.2.2.2.2
                simp only [if_true] at h1
                show _ < _
                cases b with
                | true => have := HJ.out.2.2.2.less rfl; simp only [if_true]; omega
                | false => simp only [Bool.false_eq_true, if_false]; omega
              go_wp2
              go_roundg (if b then 1 + cntF Q else 0)
              case rel => exact ⟨b, Q, rfl, HR.out.1, HR.out.2.1, HR.out.2.2.1, HR.out.2.2.2.1, HR.out.2.2.2.2, rfl⟩
              case measure => exact HLT.out
        | false =>
          have HF : Hid (∃ M, wr.ownsRow w.heap.size 4 1 (.slice (some ⟨mb, 0, none⟩) (l + 1) (l + 1)) (l + 1) (boolsV M) ∧ (∀ i, M.getD i false = true ↔ Way l X i true) ∧ Below w.heap.size w wr) := ⟨M0, HI.out.2.1.1, fun i => may_iff HCL.out.1 HCL.out.2 (HI.out.2.2.2.2.1 rfl), HI.out.2.2.1⟩
          clear HI
          go_wp2
          go_ret
          obtain ⟨M, h1, h2, h3⟩ := HF.out
          exact ⟨mb, M, rfl, h1, h2, h3⟩

end Go.Proofs.Ytgofbkgfonlceac
