/-
  The document's side: the numbers of a set.
-/
import Derived.Test.YtocfocjnnjdcgaaDoorLivH
namespace Go.Proofs.YtocfocjnnjdcgaaDoor
open Go.RowKit

attribute [local go_sem ↓] appS_eq
set_option maxRecDepth 100000 in
set_option maxHeartbeats 3200000 in
/-- The numbers of a set. -/
theorem rlist_any (w : World) (g : Nat) (R : List Bool) (hR : BR w g R) (hl : R.length ≤ 1000) (n : Nat) (hn : R.length = n) :
    Calls Tryd.prog 13 #[.slice (some ⟨g, 0, none⟩) n n] w fun e w' => ∃ u, e = .returned u ∧ OwL w' w.heap.size u (lstP (fun i => R.getD i false) n) ∧ Below w.heap.size w w' := by
  rw [hn] at hl
  have HR := Hid.out (p := Hid _) hR
  have HN := Hid.out (p := Hid _) hn
  clear hR hn
  go_enter Tryd.func13, Tryd.ntmps13
  go_wp2_with fail
  go_loopw [3, 4] (fun u x wr => ∃ i : Nat, i ≤ n ∧ x = .int .i64 i ∧ Hid (OwL wr w.heap.size u (lstP (fun i => R.getD i false) i) ∧ Below w.heap.size w wr)) (fun _ x _ => n - (intOf x).toNat)
  case atStart => exact ⟨0, Nat.zero_le _, rfl, owL_nil _ _, Below.refl _ _⟩
  case round =>
    obtain ⟨i, hi, rfl, HJ⟩ := hrel
    by_cases hlt : i < n
    · have hc := (BR.below HR.out HJ.out.2).cell (i := i) (by rw [HN.out]; exact hlt)
      have hsn := lstP_snoc (fun i => R.getD i false) i
      obtain ⟨q, hq⟩ : ∃ q, R.getD i false = q := ⟨_, rfl⟩
      rw [hq] at hc hsn
      have hlt' : (i : Int) < (n : Int) := by omega
      cases q with
      | true =>
        rw [if_pos rfl] at hsn
        obtain ⟨ua, uc, hu⟩ := HJ.out.1.form
        have hll := lstP_len (fun i => R.getD i false) i
        obtain ⟨g9, cap, w3, r1, r2, r3⟩ := app_num HJ.out.1 (Below.refl _ _) HJ.out.2.size (i : Int) (by omega)
        rw [← hsn] at r2
        rw [hu] at r1
        obtain ⟨m, hm⟩ : ∃ m, (lstP (fun i => R.getD i false) i).length = m := ⟨_, rfl⟩
        rw [hm] at r1 r2 hu
        have HX : Hid (OwL w3 w.heap.size (.slice (some ⟨g9, 0, none⟩) (m + 1) cap) (lstP (fun i => R.getD i false) (i + 1)) ∧ Below w.heap.size w w3) := ⟨r2, r3 w HJ.out.2⟩
        subst hu
        clear r2 r3 hsn hm hll hq HJ
        go_wp2_with fail
        go_roundw
        case rel => exact ⟨i + 1, by omega, by go_num, HX.out⟩
        case measure => simp [intOf]; omega
      | false =>
        rw [if_neg (by decide), List.append_nil] at hsn
        have HX : Hid (OwL wr w.heap.size u3 (lstP (fun i => R.getD i false) (i + 1)) ∧ Below w.heap.size w wr) := by rw [hsn]; exact HJ.out
        clear hsn hq HJ
        go_wp2_with fail
        go_roundw
        case rel => exact ⟨i + 1, by omega, by go_num, HX.out⟩
        case measure => simp [intOf]; omega
    · obtain rfl : i = n := by omega
      have HX := HJ.out
      go_wp2_with fail
      refine bodyPost_ret (v := u3) (by simp [results, Tryd.results13, go_sem]) rfl ⟨_, rfl, HX⟩


end Go.Proofs.YtocfocjnnjdcgaaDoor
