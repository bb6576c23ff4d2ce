/-
  A set's registers as a list: the program's walk; the lowest bit.
-/
import Derived.Test.YtocfocjnnjdcgaaDoorLivL
import Derived.Test.YtocfocjnnjdcgaaDoorLivA
import Derived.Shelf.Spec.TrailingZeros
namespace Go.Proofs.YtocfocjnnjdcgaaDoor
open Go.RowKit

/-- The table of lowest bits. -/
def TabZ (w : World) : Prop := ∀ j, j < 64 → w.cell? ⟨0, j, none⟩ = some (.int .u8 (Lib.deBruijn64tab.getD j 0 : Nat))
theorem TabZ.below {w w' : World} (h : TabZ w) (hb : Below w.heap.size w w') : TabZ w' := fun j hj => (hb.cell (lt_of_cell (h j hj))).trans (h j hj)

set_option maxHeartbeats 1600000 in
theorem tz_core (x k idx : Nat) (w : World) (hx0 : ((x : Int) == 0) = false)
    (key : IntKind.u64.wrap (bits BinOp.and IntKind.u64 (x : Int) (IntKind.u64.wrap (-(x : Int))) * 285870213051353865) / 288230376151711744 = (idx : Int))
    (hi : idx < 64) (hk : k < 64) (hcell : w.cell? ⟨0, idx, none⟩ = some (.int .u8 k)) :
    Calls Tryd.prog 82 #[.int .u64 x] w fun e w' => e = .returned (.int .i64 k) ∧ w' = w := by
  go_enter Tryd.func82, Tryd.ntmps82
  go_wp2_with (simp only [key])
  go_ret
  exact ⟨rfl, rfl⟩
theorem tz_any (x : Nat) (hx : x < 18446744073709551616) (hx0 : x ≠ 0) (w : World) (hT : TabZ w) :
    Calls Tryd.prog 82 #[.int .u64 x] w fun e w' => e = .returned (.int .i64 (Lib.ctz 64 x)) ∧ w' = w := by
  obtain ⟨hlow, hk⟩ := Lib.lowest_bit 64 x hx0 hx
  obtain ⟨hi, htab⟩ := Lib.deBruijn64_at _ hk
  have hcell := hT _ hi
  rw [htab] at hcell
  exact tz_core x _ _ w (by simp; omega) (Go.Proofs.tz64_key x _ hx hx0 hlow) hi hk hcell

theorem idx_any (f : Nat → Nat) {i : Nat} (hi : i < 4) : ∀ W, (Instr.index 88 (setV f) (.int .i64 i)).run Tryd.prog W = .ok (.int .u64 (f i)) W := by
  obtain ⟨i0, i1, i2, i3⟩ := idx_set f
  rcases (by omega : i = 0 ∨ i = 1 ∨ i = 2 ∨ i = 3) with rfl | rfl | rfl | rfl
  · exact i0
  · exact i1
  · exact i2
  · exact i3
section
attribute [local go_sem ↓] appS_eq
set_option maxRecDepth 100000 in
set_option maxHeartbeats 3200000 in
theorem list_any (f : Nat → Nat) (hf : W64 f) (w : World) (hT : TabZ w) :
    Calls Tryd.prog 48 #[setV f] w fun e w' => ∃ u, e = .returned u ∧ OwL w' w.heap.size u (lstP (has f) 256) ∧ Below w.heap.size w w' := by
  have HF := Hid.out (p := Hid _) hf
  have HT := Hid.out (p := Hid _) hT
  clear hf hT
  go_enter Tryd.func48, Tryd.ntmps48
  go_wp2_with fail
  have HB0 : Hid (Below w.heap.size w (w.alloc (setO f))) := (Below.refl _ _).alloc (Nat.le_refl _) _
  go_loopw [3, 8] (fun u x wr => ∃ i : Nat, i ≤ 4 ∧ x = .int .i64 i ∧ Hid (OwL wr w.heap.size u (lstP (has f) (i * 64)) ∧ Below w.heap.size w wr)) (fun _ x _ => 4 - (intOf x).toNat)
  case atStart => exact ⟨0, by omega, rfl, owL_nil _ _, HB0.out⟩
  case round =>
    obtain ⟨i, hi, rfl, HJ⟩ := hrel
    clear HB0
    by_cases hlt : i < 4
    · have hix := idx_any f hlt
      have hlt' : (i : Int) < 4 := by omega
      have HL : Hid (LsI f i (f i) (lstP (has f) (i * 64))) := LsI.start HF.out i
      obtain ⟨r0, hr0⟩ : ∃ r, f i = r := ⟨_, rfl⟩
      have hix' : ∀ W, (Instr.index 88 (setV f) (.int .i64 i)).run Tryd.prog W = .ok (.int .u64 r0) W := by rw [← hr0]; exact hix
      rw [hr0] at HL
      obtain ⟨l0, hl0⟩ : ∃ l, lstP (has f) (i * 64) = l := ⟨_, rfl⟩
      rw [hl0] at HL HJ
      clear hix hr0 hl0
      go_wp2_with fail
      go_loopw [3, 5] (fun u x wi => ∃ (rest : Nat) (l : List Int), x = .int .u64 rest ∧ Hid (LsI f i rest l ∧ OwL wi w.heap.size u l ∧ Below w.heap.size w wi)) (fun _ x _ => (intOf x).toNat)
      case atStart => exact ⟨r0, l0, rfl, HL.out, HJ.out.1, HJ.out.2⟩
      case round =>
        obtain ⟨rest, l, rfl, HI⟩ := hrel
        clear HL HJ
        by_cases h0 : rest = 0
        · subst h0
          have HN : Hid (l = lstP (has f) ((i + 1) * 64)) := HI.out.1.stop
          go_wp2_with fail
          go_roundw
          case rel => exact ⟨i + 1, by omega, by go_num, by rw [← HN.out]; exact HI.out.2.1, HI.out.2.2⟩
          case measure => simp [intOf]; omega
        · obtain ⟨hn, hk, hlt2⟩ := HI.out.1.next h0
          have hne : ((rest : Int) == 0) = false := by simpa using h0
          have hTz := tz_any rest HI.out.1.lt h0 wr (TabZ.below HT.out HI.out.2.2)
          obtain ⟨k, hkk⟩ : ∃ k, Lib.ctz 64 rest = k := ⟨_, rfl⟩
          rw [hkk] at hn hk hlt2 hTz
          have hx : ((i * 64 + k : Nat) : Int) = (i : Int) * 64 + (k : Int) := by omega
          rw [hx] at hn
          obtain ⟨ua, uc, hu⟩ := HI.out.2.1.form
          have hll : l.length ≤ 100000 := by
            obtain ⟨⟨m, hm, _, e⟩, _⟩ := HI.out.1
            have := lstP_len (has f) (i * 64 + m)
            rw [e]; omega
          obtain ⟨g9, cap, w3, r1, r2, r3⟩ := app_num HI.out.2.1 (Below.refl _ _) HI.out.2.2.size ((i : Int) * 64 + (k : Int)) hll
          rw [hu] at r1
          have HN : Hid (LsI f i (clr rest k) (l ++ [(i : Int) * 64 + (k : Int)]) ∧ clr rest k < rest ∧ k < 64 ∧ OwL w3 w.heap.size (.slice (some ⟨g9, 0, none⟩) (l.length + 1) cap) (l ++ [(i : Int) * 64 + (k : Int)]) ∧ Below w.heap.size w w3) := ⟨hn, hlt2, hk, r2, r3 w HI.out.2.2⟩
          have HTZ := Hid.out (p := Hid _) hTz
          obtain ⟨m, hm⟩ : ∃ m, l.length = m := ⟨_, rfl⟩
          rw [hm] at hu r1 HN
          have HBT : Hid (bits .andNot .u64 (rest : Int) (IntKind.u64.wrap (2 ^ k)) = ((clr rest k : Nat) : Int)) := by
            show _ = _
            have h1 := shl_run hk
            rw [Nat.min_eq_left (Nat.le_of_lt hk)] at h1
            rw [h1, clr_run]
          clear hn hlt2 hTz hkk h0 hll r2 r3 hx hm
          subst hu
          go_wp2_with fail
          refine Calls.mono HTZ.out ?_
          rintro e w5 ⟨rfl, rfl⟩
          clear HTZ
          go_wp2_with fail
          go_roundw
          case rel => exact ⟨clr rest k, _, by rw [HBT.out], HN.out.1, HN.out.2.2.2.1, HN.out.2.2.2.2⟩
          case measure => simp only [intOf, HBT.out, Int.toNat_natCast]; exact HN.out.2.1
    · obtain rfl : i = 4 := by omega
      have HN := HJ.out
      go_wp2_with fail
      refine bodyPost_ret (v := u3) (by simp [results, Tryd.results48, go_sem]) rfl ⟨_, rfl, HN⟩
end

end Go.Proofs.YtocfocjnnjdcgaaDoor
