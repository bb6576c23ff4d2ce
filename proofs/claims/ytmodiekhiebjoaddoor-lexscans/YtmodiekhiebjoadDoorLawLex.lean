/-
  The law of tokens.
-/
import Derived.Test.YtmodiekhiebjoadDoorLexB2
namespace Go.Proofs.YtmodiekhiebjoadDoor
open Go.RowKit

theorem scanF_len : ∀ (f i : Nat) (l : List UInt8) (acc : List Tok), (scanF f i l acc).1.length ≤ acc.length + l.length
  | 0, _, _, acc => by simp [scanF]
  | f + 1, i, l, acc => by
    rw [scanF]
    split
    · simp
    · split
      · simp
      · split
        · simp
        · rename_i k v m h
          have h1 := oneL_len h
          have h2 := scanF_len f (i + (skipL false l).1 + m) ((l.drop (skipL false l).1).drop m) (acc ++ [⟨k, v, ((i + (skipL false l).1 : Nat) : Int), (l.drop (skipL false l).1).take m⟩])
          simp only [List.length_append, List.length_cons, List.length_nil, List.length_drop] at h1 h2 ⊢
          omega
theorem scanL_len (l : List UInt8) : (scanL l).1.length ≤ 4000 := by
  unfold scanL
  split
  · simp
  · have := scanF_len (l.length + 1) 0 l []
    simp only [List.length_nil] at this
    omega

set_option maxRecDepth 100000 in
set_option maxHeartbeats 3200000 in
theorem lexScans_any (s : ByteArray) (w : World) (hE : LEnv w) :
    Calls Tryd.prog 3 #[.string s] w fun e w' => e = .returned (.bool true) ∧ Below w.heap.size w w' := by
  obtain ⟨R, hR⟩ : ∃ R, scanL s.data.toList = R := ⟨_, rfl⟩
  have HR := Hid.out (p := Hid _) hR
  have hlen := scanL_len s.data.toList
  rw [hR] at hlen
  obtain ⟨l, c, t⟩ := R
  simp only at hlen
  clear hR
  go_enter Tryd.func3, Tryd.ntmps3
  go_wp2_with fail
  refine Calls.mono (scan_any s _ hE) ?_
  rintro e w1 ⟨⟨v, rfl, hown⟩, hb1⟩
  rw [HR.out] at hown ⊢
  obtain ⟨la, lc, rfl⟩ := hown.form
  have HO1 : Hid (OwnT w1 w.heap.size (.slice la l.length lc) l ∧ Below w.heap.size w w1) := ⟨hown, hb1⟩
  clear hown hb1
  go_wp2_with fail
  refine Calls.mono (rscan_any s _) ?_
  rintro e w2 ⟨⟨v, rfl, hown⟩, hb2⟩
  rw [HR.out] at hown ⊢
  obtain ⟨ma, mc, rfl⟩ := hown.form
  have hA := (Below.refl w1.heap.size w1).alloc (Nat.le_refl _) (.cells #[.int .i64 c, .int .i64 0, .int .i64 t] 25)
  have hx2 := (hb2.block w1.heap.size (by simp)).trans (heap_alloc_new w1 _)
  have p0 := box_cell (i := 0) hx2 rfl
  have p1 := box_cell (i := 1) hx2 rfl
  have p2 := box_cell (i := 2) hx2 rfl
  have hl2 : w1.heap.size < w2.heap.size := Nat.lt_of_lt_of_le (by simp) hb2.size
  have HO2 : Hid (OwnT w2 w.heap.size (.slice la l.length lc) l ∧ OwnT w2 (w1.heap.size + 1) (.slice ma l.length mc) l ∧ Below w.heap.size w w2) := by
    have h1 := hA.trans (hb2.mono (by simp))
    refine ⟨HO1.out.1.below h1, ?_, HO1.out.2.trans (h1.mono HO1.out.2.size)⟩
    have e : (w1.alloc (.cells #[.int .i64 c, .int .i64 0, .int .i64 t] 25)).heap.size = w1.heap.size + 1 := by simp
    rw [← e]; exact hown
  clear hown hb2 hA hx2
  go_wp2_with fail
  clear p0 p1 p2 hl2
  obtain ⟨V, hV⟩ : ∃ V, w2.alloc (.cells #[.int .i64 c, .int .i64 0, .int .i64 t] 25) = V := ⟨_, rfl⟩
  have HV : Hid (OwnT V w.heap.size (.slice la l.length lc) l ∧ OwnT V (w1.heap.size + 1) (.slice ma l.length mc) l ∧ Below w.heap.size w V) := by
    show _ ∧ _
    rw [← hV]
    have h1 := (Below.refl w2.heap.size w2).alloc (Nat.le_refl _) (.cells #[.int .i64 c, .int .i64 0, .int .i64 t] 25)
    exact ⟨HO2.out.1.below h1, HO2.out.2.1.below h1, HO2.out.2.2.trans (h1.mono HO2.out.2.2.size)⟩
  try rw [hV]
  clear hV
  go_loopw [7] (fun i wr => ∃ k : Nat, k ≤ l.length ∧ i = .int .i64 (k : Int) ∧ Hid (Below V.heap.size V wr)) (fun i _ => l.length - (intOf i).toNat)
  case atStart => exact ⟨0, Nat.zero_le _, rfl, Below.refl _ _⟩
  case round =>
    obtain ⟨k, hk, rfl, HW⟩ := hrel
    by_cases hlt : k < l.length
    · obtain ⟨g1, rfl, a0, a1, a2, a3⟩ := (HV.out.1.below HW.out).cells hlt
      obtain ⟨g2, rfl, b0, b1, b2, b3⟩ := (HV.out.2.1.below HW.out).cells hlt
      obtain ⟨x, hx⟩ : ∃ x, l.getD k tok0 = x := ⟨_, rfl⟩
      rw [hx] at a0 a1 a2 a3 b0 b1 b2 b3
      have hlt' : (k : Int) < (l.length : Int) := by omega
      go_wp2_with fail
      go_quiet (fail)
      go_wp2_with fail
      go_roundw
      case rel => exact ⟨k + 1, by omega, by go_num, below_drewN HW.out⟩
      case measure => simp [intOf]; omega
    · have hlt' : ¬ (k : Int) < (l.length : Int) := by omega
      go_wp2
      go_ret
      exact ⟨rfl, HV.out.2.2.trans (HW.out.mono HV.out.2.2.size)⟩

end Go.Proofs.YtmodiekhiebjoadDoor
