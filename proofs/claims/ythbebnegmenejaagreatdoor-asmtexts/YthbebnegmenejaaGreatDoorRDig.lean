/-
  What the document's Digits does.
-/
import Derived.Test.YthbebnegmenejaaGreatDoorTextL
import Derived.Test.YthbebnegmenejaaGreatDoorNum
import Derived.Laws.IdiomStrings
namespace Go.Proofs.YthbebnegmenejaaGreatDoor
open Go.RowKit

theorem tm_neg (u : Nat) : (-(u : Int)).tmod 10 = -((u % 10 : Nat) : Int) := by rw [Int.neg_tmod]; rfl
theorem td_neg (u : Nat) : (-(u : Int)).tdiv 10 = -((u / 10 : Nat) : Int) := by rw [Int.neg_tdiv]; rfl
theorem tm_pos (u : Nat) : (u : Int).tmod 10 = ((u % 10 : Nat) : Int) := rfl
theorem td_pos (u : Nat) : (u : Int).tdiv 10 = ((u / 10 : Nat) : Int) := rfl
theorem one_byte (w : World) (d : Nat) (hd : d ≤ 9) (x : Int) (hx : x = 48 + (d : Int)) : (convert 39 9 (.slice (some ⟨w.heap.size, 0, none⟩) 1 1)).run Tryz.prog (w.alloc (.cells #[.int .u8 x] 5)) = .ok (.string ⟨#[UInt8.ofNat (48 + d)]⟩) (w.alloc (.cells #[.int .u8 x] 5)) := by
  refine run_convert_bytes_back (w.alloc (.cells #[.int .u8 x] 5)) 39 9 5 ⟨w.heap.size, 0, none⟩ 1 [UInt8.ofNat (48 + d)] Tryz.underlying39 Tryz.underlying5 Tryz.underlying9 ?_
  intro j hj
  obtain rfl : j = 0 := by simpa using hj
  have e : (UInt8.ofNat (48 + d)).toNat = 48 + d := by
    have key : ∀ d : Nat, d ≤ 9 → (UInt8.ofNat (48 + d)).toNat = 48 + d := by decide
    exact key d hd
  show (w.alloc (.cells #[.int .u8 x] 5)).cell? ((⟨w.heap.size, 0, none⟩ : Addr).add 0) = some (.int .u8 ((UInt8.ofNat (48 + d)).toNat : Int))
  rw [e, hx]
  simp [Addr.add]
theorem app_list (a b : ByteArray) : (a ++ b).data.toList = a.data.toList ++ b.data.toList := by
  simp [ByteArray.data_append]
theorem byte_add (d : Nat) (hd : d ≤ 9) : (⟨#[48 + UInt8.ofNat d]⟩ : ByteArray) = ⟨#[UInt8.ofNat (48 + d)]⟩ := by
  have key : ∀ d : Nat, d ≤ 9 → 48 + UInt8.ofNat d = UInt8.ofNat (48 + d) := by decide
  rw [key d hd]
theorem ret_str {b : ByteArray} {l : List UInt8} (h : b.data.toList = l) : Ending.returned (.string b) = .returned (.string ⟨l.toArray⟩) := by
  rw [← h]
/-- What is left, and what is written. -/
def DigI (N u : Nat) (l : List UInt8) : Prop := u ≤ N ∧ Lib.decDigits N = (if u = 0 then [] else Lib.decDigits u) ++ l
theorem DigI.step {N u : Nat} {l : List UInt8} (h : DigI N u l) (hu : u ≠ 0) : DigI N (u / 10) (UInt8.ofNat (48 + u % 10) :: l) := by
  refine ⟨by have := h.1; omega, ?_⟩
  rw [h.2, if_neg hu]
  by_cases h10 : u < 10
  · rw [if_pos (by omega), Lib.decDigits, dif_pos h10, show u % 10 = u by omega]; simp
  · rw [if_neg (by omega), Lib.decDigits, dif_neg h10]; simp
theorem DigI.len {N u : Nat} {l : List UInt8} (h : DigI N u l) (hN : N < 10 ^ 20) : l.length ≤ 20 := by
  have h1 : (Lib.decDigits N).length ≤ 20 := by
    have key : ∀ (k u : Nat), u < 10 ^ (k + 1) → (Lib.decDigits u).length ≤ k + 1 := by
      intro k
      induction k with
      | zero => intro u h; rw [Lib.decDigits, dif_pos (by simpa using h)]; simp
      | succ k ih =>
        intro u h
        rw [Lib.decDigits]
        split
        · simp
        · have := ih (u / 10) (by rw [Nat.pow_succ] at h; omega)
          simp only [List.length_append, List.length_cons, List.length_nil]
          omega
    exact key 19 N hN
  rw [h.2, List.length_append] at h1
  omega

set_option maxRecDepth 100000 in
set_option maxHeartbeats 1600000 in
theorem digits_neg (N : Nat) (hN : 1 ≤ N) (HN : Hid (N ≤ 9223372036854775808)) (w : World) :
    Calls Tryz.prog 29 #[.int .i64 (-(N : Int))] w fun e w' => e = .returned (.string ⟨(Lib.itoa (-(N : Int))).toArray⟩) ∧ Below w.heap.size w w' := by
  have h0 : (-(N : Int) == 0) = false := by simp; omega
  have h1 : -(N : Int) < 0 := by omega
  go_enter Tryz.func29, Tryz.ntmps29
  go_wp2
  go_loopw [0, 3] (fun m s wr => ∃ (u : Nat) (l : ByteArray), m = .int .i64 (-(u : Int)) ∧ s = .string l ∧ Below w.heap.size w wr ∧ Hid (DigI N u l.data.toList)) (fun m _ _ => (intOf m).natAbs)
  case atStart => exact ⟨N, ⟨#[]⟩, rfl, rfl, Below.refl _ _, ⟨Nat.le_refl _, by rw [if_neg (by omega)]; simp⟩⟩
  case round =>
    obtain ⟨u, l, rfl, rfl, hbr, HI⟩ := hrel
    have hls : l.size ≤ 20 := by rw [Lib.size_eq]; exact HI.out.len (by have := HN.out; omega)
    by_cases hu : u = 0
    · subst hu
      have h2 : ((-((0 : Nat) : Int)) != 0) = false := by decide
      go_wp2
      go_ret
      refine ⟨?_, hbr⟩
      have e : Lib.itoa (-(N : Int)) = 45 :: l.data.toList := by
        unfold Lib.itoa
        rw [if_pos h1, show (-(N : Int)).natAbs = N by omega, HI.out.2]
        simp
      rw [e]
      exact ret_str (by rw [app_list]; rfl)
    · have h2 : (-(u : Int) != 0) = true := by simp; omega
      obtain ⟨d, hd⟩ : ∃ d, u % 10 = d := ⟨_, rfl⟩
      have hd9 : d ≤ 9 := by omega
      have t1 := tm_neg u
      have t2 := td_neg u
      rw [hd] at t1
      obtain ⟨q, hq⟩ : ∃ q, u / 10 = q := ⟨_, rfl⟩
      rw [hq] at t2
      have HQ : Hid (u / 10 = q ∧ u % 10 = d ∧ u ≠ 0) := ⟨hq, hd, hu⟩
      have hub : q ≤ 1000000000000000000 := by have := HN.out; have := HI.out.1; omega
      clear hq hd hu
      have hby := one_byte wr d hd9 (48 + (d : Int)) rfl
      by_cases hz : d = 0
      · subst hz
        have hb0 := one_byte wr 0 (by omega) 48 rfl
        clear hby
        go_wp2
        go_roundw
        case rel =>
          refine ⟨q, _, rfl, rfl, hbr.alloc hbr.size _, ?_⟩
          have := HI.out.step HQ.out.2.2
          rw [HQ.out.1, HQ.out.2.1] at this
          show DigI _ _ _
          rw [app_list]
          exact this
        case measure => simp [intOf]; have := HQ.out; omega
      · have hn : -(d : Int) < 0 := by omega
        go_wp2
        go_roundw
        case rel =>
          refine ⟨q, _, rfl, rfl, hbr.alloc hbr.size _, ?_⟩
          have := HI.out.step HQ.out.2.2
          rw [HQ.out.1, HQ.out.2.1] at this
          show DigI _ _ _
          rw [app_list, byte_add d hd9]
          exact this
        case measure => simp [intOf]; have := HQ.out; omega

set_option maxRecDepth 100000 in
set_option maxHeartbeats 1600000 in
theorem digits_pos (N : Nat) (hN : 1 ≤ N) (HN : Hid (N ≤ 9223372036854775807)) (w : World) :
    Calls Tryz.prog 29 #[.int .i64 (N : Int)] w fun e w' => e = .returned (.string ⟨(Lib.itoa (N : Int)).toArray⟩) ∧ Below w.heap.size w w' := by
  have h0 : ((N : Int) == 0) = false := by simp; omega
  have h1 : ¬ (N : Int) < 0 := by omega
  go_enter Tryz.func29, Tryz.ntmps29
  go_wp2
  go_loopw [0, 3] (fun m s wr => ∃ (u : Nat) (l : ByteArray), m = .int .i64 (u : Int) ∧ s = .string l ∧ Below w.heap.size w wr ∧ Hid (DigI N u l.data.toList)) (fun m _ _ => (intOf m).natAbs)
  case atStart => exact ⟨N, ⟨#[]⟩, rfl, rfl, Below.refl _ _, ⟨Nat.le_refl _, by rw [if_neg (by omega)]; simp⟩⟩
  case round =>
    obtain ⟨u, l, rfl, rfl, hbr, HI⟩ := hrel
    have hls : l.size ≤ 20 := by rw [Lib.size_eq]; exact HI.out.len (by have := HN.out; omega)
    by_cases hu : u = 0
    · subst hu
      have h2 : (((0 : Nat) : Int) != 0) = false := by decide
      go_wp2
      go_ret
      refine ⟨?_, hbr⟩
      have e : Lib.itoa (N : Int) = l.data.toList := by
        unfold Lib.itoa
        rw [if_neg (by omega), Int.toNat_natCast, HI.out.2]
        simp
      rw [e]
      exact ret_str rfl
    · have h2 : ((u : Int) != 0) = true := by simp; omega
      obtain ⟨d, hd⟩ : ∃ d, u % 10 = d := ⟨_, rfl⟩
      have hd9 : d ≤ 9 := by omega
      have t1 := tm_pos u
      have t2 := td_pos u
      rw [hd] at t1
      obtain ⟨q, hq⟩ : ∃ q, u / 10 = q := ⟨_, rfl⟩
      rw [hq] at t2
      have HQ : Hid (u / 10 = q ∧ u % 10 = d ∧ u ≠ 0) := ⟨hq, hd, hu⟩
      have hub : q ≤ 1000000000000000000 := by have := HN.out; have := HI.out.1; omega
      clear hq hd hu
      have hby := one_byte wr d hd9 (48 + (d : Int)) rfl
      by_cases hz : d = 0
      · subst hz
        have hb0 := one_byte wr 0 (by omega) 48 rfl
        clear hby
        go_wp2
        go_roundw
        case rel =>
          refine ⟨q, _, rfl, rfl, hbr.alloc hbr.size _, ?_⟩
          have := HI.out.step HQ.out.2.2
          rw [HQ.out.1, HQ.out.2.1] at this
          show DigI _ _ _
          rw [app_list]
          exact this
        case measure => simp [intOf]; have := HQ.out; omega
      · have hn : ¬ (d : Int) < 0 := by omega
        go_wp2
        go_roundw
        case rel =>
          refine ⟨q, _, rfl, rfl, hbr.alloc hbr.size _, ?_⟩
          have := HI.out.step HQ.out.2.2
          rw [HQ.out.1, HQ.out.2.1] at this
          show DigI _ _ _
          rw [app_list, byte_add d hd9]
          exact this
        case measure => simp [intOf]; have := HQ.out; omega

/-- The document's Digits. -/
theorem digits_any (n : Int) (hn : I64 n) (w : World) :
    Calls Tryz.prog 29 #[.int .i64 n] w fun e w' => e = .returned (.string ⟨(Lib.itoa n).toArray⟩) ∧ Below w.heap.size w w' := by
  rcases (by omega : n < 0 ∨ n = 0 ∨ 0 < n) with h | rfl | h
  · obtain ⟨N, rfl⟩ : ∃ N : Nat, n = -(N : Int) := ⟨n.natAbs, by omega⟩
    exact digits_neg N (by omega) (show N ≤ 9223372036854775808 by have := hn.1; omega) w
  · have e : Lib.itoa 0 = [48] := by simp [Lib.itoa, Lib.decDigits_one (show 0 < 10 by omega)]
    rw [e]
    go_enter Tryz.func29, Tryz.ntmps29
    go_wp2
    go_ret
    exact ⟨rfl, Below.refl _ _⟩
  · obtain ⟨N, rfl⟩ : ∃ N : Nat, n = (N : Int) := ⟨n.toNat, by omega⟩
    exact digits_pos N (by omega) (show N ≤ 9223372036854775807 by have := hn.2; omega) w

end Go.Proofs.YthbebnegmenejaaGreatDoor
