/-
  What is live in the program of two threads that a statement runs by itself; whether two lists are the same, by the third set of statements.
-/
import Derived.Test.YtocfocjnnjdcgaaDoorKBuf0
import Derived.Test.YtocfocjnnjdcgaaDoorIntsS
import Derived.Test.YtocfocjnnjdcgaaDoorLivK
namespace Go.Proofs.YtocfocjnnjdcgaaDoor
open Go.RowKit

set_option maxHeartbeats 800000 in
theorem kintsS (a a' : Option Addr) (n c c' : Nat) (hn : n ≤ 9223372036854775807) (X : Nat → Int) (w : World) (h : IIn w a n X) (h' : IIn w a' n X) :
    Calls Tryd.prog 16 #[.slice a n c, .slice a' n c'] w fun e w' => e = .returned (.bool true) ∧ Below w.heap.size w w' := by
  go_enter Tryd.func16, Tryd.ntmps16
  go_wp2
  go_loopw [5] (fun i wr => ∃ k : Nat, k ≤ n ∧ i = .int .i64 k ∧ Below w.heap.size w wr) (fun i _ => n - (intOf i).toNat)
  case atStart => exact ⟨0, Nat.zero_le _, rfl, Below.refl _ _⟩
  case round =>
    obtain ⟨k, hk, rfl, hbr⟩ := hrel
    by_cases hlt : k < n
    · obtain ⟨b, o, rfl, hc⟩ := h.below hbr k hlt
      obtain ⟨b', o', rfl, hc'⟩ := h'.below hbr k hlt
      go_wp2
      go_region
      all_goals go_wp2
      all_goals go_roundw
      case rel => exact ⟨k + 1, by omega, by go_num, hbr.drew⟩
      case measure => simp [intOf]; omega
    · go_wp2
      go_ret
      exact ⟨rfl, hbr⟩

theorem buf_next {r i : Nat} (hi : i < 4) : Bh (bufX 0) 4 r i ↔ Lv (bufX 0) 4 r (i + 1) := by
  have e : nxP (bufX 0) i = [i + 1] := by
    match i, hi with
    | 0, _ => rfl
    | 1, _ => rfl
    | 2, _ => rfl
    | 3, _ => rfl
  unfold Bh
  rw [e]
  simp
theorem buf_lv1 {r : Nat} : Lv (bufX 0) 4 r 1 ↔ r = 0 := by
  have h4 : ¬ Lv (bufX 0) 4 r 4 := fun h => by have := h.lt; omega
  have h3 : Lv (bufX 0) 4 r 3 ↔ (r : Int) = 1 := by
    rw [lv_iff (by omega), buf_next (by omega), show rdX (bufX 0) 3 = [1] from rfl]
    simp [h4]
  have h2 : ¬ Lv (bufX 0) 4 r 2 := by
    rw [lv_iff (by omega), buf_next (by omega), h3, show rdX (bufX 0) 2 = [] from rfl, show wrX (bufX 0) 2 = 1 from rfl]
    rintro (h | ⟨h, e⟩)
    · cases h
    · exact h e.symm
  rw [lv_iff (by omega), buf_next (by omega), show rdX (bufX 0) 1 = [0] from rfl]
  simp [h2]
theorem buf_lv0 {r : Nat} : ¬ Lv (bufX 0) 4 r 0 := by
  rw [lv_iff (by omega), buf_next (by omega), buf_lv1, show rdX (bufX 0) 0 = [] from rfl, show wrX (bufX 0) 0 = 0 from rfl]
  rintro (h | ⟨h, e⟩)
  · cases h
  · subst e; exact h rfl
theorem lst_none {p : Nat → Bool} {n : Nat} (h : ∀ r, r < n → p r = false) : lstP p n = [] := by
  rw [lstP_same (q := fun _ => false) h]
  unfold lstP
  simp
theorem lst_zero {p : Nat → Bool} (h : ∀ r, r < 256 → (p r = true ↔ r = 0)) : lstP p 256 = [0] := by
  rw [lstP_same (q := fun r => decide (r = 0)) (fun r hr => by
    have := h r hr
    cases hp : p r with
    | true => simp [this.1 hp]
    | false => by_cases e : r = 0
               · have := this.2 e; simp_all
               · simp [e])]
  decide +kernel
/-- What is told of its first thread. -/
theorem buf_tells {S : Nat → Nat → Nat} (h : ∀ i r, has (S i) r = true ↔ Lv (bufX 0) 4 r i) : (tellS S 5).length = 5 ∧ (tellS S 5).getD 0 [] = [] ∧ (tellS S 5).getD 1 [] = [0] := by
  refine ⟨tellS_len S 5, ?_, ?_⟩
  · rw [tellS_at (by omega)]
    exact lst_none fun r _ => by
      have := mt (h 0 r).1 buf_lv0
      simpa using this
  · rw [tellS_at (by omega)]
    exact lst_zero fun r _ => by rw [h 1 r]; exact buf_lv1
/-- Behind the last order nothing is live. -/
theorem last_none {X : Nat → Nat → Int} {l : Nat} {S : Nat → Nat → Nat} (h : ∀ i r, has (S i) r = true ↔ Lv X l r i) : (tellS S (l + 1)).getD l [] = [] := by
  rw [tellS_at (by omega)]
  exact lst_none fun r _ => by
    have := mt (h l r).1 (fun h => Nat.lt_irrefl _ h.lt)
    simpa using this
/-- Who clashes is clashed with, never with itself, and both are registers. -/
theorem clash_mem {X : Nat → Nat → Int} {l rg m lk : Nat} {S : Nat → Nat → Nat} (hok : ∀ i, i < l → ordE rg m lk l (X i 0) (X i 1) (X i 2) (X i 3) = 0) (h : ∀ a b, has (S a) b = true ↔ Cl X l a b) {r : Nat} {x : Int} (hx : x ∈ lstP (has (S r)) 256) :
    ∃ s : Nat, x = (s : Int) ∧ s < rg ∧ s ≠ r ∧ ((r : Nat) < 256 → (r : Int) ∈ lstP (has (S s)) 256) := by
  obtain ⟨s, rfl, hs, hp⟩ := lstP_mem hx
  have hc := (h r s).1 hp
  exact ⟨s, rfl, (hc.reg hok).2, fun e => hc.1 e.symm, fun hr => lstP_in hr ((h s r).2 hc.symm)⟩

end Go.Proofs.YtocfocjnnjdcgaaDoor
