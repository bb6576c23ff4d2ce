/-
  How vast a program is, by a third text.
-/
import Derived.Test.YtocfocjnnjdcgaaDoorVast
namespace Go.Proofs.YtocfocjnnjdcgaaDoor
open Go.RowKit

set_option maxHeartbeats 1000000 in
theorem kvast_any (ca : Option Addr) (n cc : Nat) (wa : Option Addr) (m wc : Nat) (lk rg : Int) (A : Nat → Option Addr) (L C : Nat → Nat) (X : Nat → Nat → Nat → Int) (_hm : m ≤ 9223372036854775807) (w : World) (hp : PIn w ca n A L C X) :
    Calls Tryd.prog 17 #[prgV ca n cc wa m wc lk rg] w fun e w' => IsBool e ∧ Below w.heap.size w w' := by
  have hn := hp.num
  have HB : Below w.heap.size w (w.alloc (.cells #[.slice ca n cc, .slice wa m wc, .int .i64 lk, .int .i64 rg] 25)) := (Below.refl _ _).alloc (Nat.le_refl _) _
  have hp2 := hp.below HB
  clear hp
  go_enter Tryd.func17, Tryd.ntmps17
  go_wp2
  go_loop [3, 4] (fun s i => ∃ (q : Int) (k : Nat), k ≤ n ∧ s = .int .i64 q ∧ i = .int .i64 k) (fun _ i => n - (intOf i).toNat)
  case atStart => exact ⟨_, 0, Nat.zero_le _, rfl, rfl⟩
  case round =>
    obtain ⟨q, k, hk, rfl, rfl⟩ := hrel
    by_cases hlt : k < n
    · obtain ⟨cb, co, rfl, hcell⟩ := hp2.code k hlt
      have hl := hp2.len k hlt
      by_cases h100 : (k : Int) < 100
      · go_wp2
        go_round
        case rel => exact ⟨_, k + 1, by omega, rfl, by go_num⟩
        case measure => simp [intOf]; omega
      · go_wp2
        all_goals go_ret
        all_goals exact ⟨⟨_, rfl⟩, HB⟩
    · go_wp2
      all_goals go_ret
      all_goals exact ⟨⟨_, rfl⟩, HB⟩


end Go.Proofs.YtocfocjnnjdcgaaDoor
