/-
  How vast a program is.
-/
import Derived.Test.YtocfocjnnjdcgaaDoorInProg
namespace Go.Proofs.YtocfocjnnjdcgaaDoor
open Go.RowKit

/-- It answers yes or no. -/
def IsBool (e : Ending) : Prop := ∃ b, e = .returned (.bool b)

set_option maxHeartbeats 1000000 in
theorem vast_any (ca : Option Addr) (n cc : Nat) (wa : Option Addr) (m wc : Nat) (lk rg : Int) (A : Nat → Option Addr) (L C : Nat → Nat) (X : Nat → Nat → Nat → Int) (_hm : m ≤ 9223372036854775807) (w : World) (hp : PIn w ca n A L C X) :
    Calls Tryd.prog 7 #[prgV ca n cc wa m wc lk rg] w fun e w' => IsBool e ∧ Below w.heap.size w w' := by
  have hn := hp.num
  have HB : Below w.heap.size w (w.alloc (.cells #[.slice ca n cc, .slice wa m wc, .int .i64 lk, .int .i64 rg] 25)) := (Below.refl _ _).alloc (Nat.le_refl _) _
  have hp2 := hp.below HB
  clear hp
  go_enter Tryd.func7, Tryd.ntmps7
  go_wp2
  go_loop [3, 4] (fun s i => ∃ (q : Int) (k : Nat), k ≤ n ∧ s = .int .i64 q ∧ i = .int .i64 k) (fun _ i => n - (intOf i).toNat)
  case atStart => exact ⟨_, 0, Nat.zero_le _, rfl, rfl⟩
  case round =>
    obtain ⟨q, k, hk, rfl, rfl⟩ := hrel
    by_cases hlt : k < n
    · obtain ⟨cb, co, rfl, hcell⟩ := hp2.code k hlt
      have hl := hp2.len k hlt
      by_cases h100 : (k : Int) < 100
      · go_wp2
        go_round
        case rel => exact ⟨_, k + 1, by omega, rfl, by go_num⟩
        case measure => simp [intOf]; omega
      · go_wp2
        all_goals go_ret
        all_goals exact ⟨⟨_, rfl⟩, HB⟩
    · go_wp2
      all_goals go_ret
      all_goals exact ⟨⟨_, rfl⟩, HB⟩

theorem box_below {w w' : World} {c : Array Value} {t : TypeId} {i : Nat} {v : Value} (hb : Below (w.alloc (.cells c t)).heap.size (w.alloc (.cells c t)) w') (h : c[i]? = some v) : w'.cell? ⟨w.heap.size, i, none⟩ = some v := by
  rw [hb.cell (p := ⟨w.heap.size, i, none⟩) (by simp), World.cell?_alloc_new, h]

end Go.Proofs.YtocfocjnnjdcgaaDoor
