/-
  A space that is being begun: its heads, one behind the other.
  All that can be come to, as the document goes through it: what holds between two steps, and what put and Put make of it.
  The document's Check as one contract.
  How vast a program is.
  The law of programs with a fence behind each store, for every program.
-/
import Derived.Test.YtgofbkgfonlceacRDoW
import Derived.Test.YtgofbkgfonlceacRunP
import Derived.Test.YtgofbkgfonlceacCheckR2
import Derived.Test.YtgofbkgfonlceacInProg
import Derived.Test.YtgofbkgfonlceacFFull2
import Derived.Test.YtgofbkgfonlceacFenL
import Derived.Test.YtgofbkgfonlceacSameI
import Derived.Test.YtgofbkgfonlceacAppB
import Derived.Deep.QuietTactic
import Derived.BigQuiet
import Derived.BigRegion
import Derived.Test.YtgofbkgfonlceacPChk
import Derived.Deep.RegionHeld3
namespace Go.Proofs.Ytgofbkgfonlceac
section
open Go.RowKit

/-- A space of nothing. -/
def d0 : Sd := ⟨[], [], [], nilV, false⟩
end

section
open Go.RowKit

section
variable {ι : Type} {w w' : World} {vf vf' : ι → Value}
end
/-- A program, and the state ahead of its first step. -/
structure Bc where
  P : Pg
  A : Nat → Option Addr
  L : Nat → Nat
  C : Nat → Nat
  X : Nat → Nat → Nat → Int
  m : Nat
  lk : Nat
  rg : Nat
  s0 : Sx
section
variable {c : Bc} {w0 W w' : World} {pb : Nat} {v : Sr → Value} {d : Sd} {ea : Option Addr} {ec : Nat} {es : List En} {i N : Nat}
end
end

section
open Go.RowKit

/-- The document's Check, of every program that lies in memory. -/
theorem rcheck_any (ca : Option Addr) (n cc : Nat) (wa : Option Addr) (m wc : Nat) (lk rg : Int) (A : Nat → Option Addr) (L C : Nat → Nat) (X : Nat → Nat → Nat → Int) (x y z : Int) (HR : Hid (chk n L X m lk rg = (x, y, z))) (w : World) (hp : PIn w ca n A L C X) :
    Calls Try.prog 9 #[prgV ca n cc wa m wc lk rg] w fun e w' => e = .returned (ints3 x y z) ∧ Below w.heap.size w w' := by
  have h := HR.out
  unfold chk sizesE at h
  by_cases h1 : (n : Int) < 1 ∨ 4 < (n : Int) ∨ 64 < (m : Int)
  · simp only [h1, if_true] at h
    simp at h
    obtain ⟨rfl, rfl, rfl⟩ := h
    exact rcheck_size ca n cc wa m wc lk rg h1 w
  · by_cases h2 : lk < 0 ∨ 4 < lk ∨ rg < 1 ∨ 200 < rg
    · simp only [h1, h2, if_true, if_false] at h
      simp at h
      obtain ⟨rfl, rfl, rfl⟩ := h
      exact rcheck_range ca n cc wa m wc lk rg (by omega) (by omega) h2 w
    · simp only [h1, h2, if_false, ne_eq, not_true_eq_false] at h
      exact rcheck_go ca n cc wa m wc lk rg A L C X x y z (by omega) (by omega) (by omega) (by omega) h w hp
end

section
open Go.RowKit

/-- It answers yes or no. -/
def IsBool (e : Ending) : Prop := ∃ b, e = .returned (.bool b)

set_option maxHeartbeats 1000000 in
theorem vast_any (ca : Option Addr) (n cc : Nat) (wa : Option Addr) (m wc : Nat) (lk rg : Int) (A : Nat → Option Addr) (L C : Nat → Nat) (X : Nat → Nat → Nat → Int) (_hm : m ≤ 9223372036854775807) (w : World) (hp : PIn w ca n A L C X) :
    Calls Try.prog 6 #[prgV ca n cc wa m wc lk rg] w fun e w' => IsBool e ∧ Below w.heap.size w w' := by
  have hn := hp.num
  have HB : Below w.heap.size w (w.alloc (.cells #[.slice ca n cc, .slice wa m wc, .int .i64 lk, .int .i64 rg] 25)) := (Below.refl _ _).alloc (Nat.le_refl _) _
  have hp2 := hp.below HB
  clear hp
  go_enter Try.func6, Try.ntmps6
  go_wp2
  go_loop [3, 4] (fun s i => ∃ (q : Int) (k : Nat), k ≤ n ∧ s = .int .i64 q ∧ i = .int .i64 k) (fun _ i => n - (intOf i).toNat)
  case atStart => exact ⟨_, 0, Nat.zero_le _, rfl, rfl⟩
  case round =>
    obtain ⟨q, k, hk, rfl, rfl⟩ := hrel
    by_cases hlt : k < n
    · obtain ⟨cb, co, rfl, hcell⟩ := hp2.code k hlt
      have hl := hp2.len k hlt
      by_cases h100 : (k : Int) < 100
      · go_wp2
        go_round
        case rel => exact ⟨_, k + 1, by omega, rfl, by go_num⟩
        case measure => simp [intOf]; omega
      · go_wp2
        all_goals go_ret
        all_goals exact ⟨⟨_, rfl⟩, HB⟩
    · go_wp2
      all_goals go_ret
      all_goals exact ⟨⟨_, rfl⟩, HB⟩
end

section
open Go.RowKit

theorem sis_own {w : World} {B : Nat} {a : Option Addr} {c : Nat} {l : List Int} (h : w.ownsRow B 3 1 (.slice a l.length c) l.length (intsV l)) : SIs w a l := fun k hk => by
  obtain ⟨g, cap, e, hg, _⟩ := fam_block h (by omega)
  simp only [Value.slice.injEq] at e
  refine ⟨g, 0, e.1, ?_⟩
  rw [Nat.zero_add]
  exact fam_cell h hg (intsV_at hk)
end

end Go.Proofs.Ytgofbkgfonlceac
