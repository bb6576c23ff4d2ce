/-
  A region that draws its order, in a round of a range over a function: loads that are held are taken first.
-/
import Derived.Test.YtocfocjnnjdcgaaDoorRndQ
import Derived.Deep.RegionHeld
namespace Go.Proofs.YtocfocjnnjdcgaaDoor
open Go.RowKit

section
variable {lp n : Nat} {P : Program} {ops : Array Oper} {Q : Exit → Act → World → Prop}
theorem upon_wide {o : Oper} {a : Act} {next : Act → World → Prop} {r : Result Next} (h : o.upon P a next Q r) : o.uponIn Fence.wide n P a next Q r := by
  cases r with
  | ok x w =>
    cases x with
    | value v => exact h
    | skip => exact h
    | defer d => exact h
    | enter f args => exact ⟨fun e => absurd e (by decide), callsIn_wide.2 h⟩
    | row row args => exact ⟨fun e => absurd e (by decide), fun c cs _ => let ⟨v, w', r, s⟩ := h c cs; ⟨v, w', r, stepsIn_wide.2 s⟩⟩
    | round l f tmps assign body => exact h.elim
    | _ => exact h
  | halt x w => cases x <;> exact h
theorem ops_wide (hno : ¬ LetsOut Q) : ∀ (l : List Nat) (a : Act) (w : World), wpOps P ops Q l a w → wpOpsIn Fence.wide n P ops Q l a w
  | [], _, _, h => h
  | i :: rest, a, w, h => by
    rw [wpOps] at h
    rw [wpOpsIn]
    cases ho : ops[i]? with
    | none =>
      rw [ho] at h
      exact ops_wide hno rest a w h
    | some o =>
      rw [ho] at h
      simp only at h ⊢
      split
      · rename_i hw
        rw [if_pos hw] at h
        rcases h with h | h
        · have h2 : o.wpIn Fence.wide n P a w (wpOps P ops Q rest) Q := ⟨fun _ _ => trivial, upon_wide h⟩
          exact Oper.wpIn_mono (fun a w => ops_wide hno rest a w) h2
        · exact absurd h.2 hno
      · rename_i hw
        rw [if_neg hw] at h
        exact ⟨fun _ _ => trivial, ops_wide hno rest _ w h⟩
theorem region_held_round {id : Nat} {a : Act} {w : World} {l : List Oper} {S : World → Prop} (hd : l.all noDef = true) (hm : P.follows .mixedOrders = true) (hno : ¬ LetsOut Q) (hS : S w.drew)
    (h : S w.drew → wpAnyH P .any l.toArray Q S l.toArray.size (Array.replicate l.toArray.size false) a w.drew) : (Code.region id l.toArray true).wpIn (Fence.wide.inRound lp) n P Q a w := by
  have hd2 : ∀ (i : Nat) (o : Oper), l.toArray[i]? = some o → ∀ c, o.op ≠ Op.defer c := fun i o ho c hc => by
    have hm := List.mem_of_getElem? (by simpa using ho : l[i]? = some o)
    have := List.all_eq_true.1 hd o hm
    unfold noDef at this
    rw [hc] at this
    cases this
  refine wpIn_region_draw fun t => ops_round hd2 _ _ _ (ops_wide hno _ _ _ ?_)
  simp only [Region.schedule, hm, Bool.true_or, if_true]
  exact wpAny_sound _ t _ a _ (wpAny_of_held _ _ _ _ (h hS))
end

end Go.Proofs.YtocfocjnnjdcgaaDoor
