/-
  Two programs that were made anew are the same; a program that is some.
-/
import Derived.Test.YtefnmbnakphhfadNewC
import Derived.Test.YtefnmbnakphhfadSameA
import Derived.Test.YtefnmbnakphhfadInProg
import Derived.Test.YtefnmbnakphhfadAppB
import Derived.Test.YtefnmbnakphhfadRunP
namespace Go.Proofs.Ytefnmbnakphhfad
open Go.RowKit

/-- A program that was made anew lies in memory. -/
def MkP (b : Nat → Nat → List I4) (n : Nat) (L : Nat → Nat) (words : List Int) (V : World) (va ua : Option Addr) : Prop := (∃ A C, PIn V va n A (lenR b L) C (numR b L)) ∧ SIs V ua words
theorem mk_new {W U : World} {n : Nat} {words : List Int} {lk rg : Int} {b : Nat → Nat → List I4} {L : Nat → Nat} {va : Option Addr} {vc : Nat} {ua : Option Addr} {uc : Nat} (hN : NewQ W n words lk rg b L (.returned (.agg #[.slice va n vc, .slice ua words.length uc, .int .i64 lk, .int .i64 rg])) U) (hn : n ≤ 4) (hl : ∀ t, t < n → lenR b L t ≤ 1000000) : MkP b n L words U va ua := by
  obtain ⟨va', vc', ua', uc', tv, he, h1, h2, h3, _⟩ := hN
  simp only [Ending.returned.injEq, Value.agg.injEq, Array.mk.injEq, List.cons.injEq, Value.slice.injEq, true_and, and_true] at he
  obtain ⟨⟨rfl, rfl⟩, rfl, rfl⟩ := he
  obtain ⟨ca', cc', A', C', e1, hpin⟩ := new_pin h1 h2 (by omega) hl
  simp only [Value.slice.injEq, true_and] at e1
  obtain ⟨rfl, rfl⟩ := e1
  exact ⟨⟨A', C', hpin⟩, sis_own h3⟩
theorem mk_same {b : Nat → Nat → List I4} {n : Nat} {L : Nat → Nat} {words : List Int} {V : World} {va ua va' ua' : Option Addr} {vc uc vc' uc' : Nat} {lk rg : Int} (hm : words.length ≤ 64) (h : MkP b n L words V va ua) (h' : MkP b n L words V va' ua') :
    Calls Try.prog 9 #[.agg #[.slice va n vc, .slice ua words.length uc, .int .i64 lk, .int .i64 rg], .agg #[.slice va' n vc', .slice ua' words.length uc', .int .i64 lk, .int .i64 rg]] V fun e w' => e = .returned (.bool true) ∧ Below V.heap.size V w' := by
  obtain ⟨⟨A, C, hp⟩, hs⟩ := h
  obtain ⟨⟨A', C', hp'⟩, hs'⟩ := h'
  exact same_any va n vc ua words.length uc lk rg A (lenR b L) C (numR b L) va' vc' ua' uc' A' C' (fun i => words.getD i 0) (by omega) V hp hp' hs hs'

end Go.Proofs.Ytefnmbnakphhfad
