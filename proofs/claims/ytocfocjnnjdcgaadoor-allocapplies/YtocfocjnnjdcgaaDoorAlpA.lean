/-
  A table of words by thread and register.
-/
import Derived.Test.YtocfocjnnjdcgaaDoorAlcA
import Derived.Test.YtocfocjnnjdcgaaDoorRead
import Derived.DeepKeys4
import Derived.WideKeyMaps
import Derived.MapKept
namespace Go.Proofs.YtocfocjnnjdcgaaDoor
open Go.RowKit

/-- A register of a thread. -/
def ownKV (t r : Nat) : Value := .agg #[.int .i64 t, .int .i64 r]
theorem ownKV_inj {t r t' r' : Nat} (h : ownKV t r = ownKV t' r') : t = t' ∧ r = r' := by
  simp only [ownKV, Value.agg.injEq] at h
  have h1 := congrArg Array.toList h
  simp only [List.cons.injEq, Value.int.injEq, true_and, and_true] at h1
  exact ⟨by omega, by omega⟩
theorem own_law : WideMaps.KeyLaw Tryd.prog 101 := deep_law_laid Tryd.laidOut (m := 2) (by omega) (of_decide_eq_true (by kernel_rfl)) (by kernel_rfl) (by kernel_rfl)
theorem cells101 : Tryd.prog.cellsOf 101 = 2 := by kernel_rfl
theorem own_key (t r : Nat) (ht : t ≤ 1000000) (hr : r ≤ 1000000) : ∃ l, keyOf Tryd.prog 101 (ownKV t r) = some l := by
  have hk : Tryd.prog.keyType 101 = true := by kernel_rfl
  have h1 : (Lit.int .i64 (t : Int)).wf = true := WalkArith.wf_i64 (by omega)
  have h2 : (Lit.int .i64 (r : Int)).wf = true := WalkArith.wf_i64 (by omega)
  unfold keyOf
  simp only [Tryd.underlying101]
  rw [if_pos (by simp [hk, ownKV, Value.formed, Tryd.underlying101, cells101])]
  obtain ⟨m, hm⟩ : ∃ m, Tryd.prog.types.size = m + 1 := ⟨Tryd.prog.types.size - 1, by have : 0 < Tryd.prog.types.size := of_decide_eq_true (by kernel_rfl); omega⟩
  rw [hm]
  unfold Program.keyLits
  simp only [Tryd.underlying101]
  simp [ownKV, Value.cells, cells101, cells3, Program.keyLits, Tryd.underlying3, h1, h2]

/-- The entries tell the table F. -/
def WEs (es : Array MapEntry) (F : Nat → Nat → Option Nat) : Prop := (∀ e, e ∈ es.toList → ∃ t r v, t ≤ 1000000 ∧ r ≤ 1000000 ∧ e.key = ownKV t r ∧ e.val = .int .i64 (v : Nat) ∧ F t r = some v) ∧ ∀ t r v, F t r = some v → ∃ e, e ∈ es.toList ∧ e.key = ownKV t r
/-- A table of words in memory: k of them. -/
def WMap (W : World) (mb k : Nat) (F : Nat → Nat → Option Nat) : Prop := ∃ es c, W.heap[mb]? = some (.map es c) ∧ es.size = k ∧ WEs es F
theorem WMap.below {W V : World} {mb k : Nat} {F : Nat → Nat → Option Nat} (h : WMap W mb k F) (hb : Below W.heap.size W V) : WMap V mb k F := by
  obtain ⟨es, c, h1, h2, h3⟩ := h
  exact ⟨es, c, (hb.block _ (Array.getElem?_eq_some_iff.1 h1).1).trans h1, h2, h3⟩
theorem wmap_new (W : World) : WMap (W.alloc (.map #[] 0)) W.heap.size 0 fun _ _ => none := ⟨#[], 0, (MapKept.heap_alloc W _).1, rfl, fun e he => by simp at he, fun t r v h => by cases h⟩
theorem wmap_find {es : Array MapEntry} {F : Nat → Nat → Option Nat} (h : WEs es F) (W : World) {t r : Nat} (ht : t ≤ 1000000) (hr : r ≤ 1000000) :
    (Instr.checkKey es.isEmpty 10000 101 (ownKV t r)).run Tryd.prog W = .ok () W ∧ (Instr.checkKey false 10000 101 (ownKV t r)).run Tryd.prog W = .ok () W ∧ ((F t r = none ∧ (Instr.findKey 101 (ownKV t r) es.toList).run Tryd.prog W = .ok none W) ∨ ∃ v j, F t r = some v ∧ (Instr.findKey 101 (ownKV t r) es.toList).run Tryd.prog W = .ok (some (j, .int .i64 (v : Nat))) W) := by
  obtain ⟨l, hl⟩ := own_key t r ht hr
  refine ⟨own_law.check W _ hl, own_law.check W _ hl, ?_⟩
  have hall : ∀ e ∈ es.toList, ∃ l, keyOf Tryd.prog 101 e.key = some l := fun e he => by
    obtain ⟨t', r', v, h1, h2, h3, -⟩ := h.1 e he
    rw [h3]
    exact own_key t' r' h1 h2
  rcases own_law.find W hl es.toList hall with ⟨h1, h2⟩ | ⟨j, e, h1, h2, h3⟩
  · refine Or.inl ⟨?_, h1⟩
    rcases hF : F t r with _ | v
    · rfl
    · obtain ⟨e, he, hk⟩ := h.2 t r v hF
      exact absurd hk (h2 e he)
  · obtain ⟨t', r', v, -, -, h4, h5, h6⟩ := h.1 e (List.mem_of_getElem? h2)
    rw [h3] at h4
    obtain ⟨rfl, rfl⟩ := ownKV_inj h4
    rw [h5] at h1
    exact Or.inr ⟨v, j, h6, h1⟩
theorem wmap_look {W : World} {mb k : Nat} {F : Nat → Nat → Option Nat} (h : WMap W mb k F) {t r : Nat} (ht : t ≤ 1000000) (hr : r ≤ 1000000) :
    (Instr.lookup 73 (.map (some mb)) (ownKV t r) true).run Tryd.prog W = .ok (.tuple #[.int .i64 (((F t r).getD 0 : Nat) : Int), .bool (F t r).isSome]) W := by
  obtain ⟨es, c, hb, -, hE⟩ := h
  obtain ⟨hc, -, hf⟩ := wmap_find hE W ht hr
  have hz : (zeroValue 3).run Tryd.prog W = .ok (.int .i64 0) W := by kernel_rfl
  rcases hf with ⟨h1, h2⟩ | ⟨v, j, h1, h2⟩
  · simp [Instr.lookup, run_underlying Tryd.underlying73, MapKept.run_getObj_map hb, hc, hz, h2, h1, Result.andThen]
  · simp [Instr.lookup, run_underlying Tryd.underlying73, MapKept.run_getObj_map hb, hc, h2, h1, Result.andThen]
theorem wmap_len {W : World} {mb k : Nat} {F : Nat → Nat → Option Nat} (h : WMap W mb k F) : (Builtin.len_ #[73] 3 #[.map (some mb)]).run Tryd.prog W = .ok (.int .i64 (k : Nat)) W := by
  obtain ⟨es, c, hb, hk, -⟩ := h
  simp [Builtin.len_, run_underlying Tryd.underlying73, MapKept.run_getObj_map hb, hk, Result.andThen, goInt]
/-- One more word. -/
theorem wmap_put {W : World} {mb k : Nat} {F : Nat → Nat → Option Nat} (h : WMap W mb k F) {t r : Nat} (ht : t ≤ 1000000) (hr : r ≤ 1000000) (hn : F t r = none) (v : Nat) :
    ∃ W', (Instr.mapUpdate 73 (.map (some mb)) (ownKV t r) (.int .i64 (v : Nat))).run Tryd.prog W = .ok () W' ∧ WMap W' mb (k + 1) (fun a b => if a = t ∧ b = r then some v else F a b) ∧ W'.heap.size = W.heap.size ∧ (∀ g, g ≠ mb → W'.heap[g]? = W.heap[g]?) ∧ ∀ B S, B ≤ mb → Below B S W → Below B S W' := by
  obtain ⟨es, c, hb, hk, hE⟩ := h
  obtain ⟨-, hc, hf⟩ := wmap_find hE W ht hr
  rcases hf with ⟨h1, h2⟩ | ⟨w, j, h1, h2⟩
  · refine ⟨{ W with heap := W.heap.setIfInBounds mb (.map (es.push { key := ownKV t r, val := .int .i64 (v : Nat), born := c }) (c + 1)) }, ?_, ?_, by simp, fun g hg => (MapKept.heap_set hb).2 g hg, fun B S hB hS => ⟨hS.os, hS.tape, hS.output, by simpa using hS.size, fun g hg => ((MapKept.heap_set hb).2 g (by omega)).trans (hS.block g hg)⟩⟩
    · simp [Instr.mapUpdate, run_underlying Tryd.underlying73, MapKept.run_getObj_map hb, hc, h2, MapKept.run_setObj_map _ hb, Result.andThen]
    · refine ⟨_, _, (MapKept.heap_set hb).1, by simp [hk], fun e he => ?_, fun a b x hx => ?_⟩
      · simp only [Array.toList_push, List.mem_append, List.mem_singleton] at he
        rcases he with he | rfl
        · obtain ⟨t', r', v', g1, g2, g3, g4, g5⟩ := hE.1 e he
          refine ⟨t', r', v', g1, g2, g3, g4, ?_⟩
          show (if t' = t ∧ r' = r then some v else F t' r') = some v'
          rw [if_neg, g5]
          rintro ⟨rfl, rfl⟩
          rw [h1] at g5
          cases g5
        · exact ⟨t, r, v, ht, hr, rfl, rfl, if_pos ⟨rfl, rfl⟩⟩
      · by_cases hab : a = t ∧ b = r
        · obtain ⟨rfl, rfl⟩ := hab
          have hv : v = x := by simpa using hx
          subst hv
          exact ⟨{ key := ownKV a b, val := .int .i64 (v : Nat), born := c }, by simp, rfl⟩
        · have hx : (if a = t ∧ b = r then some v else F a b) = some x := hx
          rw [if_neg hab] at hx
          obtain ⟨e, he, hk'⟩ := hE.2 a b x hx
          exact ⟨e, by simp [he], hk'⟩
  · rw [hn] at h1
    cases h1

end Go.Proofs.YtocfocjnnjdcgaaDoor
