/-
  What the program's addOrder does where the line is no order; what a line makes of a program that is being read.
-/
import Derived.Test.YthbebnegmenejaaGreatDoorAddS
namespace Go.Proofs.YthbebnegmenejaaGreatDoor
open Go.RowKit

/-- The order of a name. -/
def opOf (l : List UInt8) : Option Nat := ((List.range 18).find? fun j : Nat => (nm ((j : Int) + 1)).data.toList == l).map (· + 1)
def cntOf (op : Nat) : Nat := (ks (op : Int)).size

/-- What line k makes of a program that is being read; nothing: it cannot be so. -/
def stepL (k : Nat) (line : List UInt8) (st : St) : Option St :=
  match numsOf line with
  | none => none
  | some vs =>
    if k = 0 then (if nameL line = [119, 111, 114, 100, 115] then some { st with words := vs } else none)
    else if k = 1 then (if nameL line = [108, 111, 99, 107, 115] ∧ vs.length = 1 then some { st with lk := vs.getD 0 0 } else none)
    else if k = 2 then (if nameL line = [114, 101, 103, 115] ∧ vs.length = 1 then some { st with rg := vs.getD 0 0 } else none)
    else if nameL line = [116, 104, 114, 101, 97, 100] ∧ vs = [] then some { st with ths := st.ths ++ [[]] }
    else if st.ths = [] then none
    else match opOf (nameL line) with
      | none => none
      | some op => if vs.length = cntOf op then some { st with ths := st.ths.set (st.ths.length - 1) (st.ths.getD (st.ths.length - 1) [] ++ [((op : Int), vs.getD 0 0, vs.getD 1 0, vs.getD 2 0)]) } else none

theorem opOf_some {l : List UInt8} {op : Nat} (h : opOf l = some op) : 1 ≤ op ∧ op ≤ 18 ∧ (nm (op : Int)).data.toList = l := by
  unfold opOf at h
  cases hf : (List.range 18).find? fun j : Nat => (nm ((j : Int) + 1)).data.toList == l with
  | none => rw [hf] at h; cases h
  | some j =>
    rw [hf] at h
    simp only [Option.map_some, Option.some.injEq] at h
    subst h
    have h1 := List.mem_of_find?_eq_some hf
    have h2 := List.find?_some hf
    simp at h1 h2
    exact ⟨by omega, by omega, by simpa using h2⟩
theorem opOf_none {l : List UInt8} (h : opOf l = none) : ∀ j : Nat, j < 18 → (nm ((j : Int) + 1)).data.toList ≠ l := by
  unfold opOf at h
  simp only [Option.map_eq_none_iff, List.find?_eq_none] at h
  intro j hj e
  exact h j (by simpa using hj) (by simpa using e)

theorem run_lookS {P : Program} {mty kt et : TypeId} (hm : P.underlying mty = some (.map kt et)) (hk : P.underlying kt = some .string) (w : World) (r c : Nat) (es : Array MapEntry) (k : ByteArray) (j : Nat) (v : Value)
    (hb : w.heap[r]? = some (.map es c)) (hf : Instr.findNow .string (.string k) es.toList 0 = some (some (j, v))) :
    (Instr.lookup mty (.map (some r)) (.string k) true).run P w = .ok (.tuple #[v, .bool true]) w := by
  have hc : (Instr.checkKey es.isEmpty 10000 kt (.string k)).run P w = .ok () w := MapKept.run_checkKey hk (by simp [MapKept.IsKey]) _ 9999
  simp [Instr.lookup, run_underlying hm, MapKept.run_getObj_map hb, hc, MapKept.run_findKey hk hf, Result.andThen]
theorem run_lookS_no {P : Program} {mty kt et : TypeId} (hm : P.underlying mty = some (.map kt et)) (hk : P.underlying kt = some .string) (w : World) (r c : Nat) (es : Array MapEntry) (k : ByteArray) (z : Value)
    (hb : w.heap[r]? = some (.map es c)) (hz : (zeroValue et).run P w = .ok z w) (hf : Instr.findNow .string (.string k) es.toList 0 = some none) :
    (Instr.lookup mty (.map (some r)) (.string k) true).run P w = .ok (.tuple #[z, .bool false]) w := by
  have hc : (Instr.checkKey es.isEmpty 10000 kt (.string k)).run P w = .ok () w := MapKept.run_checkKey hk (by simp [MapKept.IsKey]) _ 9999
  simp [Instr.lookup, run_underlying hm, MapKept.run_getObj_map hb, hc, hz, MapKept.run_findKey hk hf, Result.andThen]
theorem run_look1 {P : Program} {mty kt et : TypeId} (hm : P.underlying mty = some (.map kt et)) (hk : P.underlying kt = some (.int .i64)) (w : World) (r c : Nat) (es : Array MapEntry) (k : Int) (j : Nat) (v : Value)
    (hb : w.heap[r]? = some (.map es c)) (hf : Instr.findNow (.int .i64) (.int .i64 k) es.toList 0 = some (some (j, v))) :
    (Instr.lookup mty (.map (some r)) (.int .i64 k) false).run P w = .ok v w := by
  have hc : (Instr.checkKey es.isEmpty 10000 kt (.int .i64 k)).run P w = .ok () w := MapKept.run_checkKey hk (by simp [MapKept.IsKey]) _ 9999
  simp [Instr.lookup, run_underlying hm, MapKept.run_getObj_map hb, hc, MapKept.run_findKey hk hf, Result.andThen]
theorem zeroInt (w : World) : (zeroValue 3).run Tryz.prog w = .ok (.int .i64 0) w := by kernel_rfl

/-- The table of names, looked into. -/
theorem names_yes {w : World} {ob : Nat} {js : List Nat} (hm : w.heap[ob]? = some (.map (opsE js) js.length)) (hall : ∀ j, j < 18 → j ∈ js) (hjs : ∀ j ∈ js, j < 18) {N : ByteArray} {op : Nat} (h : opOf N.data.toList = some op) :
    (Instr.lookup 79 (.map (some ob)) (.string N) true).run Tryz.prog w = .ok (.tuple #[.int .i64 (op : Int), .bool true]) w := by
  obtain ⟨h1, h2, h3⟩ := opOf_some h
  have hN : nm (op : Int) = N := ByteArray.ext (Array.toList_inj.mp h3)
  have e0 : (((op - 1 : Nat) : Int) + 1) = (op : Int) := by omega
  obtain ⟨i, hi⟩ := findS_some N (.int .i64 (op : Int)) (opsE js).toList 0 (by
    have hmem := hall (op - 1) (by omega)
    obtain ⟨i, hi, he⟩ := List.getElem_of_mem hmem
    refine ⟨{ key := .string (nm (((js[i] : Nat) : Int) + 1)), val := .int .i64 (((js[i] : Nat) : Int) + 1), born := i }, ?_, ?_⟩
    · simp only [opsE, List.mem_mapIdx]
      exact ⟨i, hi, rfl⟩
    · show Value.string _ = _
      rw [he, e0, hN]) (by
    intro e he
    obtain ⟨j', hj', hk', hv'⟩ := opsE_keys js e he
    refine ⟨_, hk', fun hb => ?_⟩
    rw [hv']
    have : j' = op - 1 := nm_inj (hjs j' hj') (by omega) (by rw [hb, e0, hN])
    rw [this, e0])
  exact run_lookS Tryz.underlying79 Tryz.underlying9 w ob _ _ N i _ hm hi
theorem names_no {w : World} {ob : Nat} {js : List Nat} (hm : w.heap[ob]? = some (.map (opsE js) js.length)) (hjs : ∀ j ∈ js, j < 18) {N : ByteArray} (h : opOf N.data.toList = none) :
    (Instr.lookup 79 (.map (some ob)) (.string N) true).run Tryz.prog w = .ok (.tuple #[.int .i64 0, .bool false]) w := by
  refine run_lookS_no Tryz.underlying79 Tryz.underlying9 w ob _ _ N _ hm (zeroInt w) (findS_none N _ 0 ?_)
  intro e he
  obtain ⟨j', hj', hk', _⟩ := opsE_keys js e he
  exact ⟨_, hk', fun hb => opOf_none h j' (hjs j' hj') (by rw [hb])⟩

set_option maxRecDepth 100000 in
set_option maxHeartbeats 800000 in
theorem addOrder_no (pb mb ob n cap : Nat) (hn4 : n ≤ 4000) (ca : Option Addr) (N : ByteArray) (q : Int) (ok : Bool) (V : Value) (l vc : Nat) (va : Option Addr) (r : Int) (te : TypeId) (ep : Value) (w : World) (he : w.cell? ⟨0, 0, none⟩ = some (.iface te ep))
    (c0 : w.cell? ⟨pb, 0, none⟩ = some (.slice ca n cap)) (h4 : w.cell? ⟨pb, 4, none⟩ = some (.map (some mb))) (h5 : w.cell? ⟨pb, 5, none⟩ = some (.map (some ob)))
    (hl1 : (Instr.lookup 79 (.map (some ob)) (.string N) true).run Tryz.prog w = .ok (.tuple #[.int .i64 q, .bool ok]) w)
    (h : n = 0 ∨ 0 < n ∧ ok = false ∨ 0 < n ∧ ok = true ∧ ((l : Int) != r) = true ∧ (Instr.lookup 43 (.map (some mb)) (.int .i64 q) false).run Tryz.prog w = .ok V w ∧ (∀ W, Calls Tryz.prog 14 #[V] W fun e W' => e = .returned (.int .i64 r) ∧ Below W.heap.size W W')) :
    Calls Tryz.prog 42 #[.pointer (some ⟨pb, 0, none⟩), .string N, .slice va l vc] w fun e w' => e = .returned (.iface te ep) ∧ Below w.heap.size w w' := by
  rcases h with h | ⟨h, rfl⟩ | ⟨h, rfl, hne, hl2, hcn⟩
  · have hn0 : ((n : Int) - 1) < 0 := by omega
    clear h
    go_enter Tryz.func42, Tryz.ntmps42
    go_wp2
    all_goals go_ret
    all_goals exact ⟨rfl, Below.refl _ _⟩
  · have hn0 : ¬ ((n : Int) - 1) < 0 := by omega
    clear h
    go_enter Tryz.func42, Tryz.ntmps42
    go_wp2
    all_goals go_ret
    all_goals exact ⟨rfl, Below.refl _ _⟩
  · have hn0 : ¬ ((n : Int) - 1) < 0 := by omega
    clear h
    go_enter Tryz.func42, Tryz.ntmps42
    go_wp2_with (first | (go_at_call 14; refine (hcn _).mono ?_; rintro e w1 ⟨rfl, hb1⟩; have he1 := (hb1.cell (lt_of_cell he)).trans he))
    all_goals go_ret
    all_goals exact ⟨rfl, hb1⟩

end Go.Proofs.YthbebnegmenejaaGreatDoor
