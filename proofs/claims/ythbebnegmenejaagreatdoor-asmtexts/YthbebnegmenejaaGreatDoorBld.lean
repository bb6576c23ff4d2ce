/-
  What strings.Builder's writers do, at this dump (its copyCheck ends where the shelf's does not).
-/
import Derived.Test.YthbebnegmenejaaGreatDoorPlain
import Derived.Shelf.Strings.Builder1
import Derived.Maps.AppendAt
import Derived.Deep.AppendLies
namespace Go.Proofs.YthbebnegmenejaaGreatDoor
open Go.RowKit

theorem bldSize : (Tryz.prog.info? 41).map (·.size) = some 2 := by kernel_rfl
theorem bldLies : liesAt Tryz.prog Tryz.prog.depth 41 (2 / Tryz.prog.cellsOf 41) 0 41 1 = true := by kernel_rfl
theorem infoByte : (Tryz.prog.info? 5).map (fun i => (i.zero, i.size, i.bytes)) = some (some (.int .u8 0), 1, 1) := by kernel_rfl

set_option maxRecDepth 100000 in
set_option maxHeartbeats 1000000 in
theorem copy_used (b : Nat) (w : World) (h0 : w.cell? ⟨b, 0, none⟩ = some (.pointer (some ⟨b, 0, none⟩))) :
    Calls Tryz.prog 36 #[.pointer (some ⟨b, 0, none⟩)] w fun e w' => e = .returned (.tuple #[]) ∧ w' = w := by
  obtain ⟨j, hj, _⟩ := Option.map_eq_some_iff.1 bldSize
  go_enter Tryz.func36, Tryz.ntmps36
  go_wp2
  rw [Lib.run_neq_ptr_same w _ Tryz.underlying38 hj]
  go_wp2
  go_end0
  exact ⟨rfl, rfl⟩

set_option maxRecDepth 100000 in
set_option maxHeartbeats 1000000 in
theorem copy_fresh (b : Nat) (w : World) (h0 : w.cell? ⟨b, 0, none⟩ = some (.pointer none)) (hsh : w.shape? b = some (41, 2)) (hfz : w.frozen? ⟨b, 0, none⟩ = false) :
    Calls Tryz.prog 36 #[.pointer (some ⟨b, 0, none⟩)] w fun e w' => e = .returned (.tuple #[]) ∧ w' = w.setCell ⟨b, 0, none⟩ (.pointer (some ⟨b, 0, none⟩)) := by
  obtain ⟨j, hj, hjs⟩ := Option.map_eq_some_iff.1 bldSize
  go_enter Tryz.func36, Tryz.ntmps36
  go_wp2
  rw [Lib.run_to_unsafe w ⟨b, 0, none⟩ Tryz.underlying38 Tryz.underlying110 hj (by rw [hjs]; decide) hsh (Nat.zero_lt_succ 1)]
  simp only [Result.andThen]
  rw [Oper.upon_value]
  go_wp2
  rw [run_callFunc_extern Tryz.func43 (by kernel_rfl) (by kernel_rfl) (by kernel_rfl) (e := Extern.AbiNoEscape.same) (by kernel_rfl)]
  rw [Lib.run_noEscape]
  simp only [Result.andThen]
  rw [Oper.upon_value]
  go_wp2
  rw [Lib.run_from_unsafe w ⟨b, 0, none⟩ Tryz.underlying110 Tryz.underlying38 hj hsh bldLies]
  simp only [Result.andThen]
  rw [Oper.upon_value]
  go_wp2
  go_end0
  exact ⟨rfl, rfl⟩

/-- What is neither bytes nor a builder stays as it is. -/
def Oth (o : Obj) : Prop := ∀ c f, o ≠ Obj.cells c 5 f ∧ o ≠ Obj.cells c 41 f
def Typ (w w' : World) : Prop := ∀ (k : Nat) (o : Obj), w.heap[k]? = some o → Oth o → w'.heap[k]? = w.heap[k]?
theorem heap_lt {w : World} {k : Nat} {o : Obj} (h : w.heap[k]? = some o) : k < w.heap.size := by
  rcases Nat.lt_or_ge k w.heap.size with h1 | h1
  · exact h1
  · rw [Array.getElem?_eq_none h1] at h; cases h
theorem Typ.refl (w : World) : Typ w w := fun _ _ _ _ => rfl
theorem Typ.trans {a b c : World} (h : Typ a b) (k : Typ b c) : Typ a c := fun i o e h1 => (k i o ((h i o e h1).trans e) h1).trans (h i o e h1)
theorem Typ.of_below {w w' : World} (h : Below w.heap.size w w') : Typ w w' := fun k _ e _ => h.block k (heap_lt e)
theorem Typ.box {w : World} {b i : Nat} {c : Array Value} {f : Nat × Nat} (hb : w.heap[b]? = some (.cells c 41 f)) (u : Value) : Typ w (w.setCell ⟨b, i, none⟩ u) := fun k o e h1 => by
  refine Below.heap_setCell _ _ _ _ (fun h => ?_)
  subst h
  exact (h1 c f).2 (Option.some.inj (e.symm.trans hb))
theorem Typ.grown {w w' : World} {B n : Nat} {v : Value} {xs : List Value} (h : w.ownsRow B 5 1 v n xs) (hg : w.grownBy w' v.ownBlock) : Typ w w' := fun k o e h1 => by
  refine hg.block k (heap_lt e) (fun h2 => ?_)
  rcases h.2 with ⟨h0, _⟩ | ⟨q, cp, cur, hv, _, hh, _⟩
  · rw [h0] at h2; simp [Value.ownBlock] at h2
  · rw [hv] at h2
    have hk : k = q := by simpa [Value.ownBlock] using h2
    subst hk
    exact (h1 cur (0, 0)).1 (Option.some.inj (e.symm.trans hh))

/-- A builder's own bytes. -/
abbrev IsB (B b : Nat) (l : List UInt8) (w : World) : Prop := Lib.IsBuilder 41 5 B b (Lib.byteCells l) w

theorem copy_any (B b : Nat) (bs : List Value) (w : World) (h : Lib.IsBuilder 41 5 B b bs w) :
    Calls Tryz.prog 36 #[.pointer (some ⟨b, 0, none⟩)] w fun e w' => e = .returned (.tuple #[]) ∧ Lib.BuilderAt 41 5 B b (.pointer (some ⟨b, 0, none⟩)) bs w' ∧ Below B w w' ∧ Typ w w' := by
  rcases h with h | h
  · refine (copy_fresh b w h.cell0 h.shape h.frozen0).mono ?_
    rintro e w' ⟨rfl, rfl⟩
    obtain ⟨_, v, hb, _⟩ := id h
    exact ⟨rfl, h.used _, (Below.refl B w).setCell (p := ⟨b, 0, none⟩) h.1 _, Typ.box hb _⟩
  · refine (copy_used b w h.cell0).mono ?_
    rintro e w' ⟨rfl, rfl⟩
    exact ⟨rfl, h, Below.refl B _, Typ.refl _⟩

theorem bytes_snoc (l : List UInt8) (c : UInt8) (ci : Int) (h : (c.toNat : Int) = ci) : Lib.byteCells l ++ [.int .u8 ci] = Lib.byteCells (l ++ [c]) := by
  simp [Lib.byteCells, ← h]
theorem bytes_app (l : List UInt8) (s : ByteArray) : Lib.byteCells l ++ Lib.strCells s = Lib.byteCells (l ++ s.data.toList) := by
  simp [Lib.byteCells, Lib.strCells]
theorem bytes_len (l : List UInt8) : (Lib.byteCells l).length = l.length := by simp [Lib.byteCells]

set_option maxRecDepth 100000 in
set_option maxHeartbeats 2000000 in
theorem writeByte_any (B b : Nat) (l : List UInt8) (c : UInt8) (ci : Int) (HC : Hid ((c.toNat : Int) = ci)) (w : World) (h : IsB B b l w) (hlen : l.length + 1 ≤ 1000000) (hBw : B ≤ w.heap.size) :
    Calls Tryz.prog 27 #[.pointer (some ⟨b, 0, none⟩), .int .u8 ci] w fun e w' => e = .returned .nilIface ∧ IsB B b (l ++ [c]) w' ∧ Below B w w' ∧ Typ w w' := by
  obtain ⟨i0, hi, hz0, hz1, hz2⟩ := info_parts infoByte
  go_enter Tryz.func27, Tryz.ntmps27
  go_wp2_with (first | (go_at_call 36; refine (copy_any B b _ _ h).mono ?_; rintro e w1 ⟨rfl, ⟨hB, v, hbk, hown, hne⟩, hb1, ht1⟩; rw [bytes_len l] at hown; obtain ⟨va, vc, rfl⟩ : ∃ a c, v = .slice a l.length c := (by rcases hown.2 with ⟨h0, h1⟩ | ⟨g, cp, cur, hv, _⟩; exact ⟨none, 0, by rw [h0, h1]⟩; exact ⟨_, _, hv⟩); have c0 : w1.cell? ⟨b, 0, none⟩ = some (.pointer (some ⟨b, 0, none⟩)) := (by rw [Lib.cell_of_heap hbk]; rfl); have c1 : w1.cell? ⟨b, 1, none⟩ = some (.slice va l.length vc) := (by rw [Lib.cell_of_heap hbk]; rfl)) | (at_builtin; refine wpList_append_own _ rfl _ _ 39 rfl B 5 i0 (.int .u8 0) 1 1 Tryz.underlying39 hi hz0 hz1 hz2 rfl (by decide) _ _ _ rfl (hown.alloc _) ⟨w1.heap.size, 0, none⟩ 1 1 [.int .u8 ci] rfl rfl (cell_one_new _ _ _) (fun x hx => by simp at hx; subst hx; rfl) (by unfold maxLen; omega) (by omega) (by have := hb1.size; simp; omega) ?_; intro v' w2 hown' hgrow hnil; have hlt : b < w1.heap.size := (by rcases Nat.lt_or_ge b w1.heap.size with h' | h'; exact h'; simp [Array.getElem?_eq_none h'] at hbk); have hb2 : w2.heap[b]? = some (.cells #[.pointer (some ⟨b, 0, none⟩), .slice va l.length vc] 41 (0, 0)) := (by rw [hgrow.block b (by simp; omega) (fun e => hne e.symm), Lib.alloc_old w1 _ b hlt]; exact hbk); obtain ⟨g, cap, rfl, _, _⟩ := hown'.form (by omega); have d1 : w2.cell? ⟨b, 1, none⟩ = some (.slice va l.length vc) := (by rw [Lib.cell_of_heap hb2]; rfl); have f1 : w2.frozen? ⟨b, 1, none⟩ = false := Lib.frozen_of_heap hb2 1))
  go_ret
  refine ⟨rfl, Or.inr ?_, ?_, ?_⟩
  · refine Lib.BuilderAt.put hB hb2 ?_ (by decide)
    rw [bytes_snoc l c ci HC.out] at hown'
    simpa [bytes_len] using hown'
  · exact ((hb1.alloc (by have := hb1.size; omega) _).grown hgrow (by have := hb1.size; simp; omega) (fun k hk => (hown.lt k hk).1)).setCell (p := ⟨b, 1, none⟩) hB _
  · exact ((ht1.trans (Typ.of_below ((Below.refl w1.heap.size w1).alloc (Nat.le_refl _) _))).trans (Typ.grown (hown.alloc _) hgrow)).trans (Typ.box hb2 _)

set_option maxRecDepth 100000 in
set_option maxHeartbeats 2000000 in
theorem writeString_any (B b : Nat) (l : List UInt8) (s : ByteArray) (w : World) (h : IsB B b l w) (hlen : l.length + s.size ≤ 1000000) (hBw : B ≤ w.heap.size) :
    Calls Tryz.prog 26 #[.pointer (some ⟨b, 0, none⟩), .string s] w fun e w' => e = .returned (.tuple #[.int .i64 s.size, .nilIface]) ∧ IsB B b (l ++ s.data.toList) w' ∧ Below B w w' ∧ Typ w w' := by
  obtain ⟨i0, hi, hz0, hz1, hz2⟩ := info_parts infoByte
  go_enter Tryz.func26, Tryz.ntmps26
  go_wp2_with (first | (go_at_call 36; refine (copy_any B b _ _ h).mono ?_; rintro e w1 ⟨rfl, ⟨hB, v, hbk, hown, hne⟩, hb1, ht1⟩; rw [bytes_len l] at hown; obtain ⟨va, vc, rfl⟩ : ∃ a c, v = .slice a l.length c := (by rcases hown.2 with ⟨h0, h1⟩ | ⟨g, cp, cur, hv, _⟩; exact ⟨none, 0, by rw [h0, h1]⟩; exact ⟨_, _, hv⟩); have c0 : w1.cell? ⟨b, 0, none⟩ = some (.pointer (some ⟨b, 0, none⟩)) := (by rw [Lib.cell_of_heap hbk]; rfl); have c1 : w1.cell? ⟨b, 1, none⟩ = some (.slice va l.length vc) := (by rw [Lib.cell_of_heap hbk]; rfl)) | (at_builtin; refine Lib.wpList_append_own_string _ rfl _ _ 39 9 rfl B 5 i0 Tryz.underlying39 Tryz.underlying9 hi hz0 hz1 hz2 _ _ _ rfl hown s rfl (by unfold maxLen; omega) (by omega) (by have := hb1.size; omega) ?_; intro v' w2 hown' hgrow hnil; have hlt : b < w1.heap.size := (by rcases Nat.lt_or_ge b w1.heap.size with h' | h'; exact h'; simp [Array.getElem?_eq_none h'] at hbk); have hb2 : w2.heap[b]? = some (.cells #[.pointer (some ⟨b, 0, none⟩), .slice va l.length vc] 41 (0, 0)) := (by rw [hgrow.block b hlt (fun e => hne e.symm)]; exact hbk); obtain ⟨va', n', vc', rfl⟩ : ∃ a n c, v' = .slice a n c := (by rcases hown'.2 with ⟨h0, _⟩ | ⟨g, cp, cur, hv, _⟩; exact ⟨_, _, _, h0⟩; exact ⟨_, _, _, hv⟩); have d1 : w2.cell? ⟨b, 1, none⟩ = some (.slice va l.length vc) := (by rw [Lib.cell_of_heap hb2]; rfl); have f1 : w2.frozen? ⟨b, 1, none⟩ = false := Lib.frozen_of_heap hb2 1))
  go_ret2
  refine ⟨rfl, Or.inr ?_, ?_, ?_⟩
  · refine Lib.BuilderAt.put hB hb2 ?_ (by decide)
    have e : (Lib.byteCells (l ++ s.data.toList)).length = l.length + s.size := by rw [bytes_len, List.length_append, ← Lib.size_eq]
    rw [bytes_app l s] at hown'
    rw [e]
    exact hown'
  · exact (hb1.grown hgrow (by have := hb1.size; omega) (fun k hk => (hown.lt k hk).1)).setCell (p := ⟨b, 1, none⟩) hB _
  · exact (ht1.trans (Typ.grown hown hgrow)).trans (Typ.box hb2 _)

end Go.Proofs.YthbebnegmenejaaGreatDoor
