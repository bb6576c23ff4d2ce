/-
  A program that is being read, in its box; what an order more makes of it.
-/
import Derived.Test.YthbebnegmenejaaGreatDoorAdds
namespace Go.Proofs.YthbebnegmenejaaGreatDoor
open Go.RowKit

/-- An append's run, kept whole. -/
def AppSem (ts : Array TypeId) (ty : TypeId) (args : Array Value) : Sem Value := Builtin.append_ ts ty args
theorem appSem_eq (ts : Array TypeId) (ty : TypeId) (args : Array Value) : Builtin.append_ ts ty args = AppSem ts ty args := rfl

/-- What stands in a program that is being read. -/
structure St where
  words : List Int
  lk : Int
  rg : Int
  ths : List (List I4)

/-- A program that is being read lies in the box pb. -/
structure PSt (w : World) (B pb : Nat) (cv wv : Value) (tv : List Value) (st : St) : Prop where
  c0 : w.cell? ⟨pb, 0, none⟩ = some cv
  c1 : w.cell? ⟨pb, 1, none⟩ = some wv
  c2 : w.cell? ⟨pb, 2, none⟩ = some (.int .i64 st.lk)
  c3 : w.cell? ⟨pb, 3, none⟩ = some (.int .i64 st.rg)
  fz : ∀ i, i < 4 → w.frozen? ⟨pb, i, none⟩ = false
  lt : pb < B
  le : B ≤ w.heap.size
  built : Built w B cv wv tv st.ths st.words

/-- Below B nothing but the box has changed. -/
structure Kept (B pb : Nat) (w w' : World) : Prop where
  os : w'.os = w.os
  tape : w'.tape = w.tape
  output : w'.output = w.output
  size : w.heap.size ≤ w'.heap.size
  block : ∀ k, k < B → k ≠ pb → w'.heap[k]? = w.heap[k]?
theorem Kept.refl (B pb : Nat) (w : World) : Kept B pb w w := ⟨rfl, rfl, rfl, Nat.le_refl _, fun _ _ _ => rfl⟩
theorem Kept.trans {B pb : Nat} {a b c : World} (h : Kept B pb a b) (k : Kept B pb b c) : Kept B pb a c :=
  ⟨k.os.trans h.os, k.tape.trans h.tape, k.output.trans h.output, Nat.le_trans h.size k.size, fun i hi hn => (k.block i hi hn).trans (h.block i hi hn)⟩
theorem Kept.of_below {B pb : Nat} {w w' : World} (h : Below w.heap.size w w') (hB : B ≤ w.heap.size) : Kept B pb w w' := ⟨h.os, h.tape, h.output, h.size, fun k hk _ => h.block k (by omega)⟩
theorem Kept.box {B pb : Nat} {w : World} (i : Nat) (u : Value) : Kept B pb w (w.setCell ⟨pb, i, none⟩ u) := ⟨rfl, rfl, rfl, by simp [World.setCell], fun k _ hn => Below.heap_setCell _ _ _ _ hn⟩
theorem Kept.row {B pb g : Nat} {w : World} (hg : B ≤ g) (i : Nat) (u : Value) : Kept B pb w (w.setCell ⟨g, i, none⟩ u) := ⟨rfl, rfl, rfl, by simp [World.setCell], fun k hk _ => Below.heap_setCell _ _ _ _ (by show k ≠ g; omega)⟩
theorem Kept.grown {B pb : Nat} {w w' : World} {row : Option Nat} (h : w.grownBy w' row) (hB : B ≤ w.heap.size) (hr : ∀ k, row = some k → B ≤ k) : Kept B pb w w' :=
  ⟨h.os, h.tape, h.output, h.size, fun k hk _ => h.block k (by omega) (fun e => by have := hr k e.symm; omega)⟩
theorem Kept.draws {B pb : Nat} {w : World} (n : Nat) : Kept B pb w (w.drewN n) := ⟨rfl, rfl, rfl, Nat.le_refl _, fun _ _ _ => rfl⟩

theorem infoInstr : (Tryz.prog.info? 46).map (fun i => (i.zero, i.size, i.bytes)) = some (some (ints4 0 0 0 0), 4, 32) := by kernel_rfl
theorem infoThr : (Tryz.prog.info? 37).map (fun i => (i.zero, i.size, i.bytes)) = some (some nilS, 1, 24) := by kernel_rfl

theorem setRow_last (w : World) (c d : Array Value) (t : TypeId) : (w.alloc (.cells c t)).setRow w.heap.size d = w.alloc (.cells d t) := by
  have e : ∀ (a : Array Obj) (x : Obj) (f : Obj → Obj), (a.push x).modify a.size f = a.push (f x) := fun a x f => by
    apply Array.ext_getElem?
    intro i
    simp only [Array.getElem?_modify, Array.getElem?_push]
    by_cases h : a.size = i
    · subst h; simp
    · rw [if_neg h, if_neg (fun e => h e.symm), if_neg (fun e => h e.symm)]
  show ({ w with heap := (w.heap.push (.cells c t)).modify w.heap.size _ } : World) = { w with heap := w.heap.push (.cells d t) }
  rw [e]

theorem copy_nums (vs : List Int) (hv : vs.length ≤ 3) (B : Nat) (v : Value) (w : World) (h : w.ownsRow B 3 1 v vs.length (vs.map (Value.int .i64))) (ty : TypeId) :
    (Builtin.copy_ #[23, 23] ty #[.slice (some ⟨w.heap.size, 0, none⟩) 3 3, v]).run Tryz.prog (w.alloc (.cells #[.int .i64 0, .int .i64 0, .int .i64 0] 52)) =
      .ok (.int .i64 vs.length) (w.alloc (.cells #[.int .i64 (vs.getD 0 0), .int .i64 (vs.getD 1 0), .int .i64 (vs.getD 2 0)] 52)) := by
  have hs : (Tryz.prog.info? 3).map (·.size) = some 1 := by kernel_rfl
  rcases h.2 with ⟨rfl, h0⟩ | ⟨g, cap, cur, rfl, hg, hh, h1, h2, h3, h4⟩
  · have : vs = [] := List.eq_nil_of_length_eq_zero h0
    subst this
    rw [run_copy_nil _ _ _ _ _ _ _ _ _ Tryz.underlying23 (by rw [hs]; rfl)]
    rfl
  · have e : ((#[Value.int .i64 0, Value.int .i64 0, Value.int .i64 0] : Array Value).toList.take 0 ++ vs.map (Value.int .i64) ++ (#[Value.int .i64 0, Value.int .i64 0, Value.int .i64 0] : Array Value).toList.drop (0 + (vs.map (Value.int .i64)).length)).toArray = #[Value.int .i64 (vs.getD 0 0), Value.int .i64 (vs.getD 1 0), Value.int .i64 (vs.getD 2 0)] := by
      match vs, hv with
      | [], _ => rfl
      | [a], _ => rfl
      | [a, b], _ => rfl
      | [a, b, c], _ => rfl
      | _ :: _ :: _ :: _ :: _, hv => simp at hv
    rw [run_copy_row Tryz.prog (w.alloc (.cells #[.int .i64 0, .int .i64 0, .int .i64 0] 52)) _ _ ty _ w.heap.size 0 3 3 ⟨g, 0, none⟩ vs.length cap #[.int .i64 0, .int .i64 0, .int .i64 0] 52 (vs.map (Value.int .i64)) Tryz.underlying23 hs (heap_alloc_new _ _) (by rw [List.length_map]; exact (Nat.min_eq_left hv).symm) ?_ (by simp; omega) (by simp [Value.oneCell']), e, setRow_last]
    · simp [goInt]
    · intro j u hu
      have hg' : g < w.heap.size := lt_of_owns h rfl
      have hc := h.cells (g := g) rfl j u hu
      rw [World.cell?_alloc_lt _ _ _ (by rw [Addr.add_lit]; exact hg')]
      exact hc

theorem owns_frozen {w : World} {B : Nat} {e : TypeId} {size g n cap m : Nat} {xs : List Value} (h : w.ownsRow B e size (.slice (some ⟨g, 0, none⟩) n cap) m xs) (i : Nat) : w.frozen? ⟨g, i, none⟩ = false := by
  rcases h.2 with ⟨h0, _⟩ | ⟨g', cap', cur, hv, _, hh, _⟩
  · simp at h0
  · simp only [Value.slice.injEq, Option.some.injEq, Addr.mk.injEq, and_true] at hv
    obtain ⟨rfl, _⟩ := hv
    simp [World.frozen?, hh]

theorem PSt.of_block {w w' : World} {B pb : Nat} {cv wv : Value} {tv tv' : List Value} {st : St} {ths' : List (List I4)} (h : PSt w B pb cv wv tv st) (hb : w'.heap[pb]? = w.heap[pb]?) (hs : w.heap.size ≤ w'.heap.size) (hB : Built w' B cv wv tv' ths' st.words) : PSt w' B pb cv wv tv' { st with ths := ths' } :=
  ⟨(World.cell?_of_block (w := w) hb).trans h.c0, (World.cell?_of_block (w := w) hb).trans h.c1, (World.cell?_of_block (w := w) hb).trans h.c2, (World.cell?_of_block (w := w) hb).trans h.c3, fun i hi => (World.frozen?_of_block (w := w) hb).trans (h.fz i hi), h.lt, Nat.le_trans h.le hs, hB⟩

theorem addOrder_fin {w w2 w3 : World} {B pb gc n cap p tl tc g3 cap3 : Nat} {wv : Value} {tv : List Value} {st : St} {ta : Option Addr} {X : Obj} {x : I4}
    (hP : PSt w B pb (.slice (some ⟨gc, 0, none⟩) n cap) wv tv st) (hB2 : Below w.heap.size w w2) (hp : p + 1 = n) (hn : n = st.ths.length) (hT : tv.getD p nilS = .slice ta tl tc) (htl : (st.ths.getD p []).length = tl)
    (hown : w3.ownsRow B 46 4 (.slice (some ⟨g3, 0, none⟩) (tl + 1) cap3) (tl + 1) (cellsT (st.ths.getD p []) ++ cells4 x)) (hgrow : (w2.alloc X).grownBy w3 (Value.slice ta tl tc).ownBlock) (hat : (Value.slice ta tl tc).ownBlock = some g3 ∨ g3 = w2.heap.size + 1) :
    (w3.setCell ⟨gc, p, none⟩ (.slice (some ⟨g3, 0, none⟩) (tl + 1) cap3)).heap[pb]? = w.heap[pb]? ∧ Kept B pb w (w3.setCell ⟨gc, p, none⟩ (.slice (some ⟨g3, 0, none⟩) (tl + 1) cap3)) ∧ ∃ tv', PSt (w3.setCell ⟨gc, p, none⟩ (.slice (some ⟨g3, 0, none⟩) (tl + 1) cap3)) B pb (.slice (some ⟨gc, 0, none⟩) n cap) wv tv' { st with ths := st.ths.set p (st.ths.getD p [] ++ [x]) } := by
  have hpn : p < st.ths.length := by omega
  have hBa : Below w.heap.size w (w2.alloc X) := hB2.alloc hB2.size _
  have hgB : B ≤ gc := (hP.built.code.lt gc rfl).1
  have hrow : ∀ k, (Value.slice ta tl tc).ownBlock = some k → B ≤ k := fun k hk => by
    have h1 := hP.built.thr p hpn
    rw [hT] at h1
    exact (h1.lt k hk).1
  have hk1 : Kept B pb w (w2.alloc X) := Kept.of_below hBa hP.le
  have hk2 : Kept B pb (w2.alloc X) w3 := Kept.grown hgrow (Nat.le_trans hP.le hBa.size) hrow
  have hk3 : Kept B pb w3 (w3.setCell ⟨gc, p, none⟩ (.slice (some ⟨g3, 0, none⟩) (tl + 1) cap3)) := Kept.row hgB _ _
  have hblk : (w3.setCell ⟨gc, p, none⟩ (.slice (some ⟨g3, 0, none⟩) (tl + 1) cap3)).heap[pb]? = w.heap[pb]? := by
    have hpb : pb < w.heap.size := Nat.lt_of_lt_of_le hP.lt hP.le
    rw [Below.heap_setCell _ _ _ _ (by show pb ≠ gc; have := hP.lt; omega), hgrow.block pb (Nat.lt_of_lt_of_le hpb hBa.size) (fun e => by have := hrow pb e.symm; have := hP.lt; omega), hBa.block pb hpb]
  refine ⟨hblk, (hk1.trans hk2).trans hk3, tv.set p (.slice (some ⟨g3, 0, none⟩) (tl + 1) cap3), PSt.of_block hP hblk (Nat.le_trans hk1.size (Nat.le_trans hk2.size hk3.size)) ?_⟩
  · subst htl
    have := (hP.built.below hBa).order (p := p) (by omega) hown (by rw [hT]; exact hgrow) (by rw [hT]; exact hat) (H := w2.heap.size + 1) (by simp)
    exact this

end Go.Proofs.YthbebnegmenejaaGreatDoor
