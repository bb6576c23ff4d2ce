/-
  Nodes in memory, as they are read.
  The program's printer in memory: a builder that lies in it, and what its writers do.
  The document's Same, of two lists of nodes that are the same.
  The document's Same, of two lists of nodes that are the same but for At.
  The law of nodes.
-/
import Derived.Test.YtclnjhffcfkihaeGreatDoorSynH5
import Derived.Test.YtclnjhffcfkihaeGreatDoorPlain
import Derived.Test.YtclnjhffcfkihaeGreatDoorSynE
import Derived.Shelf.Strings.Builder1
import Derived.Maps.AppendAt
import Derived.Deep.AppendLies
import Derived.Deep.QuietTactic
import Derived.StillTailTactics
import Derived.BigQuiet
import Derived.Test.YtclnjhffcfkihaeGreatDoorSqW
namespace Go.Proofs.YtclnjhffcfkihaeGreatDoor
section
open Go.RowKit

/-- A row that is nothing. -/
def row0 : Row := ⟨0, 0, 0, [], []⟩
/-- One node in memory. -/
structure NdR (w : World) (g i : Nat) (r : Row) (ka : Option Addr) (kc : Nat) : Prop where
  k : w.cell? ⟨g, i * 5, none⟩ = some (.int .i64 r.kind)
  n : w.cell? ⟨g, i * 5 + 1, none⟩ = some (.int .i64 r.num)
  p : w.cell? ⟨g, i * 5 + 2, none⟩ = some (.int .i64 r.pos)
  t : w.cell? ⟨g, i * 5 + 3, none⟩ = some (.string ⟨⟨r.text⟩⟩)
  ks : w.cell? ⟨g, i * 5 + 4, none⟩ = some (.slice ka r.kids.length kc)
  kin : IIn w ka r.kids.length (fun j => r.kids.getD j 0)
/-- Nodes in memory, as they are read. -/
structure NdsR (w : World) (a : Option Addr) (rows : List Row) : Prop where
  get : ∀ i, i < rows.length → ∃ g ka kc, a = some ⟨g, 0, none⟩ ∧ NdR w g i (rows.getD i row0) ka kc
theorem NdR.below {w w' : World} {g i : Nat} {r : Row} {ka : Option Addr} {kc : Nat} (h : NdR w g i r ka kc) (hb : Below w.heap.size w w') : NdR w' g i r ka kc := by
  exact ⟨(hb.cell (lt_of_cell h.k)).trans h.k, (hb.cell (lt_of_cell h.n)).trans h.n, (hb.cell (lt_of_cell h.p)).trans h.p, (hb.cell (lt_of_cell h.t)).trans h.t, (hb.cell (lt_of_cell h.ks)).trans h.ks, h.kin.below hb⟩
theorem NdsR.below {w w' : World} {a : Option Addr} {rows : List Row} (h : NdsR w a rows) (hb : Below w.heap.size w w') : NdsR w' a rows := ⟨fun i hi => by
  obtain ⟨g, ka, kc, e, h1⟩ := h.get i hi
  exact ⟨g, ka, kc, e, h1.below hb⟩⟩
theorem nodsV_at : ∀ {l : List (Row × Value)} {i : Nat}, i < l.length → ∀ j, j < 5 → (nodsV l)[i * 5 + j]? = (nodC (l.getD i (row0, .slice none 0 0)))[j]?
  | [], i, h, _, _ => absurd h (Nat.not_lt_zero _)
  | x :: l, 0, _, j, hj => by
    show ((nodC x) ++ nodsV l)[0 * 5 + j]? = _
    rw [Nat.zero_mul, Nat.zero_add, List.getElem?_append_left (by simpa [nodC] using hj)]
    rfl
  | x :: l, i + 1, h, j, hj => by
    have := nodsV_at (l := l) (i := i) (by simpa using h) j hj
    show ((nodC x) ++ nodsV l)[(i + 1) * 5 + j]? = _
    rw [List.getElem?_append_right (by simp [nodC]; omega)]
    rw [show (i + 1) * 5 + j - (nodC x).length = i * 5 + j by simp [nodC]; omega]
    exact this
theorem kids_in {w : World} {v : Value} {ks : List Int} (h : w.ownsRow 0 3 1 v ks.length (ks.map fun k => .int .i64 k)) : ∃ ka kc, v = .slice ka ks.length kc ∧ IIn w ka ks.length (fun j => ks.getD j 0) := by
  obtain ⟨a, c, rfl⟩ := owns_slice h
  refine ⟨a, c, rfl, fun j hj => ?_⟩
  obtain ⟨g, cap, e, hg, _⟩ := fam_block h (by omega)
  simp only [Value.slice.injEq] at e
  refine ⟨g, 0, e.1, ?_⟩
  rw [Nat.zero_add]
  refine fam_cell h hg ?_
  simp [hj, List.getD_eq_getElem?_getD]
theorem NodesIn.read {w : World} {B : Nat} {v : Value} {rows : List Row} (h : NodesIn w B v rows) : ∃ a c, v = .slice a rows.length c ∧ NdsR w a rows := by
  obtain ⟨ys, h1, h2, h3⟩ := h
  have hl : ys.length = rows.length := by rw [← h2, List.length_map]
  obtain ⟨a, c, rfl⟩ := owns_slice h1
  refine ⟨a, c, by rw [hl], ⟨fun i hi => ?_⟩⟩
  have hi2 : i < ys.length := by omega
  obtain ⟨g, cap, e, hg, _⟩ := fam_block h1 (by omega)
  simp only [Value.slice.injEq] at e
  have hget : ys.getD i (row0, .slice none 0 0) ∈ ys := by rw [List.getD_eq_getElem?_getD, List.getElem?_eq_getElem hi2]; exact List.getElem_mem hi2
  have hr : rows.getD i row0 = (ys.getD i (row0, .slice none 0 0)).1 := by
    rw [← h2, List.getD_eq_getElem?_getD, List.getD_eq_getElem?_getD, List.getElem?_map, List.getElem?_eq_getElem hi2]; rfl
  obtain ⟨ka, kc, hv, hk⟩ := kids_in (h3 _ hget)
  have hc := fun j hj => nodsV_at hi2 j hj
  rw [← hr] at hv hk
  refine ⟨g, ka, kc, e.1, ⟨?_, ?_, ?_, ?_, ?_, hk⟩⟩
  · exact fam_cell h1 hg ((hc 0 (by omega)).trans (by rw [hr]; rfl))
  · exact fam_cell h1 hg ((hc 1 (by omega)).trans (by rw [hr]; rfl))
  · exact fam_cell h1 hg ((hc 2 (by omega)).trans (by rw [hr]; rfl))
  · exact fam_cell h1 hg ((hc 3 (by omega)).trans (by rw [hr]; rfl))
  · exact fam_cell h1 hg ((hc 4 (by omega)).trans (by rw [← hv]; rfl))
end

section
open Go.RowKit

theorem bldSize9 : (Tryz.prog.info? 57).map (·.size) = some 2 := by kernel_rfl
theorem prtLies : liesAt Tryz.prog Tryz.prog.depth 59 (4 / Tryz.prog.cellsOf 59) 0 57 1 = true := by kernel_rfl
theorem infoByte9 : (Tryz.prog.info? 5).map (fun i => (i.zero, i.size, i.bytes)) = some (some (.int .u8 0), 1, 1) := by kernel_rfl

/-- What is neither bytes nor a printer stays as it is. -/
def OthP (o : Obj) : Prop := ∀ c f, o ≠ Obj.cells c 5 f ∧ o ≠ Obj.cells c 59 f
def TypP (w w' : World) : Prop := ∀ (k : Nat) (o : Obj), w.heap[k]? = some o → OthP o → w'.heap[k]? = w.heap[k]?
theorem heap_lt9 {w : World} {k : Nat} {o : Obj} (h : w.heap[k]? = some o) : k < w.heap.size := by
  rcases Nat.lt_or_ge k w.heap.size with h1 | h1
  · exact h1
  · rw [Array.getElem?_eq_none h1] at h; cases h
theorem TypP.refl (w : World) : TypP w w := fun _ _ _ _ => rfl
theorem TypP.trans {a b c : World} (h : TypP a b) (k : TypP b c) : TypP a c := fun i o e h1 => (k i o ((h i o e h1).trans e) h1).trans (h i o e h1)
theorem TypP.of_below {w w' : World} (h : Below w.heap.size w w') : TypP w w' := fun k _ e _ => h.block k (heap_lt9 e)
theorem TypP.box {w : World} {b i : Nat} {c : Array Value} {f : Nat × Nat} (hb : w.heap[b]? = some (.cells c 59 f)) (u : Value) : TypP w (w.setCell ⟨b, i, none⟩ u) := fun k o e h1 => by
  refine Below.heap_setCell _ _ _ _ (fun h => ?_)
  subst h
  exact (h1 c f).2 (Option.some.inj (e.symm.trans hb))
theorem TypP.grown {w w' : World} {B n : Nat} {v : Value} {xs : List Value} (h : w.ownsRow B 5 1 v n xs) (hg : w.grownBy w' v.ownBlock) : TypP w w' := fun k o e h1 => by
  refine hg.block k (heap_lt9 e) (fun h2 => ?_)
  rcases h.2 with ⟨h0, _⟩ | ⟨q, cp, cur, hv, _, hh, _⟩
  · rw [h0] at h2; simp [Value.ownBlock] at h2
  · rw [hv] at h2
    have hk : k = q := by simpa [Value.ownBlock] using h2
    subst hk
    exact (h1 cur (0, 0)).1 (Option.some.inj (e.symm.trans hh))
/-- The printer: what it has written, its nodes, its tabs. -/
structure PrU (w : World) (B P : Nat) (p v : Value) (l : List UInt8) (nv : Value) (d : Int) : Prop where
  le : B ≤ P
  box : w.heap[P]? = some (.cells #[p, v, nv, .int .i64 d] 59)
  own : w.ownsRow B 5 1 v l.length (Lib.byteCells l)
  far : v.ownBlock ≠ some P
structure PrI (w : World) (B P : Nat) (l : List UInt8) (nv : Value) (d : Int) : Prop where
  ex : ∃ p v, (p = .pointer none ∨ p = .pointer (some ⟨P, 0, none⟩)) ∧ PrU w B P p v l nv d
theorem PrU.lt {w : World} {B P : Nat} {p v : Value} {l : List UInt8} {nv : Value} {d : Int} (h : PrU w B P p v l nv d) : P < w.heap.size := heap_lt9 h.box
theorem PrU.below {w w' : World} {B P : Nat} {p v : Value} {l : List UInt8} {nv : Value} {d : Int} (h : PrU w B P p v l nv d) (hb : Below w.heap.size w w') : PrU w' B P p v l nv d :=
  ⟨h.le, (hb.block P h.lt).trans h.box, owns_below2 h.own hb, h.far⟩
theorem PrI.below {w w' : World} {B P : Nat} {l : List UInt8} {nv : Value} {d : Int} (h : PrI w B P l nv d) (hb : Below w.heap.size w w') : PrI w' B P l nv d := by
  obtain ⟨p, v, hp, h⟩ := h
  exact ⟨p, v, hp, h.below hb⟩
/-- What a writer leaves. -/
structure PuQ (w : World) (B P : Nat) (l : List UInt8) (nv : Value) (d : Int) (w' : World) : Prop where
  is : PrI w' B P l nv d
  low : Below B w w'
  typ : TypP w w'
theorem PuQ.trans {a b c : World} {B P : Nat} {l l' : List UInt8} {nv nv' : Value} {d d' : Int} (h : PuQ a B P l nv d b) (k : PuQ b B P l' nv' d' c) : PuQ a B P l' nv' d' c := ⟨k.is, h.low.trans k.low, h.typ.trans k.typ⟩
theorem PuQ.after {a b c : World} {B P : Nat} {l : List UInt8} {nv : Value} {d : Int} (hb : Below a.heap.size a b) (hB : B ≤ a.heap.size) (k : PuQ b B P l nv d c) : PuQ a B P l nv d c := ⟨k.is, (hb.mono hB).trans k.low, (TypP.of_below hb).trans k.typ⟩
theorem PrI.size {w : World} {B P : Nat} {l : List UInt8} {nv : Value} {d : Int} (h : PrI w B P l nv d) : B ≤ w.heap.size ∧ P < w.heap.size := by
  obtain ⟨p, v, hp, h⟩ := h
  have := h.lt
  have := h.le
  omega

set_option maxRecDepth 100000 in
set_option maxHeartbeats 1000000 in
theorem copyP_used (b : Nat) (w : World) (h0 : w.cell? ⟨b, 0, none⟩ = some (.pointer (some ⟨b, 0, none⟩))) :
    Calls Tryz.prog 96 #[.pointer (some ⟨b, 0, none⟩)] w fun e w' => e = .returned (.tuple #[]) ∧ w' = w := by
  obtain ⟨j, hj, _⟩ := Option.map_eq_some_iff.1 bldSize9
  go_enter Tryz.func96, Tryz.ntmps96
  go_wp2
  rw [Lib.run_neq_ptr_same w _ Tryz.underlying54 hj]
  go_wp2
  go_end0
  exact ⟨rfl, rfl⟩
set_option maxRecDepth 100000 in
set_option maxHeartbeats 1000000 in
theorem copyP_fresh (b : Nat) (w : World) (h0 : w.cell? ⟨b, 0, none⟩ = some (.pointer none)) (hsh : w.shape? b = some (59, 4)) (hfz : w.frozen? ⟨b, 0, none⟩ = false) :
    Calls Tryz.prog 96 #[.pointer (some ⟨b, 0, none⟩)] w fun e w' => e = .returned (.tuple #[]) ∧ w' = w.setCell ⟨b, 0, none⟩ (.pointer (some ⟨b, 0, none⟩)) := by
  obtain ⟨j, hj, hjs⟩ := Option.map_eq_some_iff.1 bldSize9
  go_enter Tryz.func96, Tryz.ntmps96
  go_wp2
  rw [Lib.run_to_unsafe w ⟨b, 0, none⟩ Tryz.underlying54 Tryz.underlying128 hj (by rw [hjs]; decide) hsh (Nat.zero_lt_succ 3)]
  simp only [Result.andThen]
  rw [Oper.upon_value]
  go_wp2
  rw [run_callFunc_extern Tryz.func119 (by kernel_rfl) (by kernel_rfl) (by kernel_rfl) (e := Extern.AbiNoEscape.same) (by kernel_rfl)]
  rw [Lib.run_noEscape]
  simp only [Result.andThen]
  rw [Oper.upon_value]
  go_wp2
  rw [Lib.run_from_unsafe w ⟨b, 0, none⟩ Tryz.underlying128 Tryz.underlying54 hj hsh prtLies]
  simp only [Result.andThen]
  rw [Oper.upon_value]
  go_wp2
  go_end0
  exact ⟨rfl, rfl⟩
theorem heap_set4 {w : World} {P j : Nat} {cs : Array Value} {u : Value} (h : w.heap[P]? = some (.cells cs 59)) : (w.setCell ⟨P, j, none⟩ u).heap[P]? = some (.cells (cs.setIfInBounds j u) 59) := by
  simp [World.setCell, Array.getElem?_modify, h]
theorem copyP_any {w : World} {B P : Nat} {l : List UInt8} {nv : Value} {d : Int} (h : PrI w B P l nv d) :
    Calls Tryz.prog 96 #[.pointer (some ⟨P, 0, none⟩)] w fun e w' => e = .returned (.tuple #[]) ∧ (∃ v, PrU w' B P (.pointer (some ⟨P, 0, none⟩)) v l nv d) ∧ Below B w w' ∧ TypP w w' := by
  obtain ⟨p, v, hp, h⟩ := h
  rcases hp with rfl | rfl
  · refine (copyP_fresh P w (box_cell (i := 0) h.box rfl) (by simp [World.shape?, h.box]) (box_free (i := 0) h.box)).mono ?_
    rintro e w' ⟨rfl, rfl⟩
    refine ⟨rfl, ⟨v, ⟨h.le, heap_set4 h.box, fam_keeps h.own fun g hg => Below.heap_setCell _ _ _ _ (fun e => h.far (by rw [hg, e])), h.far⟩⟩, (Below.refl B w).setCell (p := ⟨P, 0, none⟩) h.le _, TypP.box h.box _⟩
  · refine (copyP_used P w (box_cell (i := 0) h.box rfl)).mono ?_
    rintro e w' ⟨rfl, rfl⟩
    exact ⟨rfl, ⟨v, h⟩, Below.refl B _, TypP.refl _⟩
theorem bytes_snoc9 (l : List UInt8) (c : UInt8) (ci : Int) (h : (c.toNat : Int) = ci) : Lib.byteCells l ++ [.int .u8 ci] = Lib.byteCells (l ++ [c]) := by
  simp [Lib.byteCells, ← h]
theorem bytes_app9 (l : List UInt8) (s : ByteArray) : Lib.byteCells l ++ Lib.strCells s = Lib.byteCells (l ++ s.data.toList) := by
  simp [Lib.byteCells, Lib.strCells]
set_option maxRecDepth 100000 in
set_option maxHeartbeats 2000000 in
theorem writeByteP {w : World} {B P : Nat} {l : List UInt8} {nv : Value} {d : Int} (c : UInt8) (ci : Int) (HC : Hid ((c.toNat : Int) = ci)) (h : PrI w B P l nv d) (hlen : l.length + 1 ≤ 10000000) :
    Calls Tryz.prog 97 #[.pointer (some ⟨P, 0, none⟩), .int .u8 ci] w fun e w' => e = .returned .nilIface ∧ PuQ w B P (l ++ [c]) nv d w' := by
  obtain ⟨i0, hi, hz0, hz1, hz2⟩ := info_parts infoByte9
  have hBw := h.size.1
  have HI := Hid.out (p := Hid _) h
  clear h
  go_enter Tryz.func97, Tryz.ntmps97
  go_wp2_with fail
  refine (copyP_any HI.out).mono ?_
  rintro e w1 ⟨rfl, ⟨v, hU⟩, hb1, ht1⟩
  obtain ⟨hB, hbk, hown, hne⟩ := hU
  obtain ⟨va, vc, rfl⟩ := owns_slice hown
  have c0 := box_cell (i := 0) hbk rfl
  have c1 := box_cell (i := 1) hbk rfl
  have hPl := heap_lt9 hbk
  have hs1 := hb1.size
  go_wp2_with (at_builtin; refine wpList_append_own _ rfl _ _ 55 rfl B 5 i0 (.int .u8 0) 1 1 Tryz.underlying55 hi hz0 hz1 hz2 rfl (by decide) _ _ _ rfl (hown.alloc _) ⟨w1.heap.size, 0, none⟩ 1 1 [.int .u8 ci] rfl rfl (cell_one_new _ _ _) (fun x hx => by simp at hx; subst hx; rfl) (by unfold maxLen; omega) (by omega) (by simp; omega) ?_; intro v' w2 hown' hgrow hnil; have hb2 : w2.heap[P]? = some (.cells #[.pointer (some ⟨P, 0, none⟩), .slice va l.length vc, nv, .int .i64 d] 59) := (by rw [hgrow.block P (by simp; omega) (fun e => hne e.symm), Lib.alloc_old w1 _ P hPl]; exact hbk); obtain ⟨g, cap, rfl, _, _⟩ := hown'.form (by omega); have d1 := box_cell (i := 1) hb2 rfl; have f1 := box_free (i := 1) hb2)
  go_ret
  refine ⟨rfl, ⟨⟨_, _, Or.inr rfl, ⟨hB, heap_set4 hb2, ?_, ?_⟩⟩, ?_, ?_⟩⟩
  · rw [bytes_snoc9 l c ci HC.out] at hown'
    have hf : g ≠ P := fun e => own_apart hown' hb2 (by decide) (by rw [← e]; rfl)
    rw [show (l ++ [c]).length = l.length + 1 by simp]
    exact fam_keeps hown' fun k hk => Below.heap_setCell _ _ _ _ (by
      have : g = k := by simpa [Value.ownBlock] using hk
      rw [← this]; exact hf)
  · intro e
    exact own_apart hown' hb2 (by decide) e
  · exact ((hb1.alloc (by omega) _).grown hgrow (by simp; omega) (fun k hk => (hown.lt k hk).1)).setCell (p := ⟨P, 1, none⟩) hB _
  · exact ((ht1.trans (TypP.of_below ((Below.refl w1.heap.size w1).alloc (Nat.le_refl _) _))).trans (TypP.grown (hown.alloc _) hgrow)).trans (TypP.box hb2 _)

set_option maxRecDepth 100000 in
set_option maxHeartbeats 2000000 in
theorem writeStringP {w : World} {B P : Nat} {l : List UInt8} {nv : Value} {d : Int} (s : ByteArray) (h : PrI w B P l nv d) (hlen : l.length + s.size ≤ 10000000) :
    Calls Tryz.prog 70 #[.pointer (some ⟨P, 0, none⟩), .string s] w fun e w' => e = .returned (.tuple #[.int .i64 s.size, .nilIface]) ∧ PuQ w B P (l ++ s.data.toList) nv d w' := by
  obtain ⟨i0, hi, hz0, hz1, hz2⟩ := info_parts infoByte9
  have hBw := h.size.1
  have HI := Hid.out (p := Hid _) h
  clear h
  go_enter Tryz.func70, Tryz.ntmps70
  go_wp2_with fail
  refine (copyP_any HI.out).mono ?_
  rintro e w1 ⟨rfl, ⟨v, hU⟩, hb1, ht1⟩
  obtain ⟨hB, hbk, hown, hne⟩ := hU
  obtain ⟨va, vc, rfl⟩ := owns_slice hown
  have c0 := box_cell (i := 0) hbk rfl
  have c1 := box_cell (i := 1) hbk rfl
  have hPl := heap_lt9 hbk
  have hs1 := hb1.size
  go_wp2_with (at_builtin; refine Lib.wpList_append_own_string _ rfl _ _ 55 9 rfl B 5 i0 Tryz.underlying55 Tryz.underlying9 hi hz0 hz1 hz2 _ _ _ rfl hown s rfl (by unfold maxLen; omega) (by omega) (by omega) ?_; intro v' w2 hown' hgrow hnil; have hb2 : w2.heap[P]? = some (.cells #[.pointer (some ⟨P, 0, none⟩), .slice va l.length vc, nv, .int .i64 d] 59) := (by rw [hgrow.block P hPl (fun e => hne e.symm)]; exact hbk); obtain ⟨va', vc', rfl⟩ := owns_slice hown'; have d1 := box_cell (i := 1) hb2 rfl; have f1 := box_free (i := 1) hb2)
  go_ret2
  rw [bytes_app9 l s] at hown'
  have hl2 : (l ++ s.data.toList).length = l.length + s.size := by rw [List.length_append, ← Lib.size_eq]
  refine ⟨rfl, ⟨⟨_, _, Or.inr rfl, ⟨hB, heap_set4 hb2, ?_, ?_⟩⟩, ?_, ?_⟩⟩
  · rw [hl2]
    exact fam_keeps hown' fun k hk => Below.heap_setCell _ _ _ _ (fun e => own_apart hown' hb2 (by decide) (by rw [hk, e]))
  · intro e
    exact own_apart hown' hb2 (by decide) e
  · exact (hb1.grown hgrow (by omega) (fun k hk => (hown.lt k hk).1)).setCell (p := ⟨P, 1, none⟩) hB _
  · exact (ht1.trans (TypP.grown hown hgrow)).trans (TypP.box hb2 _)
end

section
open Go.RowKit

/-- Are two rows the same, but for At where it is not asked? -/
def SameR (at9 : Bool) (x y : Row) : Prop := x.kind = y.kind ∧ x.num = y.num ∧ x.text = y.text ∧ x.kids = y.kids ∧ (at9 = true → x.pos = y.pos)
end

section
open Go.RowKit

set_option maxRecDepth 100000 in
set_option maxHeartbeats 3200000 in
theorem same_but (a a' : Option Addr) (c c' : Nat) (xs ys : List Row) (hl : ys.length = xs.length) (hn : xs.length ≤ 100000) (hs : ∀ i, i < xs.length → SameR false (xs.getD i row0) (ys.getD i row0)) (hks : ∀ i, i < xs.length → (xs.getD i row0).kids.length ≤ 100000) (w : World) (h : NdsR w a xs) (h' : NdsR w a' ys) :
    Calls Tryz.prog 9 #[.slice a xs.length c, .slice a' ys.length c', .bool false] w fun e w' => e = .returned (.bool true) ∧ Below w.heap.size w w' := by
  rw [hl]
  have HS := Hid.out (p := Hid _) hs
  have HK := Hid.out (p := Hid _) hks
  have H := Hid.out (p := Hid _) h
  have H' := Hid.out (p := Hid _) h'
  have HL := Hid.out (p := Hid _) hl
  clear hs hks h h' hl
  obtain ⟨n, hN⟩ : ∃ n, n = xs.length := ⟨_, rfl⟩
  rw [← hN]
  rw [← hN] at hn
  have HN := Hid.out (p := Hid _) hN
  clear hN
  go_enter Tryz.func9, Tryz.ntmps9
  go_wp2
  go_loopw [7] (fun i wr => ∃ k : Nat, k ≤ n ∧ i = .int .i64 k ∧ Below w.heap.size w wr) (fun i _ => n - (intOf i).toNat)
  case atStart => exact ⟨0, Nat.zero_le _, rfl, Below.refl _ _⟩
  case round =>
    obtain ⟨k, hk, rfl, hbr⟩ := hrel
    by_cases hlt : k < n
    · obtain ⟨g, ka, kc, rfl, hx⟩ := (H.out.below hbr).get k (by rw [← HN.out]; exact hlt)
      obtain ⟨g', ka', kc', rfl, hy⟩ := (H'.out.below hbr).get k (by rw [HL.out, ← HN.out]; exact hlt)
      obtain ⟨e1, e2, e3, e4, e5⟩ := HS.out k (by rw [← HN.out]; exact hlt)
      have hkl := HK.out k (by rw [← HN.out]; exact hlt)
      obtain ⟨⟨xk, xn, xp, xt, xq⟩, hX⟩ : ∃ x, x = xs.getD k row0 := ⟨_, rfl⟩
      obtain ⟨⟨yk, yn, yp, yt, yq⟩, hY⟩ : ∃ y, y = ys.getD k row0 := ⟨_, rfl⟩
      rw [← hX] at hx e1 e2 e3 e4 e5 hkl
      rw [← hY] at hy e1 e2 e3 e4 e5
      simp only at e1 e2 e3 e4 e5 hkl
      subst e1 e2 e3 e4
      clear hX hY
      have x0 := hx.k
      have x1 := hx.n
      have x2 := hx.p
      have x3 := hx.t
      have x4 := hx.ks
      have y0 := hy.k
      have y1 := hy.n
      have y2 := hy.p
      have y3 := hy.t
      have y4 := hy.ks
      simp only at x0 x1 x2 x3 x4 y0 y1 y2 y3 y4
      have HX : Hid (IIn wr ka xq.length fun j => xq.getD j 0) := hx.kin
      have HY : Hid (IIn wr ka' xq.length fun j => xq.getD j 0) := hy.kin
      have hgl := lt_of_cell x0
      have hgl' := lt_of_cell y0
      have hlt' : (k : Int) < (n : Int) := by omega
      obtain ⟨m, hm⟩ : ∃ m, m = xq.length := ⟨_, rfl⟩
      rw [← hm] at x4 y4 hkl
      have HM := Hid.out (p := Hid _) hm
      have HI : Hid (∀ W, Below wr.heap.size wr W → Calls Tryz.prog 14 #[.slice ka m kc, .slice ka' m kc'] W fun e w' => e = .returned (.bool true) ∧ Below W.heap.size W w') := fun W hW => by
        rw [hm]
        exact ints_same ka ka' xq.length kc kc' (by omega) _ W (HX.out.below hW) (HY.out.below hW)
      have HXX : Hid (∀ W, Below wr.heap.size wr W → NdR W g k ⟨xk, xn, xp, xt, xq⟩ ka kc ∧ NdR W g' k ⟨xk, xn, yp, xt, xq⟩ ka' kc') := fun W hW => ⟨hx.below hW, hy.below hW⟩
      clear hx hy hm
      go_wp2_with fail
      refine region_tail 10 (by kernel_rfl) (by kernel_rfl) ?_
      simp only [List.take_succ_cons, List.take_zero, List.drop_succ_cons, List.drop_zero]
      repeat still_step
      refine wpStill_nil ?_
      go_wp2_with (go_at_call 14; refine Calls.mono (HI.out _ (Below.refl _ _).drew) ?_; rintro e w1 ⟨rfl, hb1⟩)
      have hb2 : Below wr.heap.size wr w1 := (Below.refl _ _).drew.trans hb1
      obtain ⟨hx, hy⟩ := HXX.out _ hb2
      clear x0 x1 x2 x3 x4 y0 y1 y2 y3 y4 hgl hgl'
      have x0 := hx.k
      have x1 := hx.n
      have x2 := hx.p
      have x3 := hx.t
      have y0 := hy.k
      have y1 := hy.n
      have y2 := hy.p
      have y3 := hy.t
      simp only at x0 x1 x2 x3 y0 y1 y2 y3
      have hgl := lt_of_cell x0
      have hgl' := lt_of_cell y0
      have HB2 := Hid.out (p := Hid _) (hbr.trans (hb2.mono hbr.size))
      clear hx hy hb1 hb2 hbr
      clear e5
      go_wp2_with fail
      go_quiet (fail)
      all_goals go_wp2_with fail
      all_goals go_roundw
      case rel => exact ⟨k + 1, by omega, by go_num, below_drewN HB2.out⟩
      case measure => simp [intOf]; omega
    · go_wp2
      go_ret
      exact ⟨rfl, hbr⟩
end

section
open Go.RowKit

mutual
theorem kid_few : ∀ (x : Nd) (b : Nat) (r : Row), r ∈ flat b x → r.kids.length ≤ ndSize x
  | .mk k n p t ks, b, r, h => by
    rw [flat] at h
    rw [ndSize]
    rcases List.mem_append.1 h with h | h
    · have := kids_few ks b r h; omega
    · obtain rfl : r = ⟨k, n, p, t, idxs b ks⟩ := by simpa using h
      have := idxs_len ks b
      simp only
      omega
theorem kids_few : ∀ (ks : List Nd) (b : Nat) (r : Row), r ∈ flats b ks → r.kids.length ≤ ndsSize ks
  | [], _, r, h => by simp [flats] at h
  | x :: l, b, r, h => by
    rw [flats] at h
    rw [ndsSize]
    rcases List.mem_append.1 h with h | h
    · have := kid_few x b r h; omega
    · have := kids_few l _ r h; omega
end
/-- What is read has few nodes, with few kids. -/
theorem parse_few (s : List UInt8) : (parseT s).1.length ≤ 600 ∧ ∀ r, r ∈ (parseT s).1 → r.kids.length ≤ 600 := by
  unfold parseT
  split
  · exact ⟨by simp, fun r hr => by simp at hr⟩
  · split
    · exact ⟨by simp, fun r hr => by simp at hr⟩
    · rename_i ks q _
      split
      · exact ⟨by simp, fun r hr => by simp at hr⟩
      · refine ⟨by simp only [List.length_append, flats_len, List.length_cons, List.length_nil]; omega, fun r hr => ?_⟩
        rcases List.mem_append.1 hr with h | h
        · have := kids_few ks 0 r h; omega
        · obtain rfl : r = ⟨1, 0, 0, [], idxs 0 ks⟩ := by simpa using h
          have := idxs_len ks 0
          simp only
          omega
theorem getD_mem9 {l : List Row} {i : Nat} (h : i < l.length) : l.getD i row0 ∈ l := by
  rw [List.getD_eq_getElem?_getD, List.getElem?_eq_getElem h]; exact List.getElem_mem h
end

end Go.Proofs.YtclnjhffcfkihaeGreatDoor
