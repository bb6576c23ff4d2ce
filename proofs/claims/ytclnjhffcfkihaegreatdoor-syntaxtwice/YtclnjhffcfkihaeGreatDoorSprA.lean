/-
  The program's printer in memory: a builder that lies in it, and what its writers do.
-/
import Derived.Test.YtclnjhffcfkihaeGreatDoorSynK1
import Derived.Shelf.Strings.Builder1
import Derived.Maps.AppendAt
import Derived.Deep.AppendLies
namespace Go.Proofs.YtclnjhffcfkihaeGreatDoor
open Go.RowKit

theorem bldSize9 : (Tryz.prog.info? 57).map (·.size) = some 2 := by kernel_rfl
theorem prtLies : liesAt Tryz.prog Tryz.prog.depth 59 (4 / Tryz.prog.cellsOf 59) 0 57 1 = true := by kernel_rfl
theorem infoByte9 : (Tryz.prog.info? 5).map (fun i => (i.zero, i.size, i.bytes)) = some (some (.int .u8 0), 1, 1) := by kernel_rfl

/-- What is neither bytes nor a printer stays as it is. -/
def OthP (o : Obj) : Prop := ∀ c f, o ≠ Obj.cells c 5 f ∧ o ≠ Obj.cells c 59 f
def TypP (w w' : World) : Prop := ∀ (k : Nat) (o : Obj), w.heap[k]? = some o → OthP o → w'.heap[k]? = w.heap[k]?
theorem heap_lt9 {w : World} {k : Nat} {o : Obj} (h : w.heap[k]? = some o) : k < w.heap.size := by
  rcases Nat.lt_or_ge k w.heap.size with h1 | h1
  · exact h1
  · rw [Array.getElem?_eq_none h1] at h; cases h
theorem TypP.refl (w : World) : TypP w w := fun _ _ _ _ => rfl
theorem TypP.trans {a b c : World} (h : TypP a b) (k : TypP b c) : TypP a c := fun i o e h1 => (k i o ((h i o e h1).trans e) h1).trans (h i o e h1)
theorem TypP.of_below {w w' : World} (h : Below w.heap.size w w') : TypP w w' := fun k _ e _ => h.block k (heap_lt9 e)
theorem TypP.box {w : World} {b i : Nat} {c : Array Value} {f : Nat × Nat} (hb : w.heap[b]? = some (.cells c 59 f)) (u : Value) : TypP w (w.setCell ⟨b, i, none⟩ u) := fun k o e h1 => by
  refine Below.heap_setCell _ _ _ _ (fun h => ?_)
  subst h
  exact (h1 c f).2 (Option.some.inj (e.symm.trans hb))
theorem TypP.grown {w w' : World} {B n : Nat} {v : Value} {xs : List Value} (h : w.ownsRow B 5 1 v n xs) (hg : w.grownBy w' v.ownBlock) : TypP w w' := fun k o e h1 => by
  refine hg.block k (heap_lt9 e) (fun h2 => ?_)
  rcases h.2 with ⟨h0, _⟩ | ⟨q, cp, cur, hv, _, hh, _⟩
  · rw [h0] at h2; simp [Value.ownBlock] at h2
  · rw [hv] at h2
    have hk : k = q := by simpa [Value.ownBlock] using h2
    subst hk
    exact (h1 cur (0, 0)).1 (Option.some.inj (e.symm.trans hh))
/-- The printer: what it has written, its nodes, its tabs. -/
structure PrU (w : World) (B P : Nat) (p v : Value) (l : List UInt8) (nv : Value) (d : Int) : Prop where
  le : B ≤ P
  box : w.heap[P]? = some (.cells #[p, v, nv, .int .i64 d] 59)
  own : w.ownsRow B 5 1 v l.length (Lib.byteCells l)
  far : v.ownBlock ≠ some P
structure PrI (w : World) (B P : Nat) (l : List UInt8) (nv : Value) (d : Int) : Prop where
  ex : ∃ p v, (p = .pointer none ∨ p = .pointer (some ⟨P, 0, none⟩)) ∧ PrU w B P p v l nv d
theorem PrU.lt {w : World} {B P : Nat} {p v : Value} {l : List UInt8} {nv : Value} {d : Int} (h : PrU w B P p v l nv d) : P < w.heap.size := heap_lt9 h.box
theorem PrU.below {w w' : World} {B P : Nat} {p v : Value} {l : List UInt8} {nv : Value} {d : Int} (h : PrU w B P p v l nv d) (hb : Below w.heap.size w w') : PrU w' B P p v l nv d :=
  ⟨h.le, (hb.block P h.lt).trans h.box, owns_below2 h.own hb, h.far⟩
theorem PrI.below {w w' : World} {B P : Nat} {l : List UInt8} {nv : Value} {d : Int} (h : PrI w B P l nv d) (hb : Below w.heap.size w w') : PrI w' B P l nv d := by
  obtain ⟨p, v, hp, h⟩ := h
  exact ⟨p, v, hp, h.below hb⟩
/-- What a writer leaves. -/
structure PuQ (w : World) (B P : Nat) (l : List UInt8) (nv : Value) (d : Int) (w' : World) : Prop where
  is : PrI w' B P l nv d
  low : Below B w w'
  typ : TypP w w'
theorem PuQ.trans {a b c : World} {B P : Nat} {l l' : List UInt8} {nv nv' : Value} {d d' : Int} (h : PuQ a B P l nv d b) (k : PuQ b B P l' nv' d' c) : PuQ a B P l' nv' d' c := ⟨k.is, h.low.trans k.low, h.typ.trans k.typ⟩
theorem PuQ.after {a b c : World} {B P : Nat} {l : List UInt8} {nv : Value} {d : Int} (hb : Below a.heap.size a b) (hB : B ≤ a.heap.size) (k : PuQ b B P l nv d c) : PuQ a B P l nv d c := ⟨k.is, (hb.mono hB).trans k.low, (TypP.of_below hb).trans k.typ⟩
theorem PrI.size {w : World} {B P : Nat} {l : List UInt8} {nv : Value} {d : Int} (h : PrI w B P l nv d) : B ≤ w.heap.size ∧ P < w.heap.size := by
  obtain ⟨p, v, hp, h⟩ := h
  have := h.lt
  have := h.le
  omega

set_option maxRecDepth 100000 in
set_option maxHeartbeats 1000000 in
theorem copyP_used (b : Nat) (w : World) (h0 : w.cell? ⟨b, 0, none⟩ = some (.pointer (some ⟨b, 0, none⟩))) :
    Calls Tryz.prog 96 #[.pointer (some ⟨b, 0, none⟩)] w fun e w' => e = .returned (.tuple #[]) ∧ w' = w := by
  obtain ⟨j, hj, _⟩ := Option.map_eq_some_iff.1 bldSize9
  go_enter Tryz.func96, Tryz.ntmps96
  go_wp2
  rw [Lib.run_neq_ptr_same w _ Tryz.underlying54 hj]
  go_wp2
  go_end0
  exact ⟨rfl, rfl⟩
set_option maxRecDepth 100000 in
set_option maxHeartbeats 1000000 in
theorem copyP_fresh (b : Nat) (w : World) (h0 : w.cell? ⟨b, 0, none⟩ = some (.pointer none)) (hsh : w.shape? b = some (59, 4)) (hfz : w.frozen? ⟨b, 0, none⟩ = false) :
    Calls Tryz.prog 96 #[.pointer (some ⟨b, 0, none⟩)] w fun e w' => e = .returned (.tuple #[]) ∧ w' = w.setCell ⟨b, 0, none⟩ (.pointer (some ⟨b, 0, none⟩)) := by
  obtain ⟨j, hj, hjs⟩ := Option.map_eq_some_iff.1 bldSize9
  go_enter Tryz.func96, Tryz.ntmps96
  go_wp2
  rw [Lib.run_to_unsafe w ⟨b, 0, none⟩ Tryz.underlying54 Tryz.underlying128 hj (by rw [hjs]; decide) hsh (Nat.zero_lt_succ 3)]
  simp only [Result.andThen]
  rw [Oper.upon_value]
  go_wp2
  rw [run_callFunc_extern Tryz.func119 (by kernel_rfl) (by kernel_rfl) (by kernel_rfl) (e := Extern.AbiNoEscape.same) (by kernel_rfl)]
  rw [Lib.run_noEscape]
  simp only [Result.andThen]
  rw [Oper.upon_value]
  go_wp2
  rw [Lib.run_from_unsafe w ⟨b, 0, none⟩ Tryz.underlying128 Tryz.underlying54 hj hsh prtLies]
  simp only [Result.andThen]
  rw [Oper.upon_value]
  go_wp2
  go_end0
  exact ⟨rfl, rfl⟩
theorem heap_set4 {w : World} {P j : Nat} {cs : Array Value} {u : Value} (h : w.heap[P]? = some (.cells cs 59)) : (w.setCell ⟨P, j, none⟩ u).heap[P]? = some (.cells (cs.setIfInBounds j u) 59) := by
  simp [World.setCell, Array.getElem?_modify, h]
theorem copyP_any {w : World} {B P : Nat} {l : List UInt8} {nv : Value} {d : Int} (h : PrI w B P l nv d) :
    Calls Tryz.prog 96 #[.pointer (some ⟨P, 0, none⟩)] w fun e w' => e = .returned (.tuple #[]) ∧ (∃ v, PrU w' B P (.pointer (some ⟨P, 0, none⟩)) v l nv d) ∧ Below B w w' ∧ TypP w w' := by
  obtain ⟨p, v, hp, h⟩ := h
  rcases hp with rfl | rfl
  · refine (copyP_fresh P w (box_cell (i := 0) h.box rfl) (by simp [World.shape?, h.box]) (box_free (i := 0) h.box)).mono ?_
    rintro e w' ⟨rfl, rfl⟩
    refine ⟨rfl, ⟨v, ⟨h.le, heap_set4 h.box, fam_keeps h.own fun g hg => Below.heap_setCell _ _ _ _ (fun e => h.far (by rw [hg, e])), h.far⟩⟩, (Below.refl B w).setCell (p := ⟨P, 0, none⟩) h.le _, TypP.box h.box _⟩
  · refine (copyP_used P w (box_cell (i := 0) h.box rfl)).mono ?_
    rintro e w' ⟨rfl, rfl⟩
    exact ⟨rfl, ⟨v, h⟩, Below.refl B _, TypP.refl _⟩
theorem bytes_snoc9 (l : List UInt8) (c : UInt8) (ci : Int) (h : (c.toNat : Int) = ci) : Lib.byteCells l ++ [.int .u8 ci] = Lib.byteCells (l ++ [c]) := by
  simp [Lib.byteCells, ← h]
theorem bytes_app9 (l : List UInt8) (s : ByteArray) : Lib.byteCells l ++ Lib.strCells s = Lib.byteCells (l ++ s.data.toList) := by
  simp [Lib.byteCells, Lib.strCells]
set_option maxRecDepth 100000 in
set_option maxHeartbeats 2000000 in
theorem writeByteP {w : World} {B P : Nat} {l : List UInt8} {nv : Value} {d : Int} (c : UInt8) (ci : Int) (HC : Hid ((c.toNat : Int) = ci)) (h : PrI w B P l nv d) (hlen : l.length + 1 ≤ 10000000) :
    Calls Tryz.prog 97 #[.pointer (some ⟨P, 0, none⟩), .int .u8 ci] w fun e w' => e = .returned .nilIface ∧ PuQ w B P (l ++ [c]) nv d w' := by
  obtain ⟨i0, hi, hz0, hz1, hz2⟩ := info_parts infoByte9
  have hBw := h.size.1
  have HI := Hid.out (p := Hid _) h
  clear h
  go_enter Tryz.func97, Tryz.ntmps97
  go_wp2_with fail
  refine (copyP_any HI.out).mono ?_
  rintro e w1 ⟨rfl, ⟨v, hU⟩, hb1, ht1⟩
  obtain ⟨hB, hbk, hown, hne⟩ := hU
  obtain ⟨va, vc, rfl⟩ := owns_slice hown
  have c0 := box_cell (i := 0) hbk rfl
  have c1 := box_cell (i := 1) hbk rfl
  have hPl := heap_lt9 hbk
  have hs1 := hb1.size
  go_wp2_with (at_builtin; refine wpList_append_own _ rfl _ _ 55 rfl B 5 i0 (.int .u8 0) 1 1 Tryz.underlying55 hi hz0 hz1 hz2 rfl (by decide) _ _ _ rfl (hown.alloc _) ⟨w1.heap.size, 0, none⟩ 1 1 [.int .u8 ci] rfl rfl (cell_one_new _ _ _) (fun x hx => by simp at hx; subst hx; rfl) (by unfold maxLen; omega) (by omega) (by simp; omega) ?_; intro v' w2 hown' hgrow hnil; have hb2 : w2.heap[P]? = some (.cells #[.pointer (some ⟨P, 0, none⟩), .slice va l.length vc, nv, .int .i64 d] 59) := (by rw [hgrow.block P (by simp; omega) (fun e => hne e.symm), Lib.alloc_old w1 _ P hPl]; exact hbk); obtain ⟨g, cap, rfl, _, _⟩ := hown'.form (by omega); have d1 := box_cell (i := 1) hb2 rfl; have f1 := box_free (i := 1) hb2)
  go_ret
  refine ⟨rfl, ⟨⟨_, _, Or.inr rfl, ⟨hB, heap_set4 hb2, ?_, ?_⟩⟩, ?_, ?_⟩⟩
  · rw [bytes_snoc9 l c ci HC.out] at hown'
    have hf : g ≠ P := fun e => own_apart hown' hb2 (by decide) (by rw [← e]; rfl)
    rw [show (l ++ [c]).length = l.length + 1 by simp]
    exact fam_keeps hown' fun k hk => Below.heap_setCell _ _ _ _ (by
      have : g = k := by simpa [Value.ownBlock] using hk
      rw [← this]; exact hf)
  · intro e
    exact own_apart hown' hb2 (by decide) e
  · exact ((hb1.alloc (by omega) _).grown hgrow (by simp; omega) (fun k hk => (hown.lt k hk).1)).setCell (p := ⟨P, 1, none⟩) hB _
  · exact ((ht1.trans (TypP.of_below ((Below.refl w1.heap.size w1).alloc (Nat.le_refl _) _))).trans (TypP.grown (hown.alloc _) hgrow)).trans (TypP.box hb2 _)

set_option maxRecDepth 100000 in
set_option maxHeartbeats 2000000 in
theorem writeStringP {w : World} {B P : Nat} {l : List UInt8} {nv : Value} {d : Int} (s : ByteArray) (h : PrI w B P l nv d) (hlen : l.length + s.size ≤ 10000000) :
    Calls Tryz.prog 70 #[.pointer (some ⟨P, 0, none⟩), .string s] w fun e w' => e = .returned (.tuple #[.int .i64 s.size, .nilIface]) ∧ PuQ w B P (l ++ s.data.toList) nv d w' := by
  obtain ⟨i0, hi, hz0, hz1, hz2⟩ := info_parts infoByte9
  have hBw := h.size.1
  have HI := Hid.out (p := Hid _) h
  clear h
  go_enter Tryz.func70, Tryz.ntmps70
  go_wp2_with fail
  refine (copyP_any HI.out).mono ?_
  rintro e w1 ⟨rfl, ⟨v, hU⟩, hb1, ht1⟩
  obtain ⟨hB, hbk, hown, hne⟩ := hU
  obtain ⟨va, vc, rfl⟩ := owns_slice hown
  have c0 := box_cell (i := 0) hbk rfl
  have c1 := box_cell (i := 1) hbk rfl
  have hPl := heap_lt9 hbk
  have hs1 := hb1.size
  go_wp2_with (at_builtin; refine Lib.wpList_append_own_string _ rfl _ _ 55 9 rfl B 5 i0 Tryz.underlying55 Tryz.underlying9 hi hz0 hz1 hz2 _ _ _ rfl hown s rfl (by unfold maxLen; omega) (by omega) (by omega) ?_; intro v' w2 hown' hgrow hnil; have hb2 : w2.heap[P]? = some (.cells #[.pointer (some ⟨P, 0, none⟩), .slice va l.length vc, nv, .int .i64 d] 59) := (by rw [hgrow.block P hPl (fun e => hne e.symm)]; exact hbk); obtain ⟨va', vc', rfl⟩ := owns_slice hown'; have d1 := box_cell (i := 1) hb2 rfl; have f1 := box_free (i := 1) hb2)
  go_ret2
  rw [bytes_app9 l s] at hown'
  have hl2 : (l ++ s.data.toList).length = l.length + s.size := by rw [List.length_append, ← Lib.size_eq]
  refine ⟨rfl, ⟨⟨_, _, Or.inr rfl, ⟨hB, heap_set4 hb2, ?_, ?_⟩⟩, ?_, ?_⟩⟩
  · rw [hl2]
    exact fam_keeps hown' fun k hk => Below.heap_setCell _ _ _ _ (fun e => own_apart hown' hb2 (by decide) (by rw [hk, e]))
  · intro e
    exact own_apart hown' hb2 (by decide) e
  · exact (hb1.grown hgrow (by omega) (fun k hk => (hown.lt k hk).1)).setCell (p := ⟨P, 1, none⟩) hB _
  · exact (ht1.trans (TypP.grown hown hgrow)).trans (TypP.box hb2 _)

end Go.Proofs.YtclnjhffcfkihaeGreatDoor
