/-
  The box of a program that was handed in.
  A program that is handed in, read: its orders lie in memory, its numbers fit.
  A program and a script that are handed in, opened.
  Three stores into a box.
-/
import Derived.Test.YtocfocjnnjdcgaaDoorInProg
import Derived.Test.YtocfocjnnjdcgaaDoorPlain
import Derived.ProofKit
import Derived.Lib.SmallJoins
import Derived.Deep.Slices
import Derived.Test.YtocfocjnnjdcgaaDoorAppB
namespace Go.Proofs.YtocfocjnnjdcgaaDoor
section
open Go.RowKit

theorem box_lt {w : World} {g : Nat} {o : Obj} (h : w.heap[g]? = some o) : g < w.heap.size := by
  rcases Nat.lt_or_ge g w.heap.size with h1 | h1
  · exact h1
  · rw [Array.getElem?_eq_none h1] at h; cases h

theorem heap_set_same {w : World} {g i : Nat} {cs : Array Value} {t : TypeId} {u : Value} (h : w.heap[g]? = some (.cells cs t)) : (w.setCell ⟨g, i, none⟩ u).heap[g]? = some (.cells (cs.setIfInBounds i u) t) := by
  simp only [World.setCell, Array.getElem?_modify, if_true, h, Option.map_some]
  rfl

theorem own_type {w : World} {B : Nat} {e t : TypeId} {size : Nat} {v : Value} {n g : Nat} {xs : List Value} {c : Array Value} (h : w.ownsRow B e size v n xs) (hg : w.heap[g]? = some (.cells c t (0, 0))) (hne : e ≠ t) : v.ownBlock ≠ some g := fun e1 => by
  rcases h.2 with ⟨h0, _⟩ | ⟨g', cap, cur, hv, _, hh, _⟩
  · rw [h0] at e1; simp [Value.ownBlock] at e1
  · rw [hv] at e1
    have e2 : g' = g := by simpa [Value.ownBlock] using e1
    subst e2
    rw [hh] at hg
    simp only [Option.some.injEq, Obj.cells.injEq] at hg
    exact hne hg.2.1
end

section
open Go.ChangeShapes Go.WideShapes Go.ChangeAt Go.RowKit Go.Joins Go.Deep

theorem cells25 : Tryd.prog.cellsOf 25 = 4 := by kernel_rfl
theorem cells55 : Tryd.prog.cellsOf 55 = 4 := by kernel_rfl
theorem cells36 : Tryd.prog.cellsOf 36 = 1 := by kernel_rfl
theorem cells3 : Tryd.prog.cellsOf 3 = 1 := by kernel_rfl

section
variable {H : Type} {enc : TypeId × Value → H} {w : World}

theorem four {cs : List Value} (h : cs.length = 4) : ∃ a b c d, cs = [a, b, c, d] := by
  match cs, h with
  | [a, b, c, d], _ => exact ⟨a, b, c, d, rfl⟩

theorem read_order {a : Addr} {k fuel : Nat} {cs : List Value} {x : DataW H × List MemPlace} (hc : w.cells? 0 (a.add k) 4 = some cs) (h : DataW.trod enc Tryd.prog w 0 (fun _ => true) true fuel 55 cs = some x) :
    ∃ Y : Nat → Int, (∀ j, j < 4 → w.cell? (a.add (k + j)) = some (.int .i64 (Y j))) ∧ ∀ j, j < 4 → (Lit.int .i64 (Y j)).wf = true := by
  obtain ⟨_, hl, hcell⟩ := World.cells?_some hc
  obtain ⟨y0, y1, y2, y3, n, _, _, h0, h1, h2, h3⟩ := trod_struct4 Tryd.underlying55 h
  obtain ⟨c0, c1, c2, c3, rfl⟩ := four hl
  simp only [cells3] at h0 h1 h2 h3
  obtain ⟨a0, e0, _, w0⟩ := DataW.trod_int Tryd.underlying3 h0
  obtain ⟨a1, e1, _, w1⟩ := DataW.trod_int Tryd.underlying3 h1
  obtain ⟨a2, e2, _, w2⟩ := DataW.trod_int Tryd.underlying3 h2
  obtain ⟨a3, e3, _, w3⟩ := DataW.trod_int Tryd.underlying3 h3
  simp at e0 e1 e2 e3
  subst e0 e1 e2 e3
  refine ⟨fun j => if j = 0 then a0 else if j = 1 then a1 else if j = 2 then a2 else a3, ?_, ?_⟩
  · intro j hj
    rw [← Addr.add_add, hcell j hj]
    rcases (by omega : j = 0 ∨ j = 1 ∨ j = 2 ∨ j = 3) with rfl | rfl | rfl | rfl <;> rfl
  · intro j hj
    rcases (by omega : j = 0 ∨ j = 1 ∨ j = 2 ∨ j = 3) with rfl | rfl | rfl | rfl <;> assumption

theorem read_thread {v : Value} {fuel : Nat} {x : DataW H × List MemPlace} (h : DataW.trod enc Tryd.prog w 0 (fun _ => true) true fuel 36 [v] = some x) :
    ∃ (a : Option Addr) (l c : Nat) (Y : Nat → Nat → Int), v = .slice a l c ∧ l ≤ maxLen ∧ ∀ i, i < l → (∃ b o, a = some ⟨b, o, none⟩ ∧ ∀ j, j < 4 → w.cell? ⟨b, o + (i * 4 + j), none⟩ = some (.int .i64 (Y i j))) ∧ ∀ j, j < 4 → (Lit.int .i64 (Y i j)).wf = true := by
  rcases open_slice Tryd.underlying36 h with ⟨hcs, _⟩ | ⟨a, len, cap, m, n, D, Pl, hcs, _, hl, hm, hmm, _, hx⟩
  · simp at hcs
    exact ⟨none, 0, 0, fun _ _ => 0, hcs, Nat.zero_le _, fun i hi => absurd hi (Nat.not_lt_zero _)⟩
  · simp at hcs hmm
    obtain ⟨Y, hY⟩ := choose_lt (α := Nat → Int) (p := fun i (Y : Nat → Int) => (∀ j, j < 4 → w.cell? (a.add (i * 4 + j)) = some (.int .i64 (Y j))) ∧ ∀ j, j < 4 → (Lit.int .i64 (Y j)).wf = true) (n := len) (fun i hi => by
      obtain ⟨cs', h1, h2⟩ := hx i (by omega)
      rw [cells55] at h1
      exact read_order h1 h2)
    refine ⟨some a, len, cap, Y, hcs, by omega, fun i hi => ⟨?_, (hY i hi).2⟩⟩
    obtain ⟨b, o, sp⟩ := a
    have hsp : sp = none := by simpa [Addr.add] using World.cell?_spot ((hY 0 (by omega)).1 0 (by omega))
    subst hsp
    exact ⟨b, o, rfl, fun j hj => by rw [← Go.WideShapes.add_plain]; exact (hY i hi).1 j hj⟩

theorem read_code {v : Value} {fuel : Nat} {x : DataW H × List MemPlace} (h : DataW.trod enc Tryd.prog w 0 (fun _ => true) true fuel 22 [v] = some x) :
    ∃ (ca : Option Addr) (n cc : Nat) (A : Nat → Option Addr) (L C : Nat → Nat) (X : Nat → Nat → Nat → Int), v = .slice ca n cc ∧ PIn w ca n A L C X ∧ ∀ t i j, t < n → i < L t → j < 4 → (Lit.int .i64 (X t i j)).wf = true := by
  rcases open_slice1 Tryd.underlying22 cells36 h with ⟨hcs, _⟩ | ⟨a, len, cap, m, n, V, D, Pl, hcs, _, hl, hm, hmm, _, hx⟩
  · simp at hcs
    exact ⟨none, 0, 0, fun _ => none, fun _ => 0, fun _ => 0, fun _ _ _ => 0, hcs, ⟨fun t ht => absurd ht (Nat.not_lt_zero _), fun t i ht _ => absurd ht (Nat.not_lt_zero _), fun t ht => absurd ht (Nat.not_lt_zero _), Nat.zero_le _⟩, fun t i j ht => absurd ht (Nat.not_lt_zero _)⟩
  · simp at hcs hmm
    obtain ⟨A, hA⟩ := choose_lt (α := Option Addr × Nat × Nat × (Nat → Nat → Int)) (n := len) (p := fun t q => V t = .slice q.1 q.2.1 q.2.2.1 ∧ q.2.1 ≤ maxLen ∧ ∀ i, i < q.2.1 → (∃ b o, q.1 = some ⟨b, o, none⟩ ∧ ∀ j, j < 4 → w.cell? ⟨b, o + (i * 4 + j), none⟩ = some (.int .i64 (q.2.2.2 i j))) ∧ ∀ j, j < 4 → (Lit.int .i64 (q.2.2.2 i j)).wf = true)
      (fun t ht => let ⟨a', l, c, Y, h1, h2, h3⟩ := read_thread (hx t (by omega)).2; ⟨(a', l, c, Y), h1, h2, h3⟩)
    refine ⟨some a, len, cap, fun t => (A t).1, fun t => (A t).2.1, fun t => (A t).2.2.1, fun t => (A t).2.2.2, hcs, ⟨fun t ht => ?_, fun t i ht hi => ?_, fun t ht => (hA t ht).2.1, by unfold maxLen at hm; omega⟩, fun t i j ht hi hj => ((hA t ht).2.2 i hi).2 j hj⟩
    · obtain ⟨b, o, sp⟩ := a
      have hsp : sp = none := by simpa [Addr.add] using World.cell?_spot (hx 0 (by omega)).1
      subst hsp
      exact ⟨b, o, rfl, by rw [← Go.WideShapes.add_plain, (hx t (by omega)).1, (hA t ht).1]⟩
    · obtain ⟨b, o, h1, h2⟩ := ((hA t ht).2.2 i hi).1
      exact ⟨b, o, h1, by simpa using h2 0 (by omega), by simpa [Nat.add_assoc] using h2 1 (by omega), by simpa [Nat.add_assoc] using h2 2 (by omega), by simpa [Nat.add_assoc] using h2 3 (by omega)⟩
end
end

section
open Go.ChangeShapes Go.WideShapes Go.ChangeAt Go.RowKit Go.Joins Go.Deep

theorem Tryd.own : ownKnob Tryd.prog.godebug = none := by kernel_rfl
theorem Tryd.laidOut : laidOutB Tryd.prog = true := by kernel_rfl
theorem Tryd.readableP : Tryd.prog.readableRec 25 = true := by kernel_rfl
theorem Tryd.readableI : Tryd.prog.readableRec 23 = true := by kernel_rfl

/-- A list of numbers that is handed in, opened. -/
theorem open_ints {H : Type} {enc : TypeId × Value → H} {W : World} {fuel : Nat} {v : Value} {x : DataW H × List MemPlace} (h : DataW.trod enc Tryd.prog W 0 (fun _ => true) true fuel 23 [v] = some x) :
    ∃ (sa : Option Addr) (xs : List Int) (sc : Nat), v = .slice sa xs.length sc ∧ xs.length ≤ sc ∧ sc ≤ maxLen ∧ SIs W sa xs ∧ (sa = none → xs = [] ∧ sc = 0) := by
  rcases open_slice1 Tryd.underlying23 cells3 h with ⟨hcs, _⟩ | ⟨a, len, cap, _, _, V, _, _, hcs, _, hl, hm, hmm, _, hx⟩
  · simp at hcs
    subst hcs
    exact ⟨none, [], 0, rfl, by simp, by simp, fun i hi => absurd hi (Nat.not_lt_zero _), fun _ => ⟨rfl, rfl⟩⟩
  · simp at hcs hmm
    subst hcs
    obtain ⟨Y, hY⟩ := choose_lt (α := Int) (p := fun i (y : Int) => W.cell? (a.add i) = some (.int .i64 y)) (n := len) (fun i hi => by
      obtain ⟨x1, x2⟩ := hx i (by omega)
      obtain ⟨y, e, _, _⟩ := DataW.trod_int Tryd.underlying3 x2
      simp at e
      exact ⟨y, by rw [x1, e]⟩)
    have hlen : ((List.range len).map Y).length = len := by simp
    refine ⟨some a, (List.range len).map Y, cap, by rw [hlen], by rw [hlen]; exact hl, hm, fun i hi => ?_, fun e => by cases e⟩
    rw [hlen] at hi
    obtain ⟨b, o, sp⟩ := a
    have hsp : sp = none := by simpa [Addr.add] using World.cell?_spot (hY 0 (by omega))
    subst hsp
    refine ⟨b, o, rfl, ?_⟩
    rw [← Go.WideShapes.add_plain, hY i hi]
    simp [List.getD, hi]

set_option maxRecDepth 100000 in
/-- A program that is handed in, opened. -/
theorem open_prog2 {H : Type} {enc : TypeId × Value → H} {W : World} {b0 : Nat} {v : Value} {d : DataW H} {p : List MemPlace} (hv : Value.okWide Tryd.prog W .any b0 25 v) (h : DataW.Trod enc Tryd.prog W 0 (fun _ => true) true 25 v d p) :
    ∃ (ca : Option Addr) (n cc : Nat) (wa : Option Addr) (words : List Int) (wc : Nat) (lk rg : Int) (A : Nat → Option Addr) (L C : Nat → Nat) (X : Nat → Nat → Nat → Int), v = prgV ca n cc wa words.length wc lk rg ∧ words.length ≤ 9223372036854775807 ∧ PIn W ca n A L C X ∧ SIs W wa words ∧ (wa = none → words = [] ∧ wc = 0) := by
  obtain ⟨c0, c1, c2, c3, y0, y1, y2, y3, m, rfl, _, _, h0, h1, h2, h3⟩ := open_agg4 Tryd.underlying25 (by kernel_rfl) cells25 hv h
  obtain ⟨ca, n, cc, A, L, C, X, rfl, hp, _⟩ := read_code h0
  obtain ⟨lk, e2, _, _⟩ := DataW.trod_int Tryd.underlying3 h2
  obtain ⟨rg, e3, _, _⟩ := DataW.trod_int Tryd.underlying3 h3
  simp at e2 e3
  subst e2 e3
  obtain ⟨wa, words, wc, rfl, hl, hm, hs, hn⟩ := open_ints h1
  exact ⟨ca, n, cc, wa, words, wc, lk, rg, A, L, C, X, rfl, by unfold maxLen at hm; omega, hp, hs, hn⟩
end

section
open Go.RowKit

/-- Three stores into a box change nothing else. -/
theorem set3_far {W : World} {F g : Nat} (hg : g ≠ F) (x y z : Value) : (((W.setCell ⟨F, 0, none⟩ x).setCell ⟨F, 1, none⟩ y).setCell ⟨F, 2, none⟩ z).heap[g]? = W.heap[g]? := by
  have e : ∀ (Z : World) (q : Nat) (u : Value), (Z.setCell ⟨F, q, none⟩ u).heap[g]? = Z.heap[g]? := fun Z q u => Below.heap_setCell _ _ _ _ (fun x => hg (by simpa using x))
  rw [e, e, e]
theorem set3_is {W : World} {F : Nat} {a b c : Value} (h : W.heap[F]? = some (.cells #[a, b, c] 30)) (x y z : Value) : (((W.setCell ⟨F, 0, none⟩ x).setCell ⟨F, 1, none⟩ y).setCell ⟨F, 2, none⟩ z).heap[F]? = some (.cells #[x, y, z] 30) :=
  heap_set_same (i := 2) (u := z) (heap_set_same (i := 1) (u := y) (heap_set_same (i := 0) (u := x) h))
theorem set3_low {B : Nat} {w W : World} (h : Below B w W) {F : Nat} (hF : B ≤ F) (x y z : Value) : Below B w (((W.setCell ⟨F, 0, none⟩ x).setCell ⟨F, 1, none⟩ y).setCell ⟨F, 2, none⟩ z) := ((h.setCell (p := ⟨F, 0, none⟩) hF x).setCell (p := ⟨F, 1, none⟩) hF y).setCell (p := ⟨F, 2, none⟩) hF z
/-- Four stores into a box of a program. -/
theorem set4_far {W : World} {F g : Nat} (hg : g ≠ F) (x y z u : Value) : ((((W.setCell ⟨F, 0, none⟩ x).setCell ⟨F, 1, none⟩ y).setCell ⟨F, 2, none⟩ z).setCell ⟨F, 3, none⟩ u).heap[g]? = W.heap[g]? :=
  (Below.heap_setCell _ _ _ _ (fun x => hg (by simpa using x))).trans (set3_far hg x y z)
theorem set4_is {W : World} {F : Nat} {a b c d : Value} (h : W.heap[F]? = some (.cells #[a, b, c, d] 25)) (x y z u : Value) : ((((W.setCell ⟨F, 0, none⟩ x).setCell ⟨F, 1, none⟩ y).setCell ⟨F, 2, none⟩ z).setCell ⟨F, 3, none⟩ u).heap[F]? = some (.cells #[x, y, z, u] 25) :=
  heap_set_same (i := 3) (u := u) (heap_set_same (i := 2) (u := z) (heap_set_same (i := 1) (u := y) (heap_set_same (i := 0) (u := x) h)))
theorem set4_low {B : Nat} {w W : World} (h : Below B w W) {F : Nat} (hF : B ≤ F) (x y z u : Value) : Below B w ((((W.setCell ⟨F, 0, none⟩ x).setCell ⟨F, 1, none⟩ y).setCell ⟨F, 2, none⟩ z).setCell ⟨F, 3, none⟩ u) := (set3_low h hF x y z).setCell (p := ⟨F, 3, none⟩) hF u
end

end Go.Proofs.YtocfocjnnjdcgaaDoor
