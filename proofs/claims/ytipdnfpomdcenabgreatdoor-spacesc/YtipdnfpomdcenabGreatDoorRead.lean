/-
  A program that is handed in, read: its orders lie in memory, its numbers fit.
  A program and a script that are handed in, opened.
  A program that is handed in, opened, with the bounds of its numbers; the table of powers.
-/
import Derived.Test.YtipdnfpomdcenabGreatDoorOrder
import Derived.ProofKit
import Derived.Lib.SmallJoins
import Derived.Deep.Slices
import Derived.Test.YtipdnfpomdcenabGreatDoorDSt2
import Derived.Test.YtipdnfpomdcenabGreatDoorFam
import Derived.Test.YtipdnfpomdcenabGreatDoorWorkP
import Derived.Test.YtipdnfpomdcenabGreatDoorWText
import Derived.Shelf.Vars
import Derived.Lib.LaidTab
namespace Go.Proofs.YtipdnfpomdcenabGreatDoor
section
open Go.ChangeShapes Go.WideShapes Go.ChangeAt Go.RowKit Go.Joins Go.Deep

theorem cells25 : Tryz.prog.cellsOf 25 = 4 := by kernel_rfl
theorem cells65 : Tryz.prog.cellsOf 65 = 4 := by kernel_rfl
theorem cells60 : Tryz.prog.cellsOf 60 = 1 := by kernel_rfl
theorem cells3 : Tryz.prog.cellsOf 3 = 1 := by kernel_rfl

section
variable {H : Type} {enc : TypeId × Value → H} {w : World}

theorem four {cs : List Value} (h : cs.length = 4) : ∃ a b c d, cs = [a, b, c, d] := by
  match cs, h with
  | [a, b, c, d], _ => exact ⟨a, b, c, d, rfl⟩

theorem read_order {a : Addr} {k fuel : Nat} {cs : List Value} {x : DataW H × List MemPlace} (hc : w.cells? 0 (a.add k) 4 = some cs) (h : DataW.trod enc Tryz.prog w 0 (fun _ => true) true fuel 65 cs = some x) :
    ∃ Y : Nat → Int, (∀ j, j < 4 → w.cell? (a.add (k + j)) = some (.int .i64 (Y j))) ∧ ∀ j, j < 4 → (Lit.int .i64 (Y j)).wf = true := by
  obtain ⟨_, hl, hcell⟩ := World.cells?_some hc
  obtain ⟨y0, y1, y2, y3, n, _, _, h0, h1, h2, h3⟩ := trod_struct4 Tryz.underlying65 h
  obtain ⟨c0, c1, c2, c3, rfl⟩ := four hl
  simp only [cells3] at h0 h1 h2 h3
  obtain ⟨a0, e0, _, w0⟩ := DataW.trod_int Tryz.underlying3 h0
  obtain ⟨a1, e1, _, w1⟩ := DataW.trod_int Tryz.underlying3 h1
  obtain ⟨a2, e2, _, w2⟩ := DataW.trod_int Tryz.underlying3 h2
  obtain ⟨a3, e3, _, w3⟩ := DataW.trod_int Tryz.underlying3 h3
  simp at e0 e1 e2 e3
  subst e0 e1 e2 e3
  refine ⟨fun j => if j = 0 then a0 else if j = 1 then a1 else if j = 2 then a2 else a3, ?_, ?_⟩
  · intro j hj
    rw [← Addr.add_add, hcell j hj]
    rcases (by omega : j = 0 ∨ j = 1 ∨ j = 2 ∨ j = 3) with rfl | rfl | rfl | rfl <;> rfl
  · intro j hj
    rcases (by omega : j = 0 ∨ j = 1 ∨ j = 2 ∨ j = 3) with rfl | rfl | rfl | rfl <;> assumption

theorem read_thread {v : Value} {fuel : Nat} {x : DataW H × List MemPlace} (h : DataW.trod enc Tryz.prog w 0 (fun _ => true) true fuel 60 [v] = some x) :
    ∃ (a : Option Addr) (l c : Nat) (Y : Nat → Nat → Int), v = .slice a l c ∧ l ≤ maxLen ∧ ∀ i, i < l → (∃ b o, a = some ⟨b, o, none⟩ ∧ ∀ j, j < 4 → w.cell? ⟨b, o + (i * 4 + j), none⟩ = some (.int .i64 (Y i j))) ∧ ∀ j, j < 4 → (Lit.int .i64 (Y i j)).wf = true := by
  rcases open_slice Tryz.underlying60 h with ⟨hcs, _⟩ | ⟨a, len, cap, m, n, D, Pl, hcs, _, hl, hm, hmm, _, hx⟩
  · simp at hcs
    exact ⟨none, 0, 0, fun _ _ => 0, hcs, Nat.zero_le _, fun i hi => absurd hi (Nat.not_lt_zero _)⟩
  · simp at hcs hmm
    obtain ⟨Y, hY⟩ := choose_lt (α := Nat → Int) (p := fun i (Y : Nat → Int) => (∀ j, j < 4 → w.cell? (a.add (i * 4 + j)) = some (.int .i64 (Y j))) ∧ ∀ j, j < 4 → (Lit.int .i64 (Y j)).wf = true) (n := len) (fun i hi => by
      obtain ⟨cs', h1, h2⟩ := hx i (by omega)
      rw [cells65] at h1
      exact read_order h1 h2)
    refine ⟨some a, len, cap, Y, hcs, by omega, fun i hi => ⟨?_, (hY i hi).2⟩⟩
    obtain ⟨b, o, sp⟩ := a
    have hsp : sp = none := by simpa [Addr.add] using World.cell?_spot ((hY 0 (by omega)).1 0 (by omega))
    subst hsp
    exact ⟨b, o, rfl, fun j hj => by rw [← Go.WideShapes.add_plain]; exact (hY i hi).1 j hj⟩

theorem read_code {v : Value} {fuel : Nat} {x : DataW H × List MemPlace} (h : DataW.trod enc Tryz.prog w 0 (fun _ => true) true fuel 22 [v] = some x) :
    ∃ (ca : Option Addr) (n cc : Nat) (A : Nat → Option Addr) (L C : Nat → Nat) (X : Nat → Nat → Nat → Int), v = .slice ca n cc ∧ PIn w ca n A L C X ∧ ∀ t i j, t < n → i < L t → j < 4 → (Lit.int .i64 (X t i j)).wf = true := by
  rcases open_slice1 Tryz.underlying22 cells60 h with ⟨hcs, _⟩ | ⟨a, len, cap, m, n, V, D, Pl, hcs, _, hl, hm, hmm, _, hx⟩
  · simp at hcs
    exact ⟨none, 0, 0, fun _ => none, fun _ => 0, fun _ => 0, fun _ _ _ => 0, hcs, ⟨fun t ht => absurd ht (Nat.not_lt_zero _), fun t i ht _ => absurd ht (Nat.not_lt_zero _), fun t ht => absurd ht (Nat.not_lt_zero _), Nat.zero_le _⟩, fun t i j ht => absurd ht (Nat.not_lt_zero _)⟩
  · simp at hcs hmm
    obtain ⟨A, hA⟩ := choose_lt (α := Option Addr × Nat × Nat × (Nat → Nat → Int)) (n := len) (p := fun t q => V t = .slice q.1 q.2.1 q.2.2.1 ∧ q.2.1 ≤ maxLen ∧ ∀ i, i < q.2.1 → (∃ b o, q.1 = some ⟨b, o, none⟩ ∧ ∀ j, j < 4 → w.cell? ⟨b, o + (i * 4 + j), none⟩ = some (.int .i64 (q.2.2.2 i j))) ∧ ∀ j, j < 4 → (Lit.int .i64 (q.2.2.2 i j)).wf = true)
      (fun t ht => let ⟨a', l, c, Y, h1, h2, h3⟩ := read_thread (hx t (by omega)).2; ⟨(a', l, c, Y), h1, h2, h3⟩)
    refine ⟨some a, len, cap, fun t => (A t).1, fun t => (A t).2.1, fun t => (A t).2.2.1, fun t => (A t).2.2.2, hcs, ⟨fun t ht => ?_, fun t i ht hi => ?_, fun t ht => (hA t ht).2.1, by unfold maxLen at hm; omega⟩, fun t i j ht hi hj => ((hA t ht).2.2 i hi).2 j hj⟩
    · obtain ⟨b, o, sp⟩ := a
      have hsp : sp = none := by simpa [Addr.add] using World.cell?_spot (hx 0 (by omega)).1
      subst hsp
      exact ⟨b, o, rfl, by rw [← Go.WideShapes.add_plain, (hx t (by omega)).1, (hA t ht).1]⟩
    · obtain ⟨b, o, h1, h2⟩ := ((hA t ht).2.2 i hi).1
      exact ⟨b, o, h1, by simpa using h2 0 (by omega), by simpa [Nat.add_assoc] using h2 1 (by omega), by simpa [Nat.add_assoc] using h2 2 (by omega), by simpa [Nat.add_assoc] using h2 3 (by omega)⟩
end
end

section
open Go.ChangeShapes Go.WideShapes Go.ChangeAt Go.RowKit Go.Joins Go.Deep

theorem Tryz.own : ownKnob Tryz.prog.godebug = none := by kernel_rfl
theorem Tryz.laidOut : laidOutB Tryz.prog = true := by kernel_rfl
theorem Tryz.readableP : Tryz.prog.readableRec 25 = true := by kernel_rfl
theorem Tryz.readableI : Tryz.prog.readableRec 23 = true := by kernel_rfl

/-- A list of numbers that is handed in, opened. -/
theorem open_ints {H : Type} {enc : TypeId × Value → H} {W : World} {fuel : Nat} {v : Value} {x : DataW H × List MemPlace} (h : DataW.trod enc Tryz.prog W 0 (fun _ => true) true fuel 23 [v] = some x) :
    ∃ (sa : Option Addr) (xs : List Int) (sc : Nat), v = .slice sa xs.length sc ∧ xs.length ≤ sc ∧ sc ≤ maxLen ∧ SIs W sa xs ∧ (sa = none → xs = [] ∧ sc = 0) := by
  rcases open_slice1 Tryz.underlying23 cells3 h with ⟨hcs, _⟩ | ⟨a, len, cap, _, _, V, _, _, hcs, _, hl, hm, hmm, _, hx⟩
  · simp at hcs
    subst hcs
    exact ⟨none, [], 0, rfl, by simp, by simp, fun i hi => absurd hi (Nat.not_lt_zero _), fun _ => ⟨rfl, rfl⟩⟩
  · simp at hcs hmm
    subst hcs
    obtain ⟨Y, hY⟩ := choose_lt (α := Int) (p := fun i (y : Int) => W.cell? (a.add i) = some (.int .i64 y)) (n := len) (fun i hi => by
      obtain ⟨x1, x2⟩ := hx i (by omega)
      obtain ⟨y, e, _, _⟩ := DataW.trod_int Tryz.underlying3 x2
      simp at e
      exact ⟨y, by rw [x1, e]⟩)
    have hlen : ((List.range len).map Y).length = len := by simp
    refine ⟨some a, (List.range len).map Y, cap, by rw [hlen], by rw [hlen]; exact hl, hm, fun i hi => ?_, fun e => by cases e⟩
    rw [hlen] at hi
    obtain ⟨b, o, sp⟩ := a
    have hsp : sp = none := by simpa [Addr.add] using World.cell?_spot (hY 0 (by omega))
    subst hsp
    refine ⟨b, o, rfl, ?_⟩
    rw [← Go.WideShapes.add_plain, hY i hi]
    simp [List.getD, hi]

/-- The same, with how long the reading is. -/
theorem open_ints_len {H : Type} {enc : TypeId × Value → H} {W : World} {fuel : Nat} {sa : Option Addr} {len cap : Nat} {x : DataW H × List MemPlace} (h : DataW.trod enc Tryz.prog W 0 (fun _ => true) true fuel 23 [.slice sa len cap] = some x) : len = 0 ∨ ∃ es ss, x.1 = .slice es ss ∧ es.length = len := by
  rcases open_slice1 Tryz.underlying23 cells3 h with ⟨hcs, _⟩ | ⟨a, len', cap', _, _, V, D, _, hcs, _, hl, hm, hmm, hx, _⟩
  · simp at hcs
    exact Or.inl hcs.2.1
  · simp at hcs
    exact Or.inr ⟨_, _, by rw [hx], by simp [hcs.2.1]⟩
/-- Where a list that is handed in lies. -/
theorem slice_lt {P : Program} {t e : TypeId} (ht : P.underlying t = some (.slice e)) {W : World} {b0 : Nat} {a : Addr} {len cap : Nat} (h : Value.okWide P W .any b0 t (.slice (some a) len cap)) : a.block < W.heap.size := by
  unfold Value.okWide at h
  rw [ht] at h
  simp only [Cell.okWide, Cell.ok, ht] at h
  obtain ⟨_, _, _, _, row, cells, hs, _⟩ := h
  rcases Nat.lt_or_ge a.block W.heap.size with h1 | h1
  · exact h1
  · unfold World.shape? at hs
    rw [Array.getElem?_eq_none h1] at hs
    cases hs

set_option maxRecDepth 100000 in
/-- A program that is handed in, opened. -/
theorem open_prog2 {H : Type} {enc : TypeId × Value → H} {W : World} {b0 : Nat} {v : Value} {d : DataW H} {p : List MemPlace} (hv : Value.okWide Tryz.prog W .any b0 25 v) (h : DataW.Trod enc Tryz.prog W 0 (fun _ => true) true 25 v d p) :
    ∃ (ca : Option Addr) (n cc : Nat) (wa : Option Addr) (words : List Int) (wc : Nat) (lk rg : Int) (A : Nat → Option Addr) (L C : Nat → Nat) (X : Nat → Nat → Nat → Int), v = prgV ca n cc wa words.length wc lk rg ∧ words.length ≤ 9223372036854775807 ∧ PIn W ca n A L C X ∧ SIs W wa words ∧ (wa = none → words = [] ∧ wc = 0) := by
  obtain ⟨c0, c1, c2, c3, y0, y1, y2, y3, m, rfl, _, _, h0, h1, h2, h3⟩ := open_agg4 Tryz.underlying25 (by kernel_rfl) cells25 hv h
  obtain ⟨ca, n, cc, A, L, C, X, rfl, hp, _⟩ := read_code h0
  obtain ⟨lk, e2, _, _⟩ := DataW.trod_int Tryz.underlying3 h2
  obtain ⟨rg, e3, _, _⟩ := DataW.trod_int Tryz.underlying3 h3
  simp at e2 e3
  subst e2 e3
  obtain ⟨wa, words, wc, rfl, hl, hm, hs, hn⟩ := open_ints h1
  exact ⟨ca, n, cc, wa, words, wc, lk, rg, A, L, C, X, rfl, by unfold maxLen at hm; omega, hp, hs, hn⟩
end

section
open Go.ChangeShapes Go.WideShapes Go.ChangeAt Go.RowKit Go.Joins Go.Deep

theorem i64n_of {v : Int} (h : (Lit.int .i64 v).wf = true) : I64n v := by
  have e : IntKind.i64.min = -9223372036854775808 := rfl
  simpa [Lit.wf, I64n, e] using h
set_option maxRecDepth 100000 in
theorem open_prog3 {H : Type} {enc : TypeId × Value → H} {W : World} {b0 : Nat} {v : Value} {d : DataW H} {p : List MemPlace} (hv : Value.okWide Tryz.prog W .any b0 25 v) (h : DataW.Trod enc Tryz.prog W 0 (fun _ => true) true 25 v d p) :
    ∃ (ca : Option Addr) (n cc : Nat) (wa : Option Addr) (words : List Int) (wc : Nat) (lk rg : Int) (A : Nat → Option Addr) (L C : Nat → Nat) (X : Nat → Nat → Nat → Int), v = prgV ca n cc wa words.length wc lk rg ∧ words.length ≤ 9223372036854775807 ∧ PIn W ca n A L C X ∧ SIs W wa words ∧ (wa = none → words = [] ∧ wc = 0) ∧ (∀ t i, t < n → i < L t → I64n (X t i 2)) ∧ ∀ x, x ∈ words → I64n x := by
  obtain ⟨c0, c1, c2, c3, y0, y1, y2, y3, m, rfl, _, _, h0, h1, h2, h3⟩ := open_agg4 Tryz.underlying25 (by kernel_rfl) cells25 hv h
  obtain ⟨ca, n, cc, A, L, C, X, rfl, hp, hwf⟩ := read_code h0
  obtain ⟨lk, e2, _, _⟩ := DataW.trod_int Tryz.underlying3 h2
  obtain ⟨rg, e3, _, _⟩ := DataW.trod_int Tryz.underlying3 h3
  simp at e2 e3
  subst e2 e3
  have hx2 : ∀ t i, t < n → i < L t → I64n (X t i 2) := fun t i ht hi => i64n_of (hwf t i 2 ht hi (by omega))
  rcases open_slice1 Tryz.underlying23 cells3 h1 with ⟨hcs, _⟩ | ⟨a, len, cap, _, _, V, _, _, hcs, _, hl, hm, hmm, _, hx⟩
  · simp at hcs
    subst hcs
    exact ⟨ca, n, cc, none, [], 0, lk, rg, A, L, C, X, rfl, by simp, hp, fun i hi => absurd hi (Nat.not_lt_zero _), fun _ => ⟨rfl, rfl⟩, hx2, fun v hv => by cases hv⟩
  · simp at hcs hmm
    subst hcs
    obtain ⟨Y, hY⟩ := choose_lt (α := Int) (p := fun i (y : Int) => W.cell? (a.add i) = some (.int .i64 y) ∧ I64n y) (n := len) (fun i hi => by
      obtain ⟨x1, x2⟩ := hx i (by omega)
      obtain ⟨y, e, _, wf⟩ := DataW.trod_int Tryz.underlying3 x2
      simp at e
      exact ⟨y, by rw [x1, e], i64n_of wf⟩)
    have hlen : ((List.range len).map Y).length = len := by simp
    refine ⟨ca, n, cc, some a, (List.range len).map Y, cap, lk, rg, A, L, C, X, by rw [hlen], by rw [hlen]; unfold maxLen at hm; omega, hp, fun i hi => ?_, fun e => (by cases e), hx2, fun v hv => ?_⟩
    · rw [hlen] at hi
      obtain ⟨b, o, sp⟩ := a
      have hsp : sp = none := by simpa [Addr.add] using World.cell?_spot (hY 0 (by omega)).1
      subst hsp
      refine ⟨b, o, rfl, ?_⟩
      rw [← Go.WideShapes.add_plain, (hY i hi).1]
      simp [List.getD, hi]
    · simp only [List.mem_map, List.mem_range] at hv
      obtain ⟨i, hi, rfl⟩ := hv
      exact (hY i hi).2
end

end Go.Proofs.YtipdnfpomdcenabGreatDoor
