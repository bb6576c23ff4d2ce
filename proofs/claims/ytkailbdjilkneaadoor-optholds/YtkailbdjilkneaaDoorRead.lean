/-
  The box of a program that was handed in.
  Three stores into a box.
  A program that is handed in, read: its orders lie in memory, its numbers fit.
  A program and a script that are handed in, opened.
  Sets of registers: what the program's small functions make of them.
-/
import Derived.Test.YtkailbdjilkneaaDoorOrder
import Derived.Test.YtkailbdjilkneaaDoorFam
import Derived.ProofKit
import Derived.Lib.SmallJoins
import Derived.Deep.Slices
import Derived.Test.YtkailbdjilkneaaDoorAppB
import Derived.Test.YtkailbdjilkneaaDoorRDo8
import Derived.BigRegion
import Derived.LoopN
namespace Go.Proofs.YtkailbdjilkneaaDoor
section
open Go.RowKit

abbrev boxQ (ca : Option Addr) (n cc : Nat) (wa : Option Addr) (m wc : Nat) (lk rg : Int) : Obj := .cells #[.slice ca n cc, .slice wa m wc, .int .i64 lk, .int .i64 rg] 25

theorem box_lt {w : World} {g : Nat} {o : Obj} (h : w.heap[g]? = some o) : g < w.heap.size := by
  rcases Nat.lt_or_ge g w.heap.size with h1 | h1
  · exact h1
  · rw [Array.getElem?_eq_none h1] at h; cases h

theorem heap_set_same {w : World} {g i : Nat} {cs : Array Value} {t : TypeId} {u : Value} (h : w.heap[g]? = some (.cells cs t)) : (w.setCell ⟨g, i, none⟩ u).heap[g]? = some (.cells (cs.setIfInBounds i u) t) := by
  simp only [World.setCell, Array.getElem?_modify, if_true, h, Option.map_some]
  rfl

theorem own_type {w : World} {B : Nat} {e t : TypeId} {size : Nat} {v : Value} {n g : Nat} {xs : List Value} {c : Array Value} (h : w.ownsRow B e size v n xs) (hg : w.heap[g]? = some (.cells c t (0, 0))) (hne : e ≠ t) : v.ownBlock ≠ some g := fun e1 => by
  rcases h.2 with ⟨h0, _⟩ | ⟨g', cap, cur, hv, _, hh, _⟩
  · rw [h0] at e1; simp [Value.ownBlock] at e1
  · rw [hv] at e1
    have e2 : g' = g := by simpa [Value.ownBlock] using e1
    subst e2
    rw [hh] at hg
    simp only [Option.some.injEq, Obj.cells.injEq] at hg
    exact hne hg.2.1
end

section
open Go.RowKit

/-- Three stores into a box change nothing else. -/
theorem set3_far {W : World} {F g : Nat} (hg : g ≠ F) (x y z : Value) : (((W.setCell ⟨F, 0, none⟩ x).setCell ⟨F, 1, none⟩ y).setCell ⟨F, 2, none⟩ z).heap[g]? = W.heap[g]? := by
  have e : ∀ (Z : World) (q : Nat) (u : Value), (Z.setCell ⟨F, q, none⟩ u).heap[g]? = Z.heap[g]? := fun Z q u => Below.heap_setCell _ _ _ _ (fun x => hg (by simpa using x))
  rw [e, e, e]
theorem set3_is {W : World} {F : Nat} {a b c : Value} (h : W.heap[F]? = some (.cells #[a, b, c] 29)) (x y z : Value) : (((W.setCell ⟨F, 0, none⟩ x).setCell ⟨F, 1, none⟩ y).setCell ⟨F, 2, none⟩ z).heap[F]? = some (.cells #[x, y, z] 29) :=
  heap_set_same (i := 2) (u := z) (heap_set_same (i := 1) (u := y) (heap_set_same (i := 0) (u := x) h))
theorem set3_low {B : Nat} {w W : World} (h : Below B w W) {F : Nat} (hF : B ≤ F) (x y z : Value) : Below B w (((W.setCell ⟨F, 0, none⟩ x).setCell ⟨F, 1, none⟩ y).setCell ⟨F, 2, none⟩ z) := ((h.setCell (p := ⟨F, 0, none⟩) hF x).setCell (p := ⟨F, 1, none⟩) hF y).setCell (p := ⟨F, 2, none⟩) hF z
/-- Four stores into a box of a program. -/
theorem set4_far {W : World} {F g : Nat} (hg : g ≠ F) (x y z u : Value) : ((((W.setCell ⟨F, 0, none⟩ x).setCell ⟨F, 1, none⟩ y).setCell ⟨F, 2, none⟩ z).setCell ⟨F, 3, none⟩ u).heap[g]? = W.heap[g]? :=
  (Below.heap_setCell _ _ _ _ (fun x => hg (by simpa using x))).trans (set3_far hg x y z)
theorem set4_is {W : World} {F : Nat} {a b c d : Value} (h : W.heap[F]? = some (.cells #[a, b, c, d] 25)) (x y z u : Value) : ((((W.setCell ⟨F, 0, none⟩ x).setCell ⟨F, 1, none⟩ y).setCell ⟨F, 2, none⟩ z).setCell ⟨F, 3, none⟩ u).heap[F]? = some (.cells #[x, y, z, u] 25) :=
  heap_set_same (i := 3) (u := u) (heap_set_same (i := 2) (u := z) (heap_set_same (i := 1) (u := y) (heap_set_same (i := 0) (u := x) h)))
theorem set4_low {B : Nat} {w W : World} (h : Below B w W) {F : Nat} (hF : B ≤ F) (x y z u : Value) : Below B w ((((W.setCell ⟨F, 0, none⟩ x).setCell ⟨F, 1, none⟩ y).setCell ⟨F, 2, none⟩ z).setCell ⟨F, 3, none⟩ u) := (set3_low h hF x y z).setCell (p := ⟨F, 3, none⟩) hF u
end

section
open Go.ChangeShapes Go.WideShapes Go.ChangeAt Go.RowKit Go.Joins Go.Deep

theorem cells25 : Tryd.prog.cellsOf 25 = 4 := by kernel_rfl
theorem cells44 : Tryd.prog.cellsOf 44 = 4 := by kernel_rfl
theorem cells45 : Tryd.prog.cellsOf 45 = 1 := by kernel_rfl
theorem cells3 : Tryd.prog.cellsOf 3 = 1 := by kernel_rfl

section
variable {H : Type} {enc : TypeId × Value → H} {w : World}

theorem four {cs : List Value} (h : cs.length = 4) : ∃ a b c d, cs = [a, b, c, d] := by
  match cs, h with
  | [a, b, c, d], _ => exact ⟨a, b, c, d, rfl⟩

theorem read_order {a : Addr} {k fuel : Nat} {cs : List Value} {x : DataW H × List MemPlace} (hc : w.cells? 0 (a.add k) 4 = some cs) (h : DataW.trod enc Tryd.prog w 0 (fun _ => true) true fuel 44 cs = some x) :
    ∃ Y : Nat → Int, (∀ j, j < 4 → w.cell? (a.add (k + j)) = some (.int .i64 (Y j))) ∧ ∀ j, j < 4 → (Lit.int .i64 (Y j)).wf = true := by
  obtain ⟨_, hl, hcell⟩ := World.cells?_some hc
  obtain ⟨y0, y1, y2, y3, n, _, _, h0, h1, h2, h3⟩ := trod_struct4 Tryd.underlying44 h
  obtain ⟨c0, c1, c2, c3, rfl⟩ := four hl
  simp only [cells3] at h0 h1 h2 h3
  obtain ⟨a0, e0, _, w0⟩ := DataW.trod_int Tryd.underlying3 h0
  obtain ⟨a1, e1, _, w1⟩ := DataW.trod_int Tryd.underlying3 h1
  obtain ⟨a2, e2, _, w2⟩ := DataW.trod_int Tryd.underlying3 h2
  obtain ⟨a3, e3, _, w3⟩ := DataW.trod_int Tryd.underlying3 h3
  simp at e0 e1 e2 e3
  subst e0 e1 e2 e3
  refine ⟨fun j => if j = 0 then a0 else if j = 1 then a1 else if j = 2 then a2 else a3, ?_, ?_⟩
  · intro j hj
    rw [← Addr.add_add, hcell j hj]
    rcases (by omega : j = 0 ∨ j = 1 ∨ j = 2 ∨ j = 3) with rfl | rfl | rfl | rfl <;> rfl
  · intro j hj
    rcases (by omega : j = 0 ∨ j = 1 ∨ j = 2 ∨ j = 3) with rfl | rfl | rfl | rfl <;> assumption

theorem read_thread {v : Value} {fuel : Nat} {x : DataW H × List MemPlace} (h : DataW.trod enc Tryd.prog w 0 (fun _ => true) true fuel 45 [v] = some x) :
    ∃ (a : Option Addr) (l c : Nat) (Y : Nat → Nat → Int), v = .slice a l c ∧ l ≤ maxLen ∧ ∀ i, i < l → (∃ b o, a = some ⟨b, o, none⟩ ∧ ∀ j, j < 4 → w.cell? ⟨b, o + (i * 4 + j), none⟩ = some (.int .i64 (Y i j))) ∧ ∀ j, j < 4 → (Lit.int .i64 (Y i j)).wf = true := by
  rcases open_slice Tryd.underlying45 h with ⟨hcs, _⟩ | ⟨a, len, cap, m, n, D, Pl, hcs, _, hl, hm, hmm, _, hx⟩
  · simp at hcs
    exact ⟨none, 0, 0, fun _ _ => 0, hcs, Nat.zero_le _, fun i hi => absurd hi (Nat.not_lt_zero _)⟩
  · simp at hcs hmm
    obtain ⟨Y, hY⟩ := choose_lt (α := Nat → Int) (p := fun i (Y : Nat → Int) => (∀ j, j < 4 → w.cell? (a.add (i * 4 + j)) = some (.int .i64 (Y j))) ∧ ∀ j, j < 4 → (Lit.int .i64 (Y j)).wf = true) (n := len) (fun i hi => by
      obtain ⟨cs', h1, h2⟩ := hx i (by omega)
      rw [cells44] at h1
      exact read_order h1 h2)
    refine ⟨some a, len, cap, Y, hcs, by omega, fun i hi => ⟨?_, (hY i hi).2⟩⟩
    obtain ⟨b, o, sp⟩ := a
    have hsp : sp = none := by simpa [Addr.add] using World.cell?_spot ((hY 0 (by omega)).1 0 (by omega))
    subst hsp
    exact ⟨b, o, rfl, fun j hj => by rw [← Go.WideShapes.add_plain]; exact (hY i hi).1 j hj⟩

theorem read_code {v : Value} {fuel : Nat} {x : DataW H × List MemPlace} (h : DataW.trod enc Tryd.prog w 0 (fun _ => true) true fuel 22 [v] = some x) :
    ∃ (ca : Option Addr) (n cc : Nat) (A : Nat → Option Addr) (L C : Nat → Nat) (X : Nat → Nat → Nat → Int), v = .slice ca n cc ∧ PIn w ca n A L C X ∧ ∀ t i j, t < n → i < L t → j < 4 → (Lit.int .i64 (X t i j)).wf = true := by
  rcases open_slice1 Tryd.underlying22 cells45 h with ⟨hcs, _⟩ | ⟨a, len, cap, m, n, V, D, Pl, hcs, _, hl, hm, hmm, _, hx⟩
  · simp at hcs
    exact ⟨none, 0, 0, fun _ => none, fun _ => 0, fun _ => 0, fun _ _ _ => 0, hcs, ⟨fun t ht => absurd ht (Nat.not_lt_zero _), fun t i ht _ => absurd ht (Nat.not_lt_zero _), fun t ht => absurd ht (Nat.not_lt_zero _), Nat.zero_le _⟩, fun t i j ht => absurd ht (Nat.not_lt_zero _)⟩
  · simp at hcs hmm
    obtain ⟨A, hA⟩ := choose_lt (α := Option Addr × Nat × Nat × (Nat → Nat → Int)) (n := len) (p := fun t q => V t = .slice q.1 q.2.1 q.2.2.1 ∧ q.2.1 ≤ maxLen ∧ ∀ i, i < q.2.1 → (∃ b o, q.1 = some ⟨b, o, none⟩ ∧ ∀ j, j < 4 → w.cell? ⟨b, o + (i * 4 + j), none⟩ = some (.int .i64 (q.2.2.2 i j))) ∧ ∀ j, j < 4 → (Lit.int .i64 (q.2.2.2 i j)).wf = true)
      (fun t ht => let ⟨a', l, c, Y, h1, h2, h3⟩ := read_thread (hx t (by omega)).2; ⟨(a', l, c, Y), h1, h2, h3⟩)
    refine ⟨some a, len, cap, fun t => (A t).1, fun t => (A t).2.1, fun t => (A t).2.2.1, fun t => (A t).2.2.2, hcs, ⟨fun t ht => ?_, fun t i ht hi => ?_, fun t ht => (hA t ht).2.1, by unfold maxLen at hm; omega⟩, fun t i j ht hi hj => ((hA t ht).2.2 i hi).2 j hj⟩
    · obtain ⟨b, o, sp⟩ := a
      have hsp : sp = none := by simpa [Addr.add] using World.cell?_spot (hx 0 (by omega)).1
      subst hsp
      exact ⟨b, o, rfl, by rw [← Go.WideShapes.add_plain, (hx t (by omega)).1, (hA t ht).1]⟩
    · obtain ⟨b, o, h1, h2⟩ := ((hA t ht).2.2 i hi).1
      exact ⟨b, o, h1, by simpa using h2 0 (by omega), by simpa [Nat.add_assoc] using h2 1 (by omega), by simpa [Nat.add_assoc] using h2 2 (by omega), by simpa [Nat.add_assoc] using h2 3 (by omega)⟩
end
end

section
open Go.ChangeShapes Go.WideShapes Go.ChangeAt Go.RowKit Go.Joins Go.Deep

theorem Tryd.own : ownKnob Tryd.prog.godebug = none := by kernel_rfl
theorem Tryd.laidOut : laidOutB Tryd.prog = true := by kernel_rfl
theorem Tryd.readableP : Tryd.prog.readableRec 25 = true := by kernel_rfl
theorem Tryd.readableI : Tryd.prog.readableRec 23 = true := by kernel_rfl

/-- A list of numbers that is handed in, opened. -/
theorem open_ints {H : Type} {enc : TypeId × Value → H} {W : World} {fuel : Nat} {v : Value} {x : DataW H × List MemPlace} (h : DataW.trod enc Tryd.prog W 0 (fun _ => true) true fuel 23 [v] = some x) :
    ∃ (sa : Option Addr) (xs : List Int) (sc : Nat), v = .slice sa xs.length sc ∧ xs.length ≤ sc ∧ sc ≤ maxLen ∧ SIs W sa xs ∧ (sa = none → xs = [] ∧ sc = 0) := by
  rcases open_slice1 Tryd.underlying23 cells3 h with ⟨hcs, _⟩ | ⟨a, len, cap, _, _, V, _, _, hcs, _, hl, hm, hmm, _, hx⟩
  · simp at hcs
    subst hcs
    exact ⟨none, [], 0, rfl, by simp, by simp, fun i hi => absurd hi (Nat.not_lt_zero _), fun _ => ⟨rfl, rfl⟩⟩
  · simp at hcs hmm
    subst hcs
    obtain ⟨Y, hY⟩ := choose_lt (α := Int) (p := fun i (y : Int) => W.cell? (a.add i) = some (.int .i64 y)) (n := len) (fun i hi => by
      obtain ⟨x1, x2⟩ := hx i (by omega)
      obtain ⟨y, e, _, _⟩ := DataW.trod_int Tryd.underlying3 x2
      simp at e
      exact ⟨y, by rw [x1, e]⟩)
    have hlen : ((List.range len).map Y).length = len := by simp
    refine ⟨some a, (List.range len).map Y, cap, by rw [hlen], by rw [hlen]; exact hl, hm, fun i hi => ?_, fun e => by cases e⟩
    rw [hlen] at hi
    obtain ⟨b, o, sp⟩ := a
    have hsp : sp = none := by simpa [Addr.add] using World.cell?_spot (hY 0 (by omega))
    subst hsp
    refine ⟨b, o, rfl, ?_⟩
    rw [← Go.WideShapes.add_plain, hY i hi]
    simp [List.getD, hi]

set_option maxRecDepth 100000 in
/-- A program that is handed in, opened. -/
theorem open_prog2 {H : Type} {enc : TypeId × Value → H} {W : World} {b0 : Nat} {v : Value} {d : DataW H} {p : List MemPlace} (hv : Value.okWide Tryd.prog W .any b0 25 v) (h : DataW.Trod enc Tryd.prog W 0 (fun _ => true) true 25 v d p) :
    ∃ (ca : Option Addr) (n cc : Nat) (wa : Option Addr) (words : List Int) (wc : Nat) (lk rg : Int) (A : Nat → Option Addr) (L C : Nat → Nat) (X : Nat → Nat → Nat → Int), v = prgV ca n cc wa words.length wc lk rg ∧ words.length ≤ 9223372036854775807 ∧ PIn W ca n A L C X ∧ SIs W wa words ∧ (wa = none → words = [] ∧ wc = 0) := by
  obtain ⟨c0, c1, c2, c3, y0, y1, y2, y3, m, rfl, _, _, h0, h1, h2, h3⟩ := open_agg4 Tryd.underlying25 (by kernel_rfl) cells25 hv h
  obtain ⟨ca, n, cc, A, L, C, X, rfl, hp, _⟩ := read_code h0
  obtain ⟨lk, e2, _, _⟩ := DataW.trod_int Tryd.underlying3 h2
  obtain ⟨rg, e3, _, _⟩ := DataW.trod_int Tryd.underlying3 h3
  simp at e2 e3
  subst e2 e3
  obtain ⟨wa, words, wc, rfl, hl, hm, hs, hn⟩ := open_ints h1
  exact ⟨ca, n, cc, wa, words, wc, lk, rg, A, L, C, X, rfl, by unfold maxLen at hm; omega, hp, hs, hn⟩
end

section
open Go.RowKit

/-- A set as a value. -/
abbrev setV (f : Nat → Nat) : Value := .agg #[.int .u64 (f 0), .int .u64 (f 1), .int .u64 (f 2), .int .u64 (f 3)]
/-- A set in a box. -/
abbrev setO (f : Nat → Nat) : Obj := .cells #[.int .u64 (f 0), .int .u64 (f 1), .int .u64 (f 2), .int .u64 (f 3)] 181
theorem div_fact (r : Nat) : (r : Int).tdiv 64 = ((r / 64 : Nat) : Int) ∧ (r : Int).tmod 64 = ((r % 64 : Nat) : Int) := ⟨(Int.ofNat_tdiv r 64).symm, (Int.ofNat_tmod r 64).symm⟩

set_option maxHeartbeats 1600000 in
theorem without_any (f : Nat → Nat) (r : Nat) (hr : r < 256) (w : World) :
    Calls Tryd.prog 121 #[setV f, .int .i64 r] w fun e w' => e = .returned (setV (wout f r)) ∧ Below w.heap.size w w' := by
  obtain ⟨h1, h2⟩ := div_fact r
  obtain ⟨q, hq⟩ : ∃ q, r / 64 = q := ⟨_, rfl⟩
  obtain ⟨k, hk⟩ : ∃ k, r % 64 = k := ⟨_, rfl⟩
  have hk64 : k < 64 := by omega
  have hq4 : q = 0 ∨ q = 1 ∨ q = 2 ∨ q = 3 := by omega
  have HE : Hid (∀ i, (if i = q then (bits .andNot .u64 (f i) (IntKind.u64.wrap (2 ^ min k 64))) else ((f i : Nat) : Int)) = ((wout f r i : Nat) : Int)) := fun i => by
    unfold wout
    rw [hq, hk]
    split
    · rw [shl_run hk64, clr_run]
    · rfl
  rw [hq] at h1
  rw [hk] at h2
  clear hq hk
  have HK := Hid.out (p := Hid _) hk64
  clear hk64
  rcases hq4 with rfl | rfl | rfl | rfl
  all_goals
    go_enter Tryd.func121, Tryd.ntmps121
    go_wp2
    go_region
    all_goals go_wp2
    all_goals
      have e0 := HE.out 0
      have e1 := HE.out 1
      have e2 := HE.out 2
      have e3 := HE.out 3
      simp at e0 e1 e2 e3
      refine bodyPost_ret (v := setV (wout f r)) ?_ rfl ⟨rfl, ?_⟩
      · simp [results, Tryd.results121, go_sem, setV, ← e0, ← e1, ← e2, ← e3]
      · exact (((Below.refl _ _).alloc (Nat.le_refl _) _).alloc (by simp) _).drew

/-- One of a set's words. -/
theorem idx_set (g : Nat → Nat) : (∀ W, (Instr.index 181 (setV g) (.int .i64 0)).run Tryd.prog W = .ok (.int .u64 (g 0)) W) ∧ (∀ W, (Instr.index 181 (setV g) (.int .i64 1)).run Tryd.prog W = .ok (.int .u64 (g 1)) W) ∧ (∀ W, (Instr.index 181 (setV g) (.int .i64 2)).run Tryd.prog W = .ok (.int .u64 (g 2)) W) ∧ (∀ W, (Instr.index 181 (setV g) (.int .i64 3)).run Tryd.prog W = .ok (.int .u64 (g 3)) W) :=
  ⟨fun _ => by kernel_rfl, fun _ => by kernel_rfl, fun _ => by kernel_rfl, fun _ => by kernel_rfl⟩
set_option maxHeartbeats 1600000 in
theorem setJoined_any (f g : Nat → Nat) (hf : W64 f) (hg : W64 g) (w : World) :
    Calls Tryd.prog 122 #[setV f, setV g] w fun e w' => e = .returned (setV (jnd f g)) ∧ Below w.heap.size w w' := by
  have HE : Hid (∀ i, bits .or .u64 ((f i : Nat) : Int) ((g i : Nat) : Int) = ((jnd f g i : Nat) : Int)) := fun i => bits_or_u64_nat (f i) (g i) (hf i) (hg i)
  obtain ⟨i0, i1, i2, i3⟩ := idx_set g
  go_enter Tryd.func122, Tryd.ntmps122
  go_wp2
  refine wp_loop_rounds 5 ?_
  iterate 5 (rw [rounds_succ]; go_wp2)
  have e0 := HE.out 0
  have e1 := HE.out 1
  have e2 := HE.out 2
  have e3 := HE.out 3
  refine bodyPost_ret (v := setV (jnd f g)) ?_ rfl ⟨rfl, ?_⟩
  · simp [results, Tryd.results122, go_sem, setV, ← e0, ← e1, ← e2, ← e3]
  · exact ((((Below.refl _ _).alloc (Nat.le_refl _) _).alloc (by simp) _).alloc (by simp; omega) _)

theorem set_lay {w : World} {b : Nat} {f : Nat → Nat} (h : w.heap[b]? = some (setO f)) : w.cell? ⟨b, 0, none⟩ = some (.int .u64 (f 0)) ∧ w.cell? ⟨b, 1, none⟩ = some (.int .u64 (f 1)) ∧ w.cell? ⟨b, 2, none⟩ = some (.int .u64 (f 2)) ∧ w.cell? ⟨b, 3, none⟩ = some (.int .u64 (f 3)) :=
  ⟨box_cell h rfl, box_cell h rfl, box_cell h rfl, box_cell h rfl⟩

/-- A set that is stored over another one. -/
theorem set_store {w : World} {b : Nat} {f : Nat → Nat} (h : w.heap[b]? = some (setO f)) (g : Nat → Nat) : ((((w.setCell ⟨b, 0, none⟩ (.int .u64 (g 0))).setCell ⟨b, 1, none⟩ (.int .u64 (g 1))).setCell ⟨b, 2, none⟩ (.int .u64 (g 2))).setCell ⟨b, 3, none⟩ (.int .u64 (g 3))).heap[b]? = some (setO g) :=
  (heap_set_same (heap_set_same (heap_set_same (heap_set_same h)))).trans rfl
theorem cell_oth {w : World} {b o b' o' : Nat} {u v : Value} (h : w.cell? ⟨b, o, none⟩ = some v) (hne : b ≠ b') : (w.setCell ⟨b', o', none⟩ u).cell? ⟨b, o, none⟩ = some v := by
  rw [World.cell?_of_block (w := w) (Below.heap_setCell _ _ _ _ (fun x => hne (by simpa using x)))]
  exact h
/-- A number of a list lies in no set. -/
theorem set_not {w : World} {b o : Nat} {f : Nat → Nat} {x : Int} (h : w.heap[b]? = some (setO f)) (hc : w.cell? ⟨b, o, none⟩ = some (.int .i64 x)) : False := by
  unfold World.cell? at hc
  rw [h] at hc
  rcases (by omega : o = 0 ∨ o = 1 ∨ o = 2 ∨ o = 3 ∨ 4 ≤ o) with rfl | rfl | rfl | rfl | h4
  · simp at hc
  · simp at hc
  · simp at hc
  · simp at hc
  · simp [Array.getElem?_eq_none (xs := #[Value.int .u64 (f 0), .int .u64 (f 1), .int .u64 (f 2), .int .u64 (f 3)]) (i := o) (by simpa using h4)] at hc
theorem sis_store {w : World} {b : Nat} {f : Nat → Nat} {a : Option Addr} {l : List Int} (hs : SIs w a l) (h : w.heap[b]? = some (setO f)) (u0 u1 u2 u3 : Value) : SIs ((((w.setCell ⟨b, 0, none⟩ u0).setCell ⟨b, 1, none⟩ u1).setCell ⟨b, 2, none⟩ u2).setCell ⟨b, 3, none⟩ u3) a l := fun i hi => by
  obtain ⟨g, o, e, hc⟩ := hs i hi
  have hne : g ≠ b := fun e2 => by rw [e2] at hc; exact set_not h hc
  exact ⟨g, o, e, cell_oth (cell_oth (cell_oth (cell_oth hc hne) hne) hne) hne⟩
theorem below_store {w V : World} {n b : Nat} (h : Below n w V) (hb : n ≤ b) (u0 u1 u2 u3 : Value) : Below n w ((((V.setCell ⟨b, 0, none⟩ u0).setCell ⟨b, 1, none⟩ u1).setCell ⟨b, 2, none⟩ u2).setCell ⟨b, 3, none⟩ u3) := (((h.setCell hb _).setCell hb _).setCell hb _).setCell hb _
theorem heap_store {w : World} {b g : Nat} (hne : g ≠ b) (u0 u1 u2 u3 : Value) : ((((w.setCell ⟨b, 0, none⟩ u0).setCell ⟨b, 1, none⟩ u1).setCell ⟨b, 2, none⟩ u2).setCell ⟨b, 3, none⟩ u3).heap[g]? = w.heap[g]? := by
  rw [Below.heap_setCell _ _ _ _ (fun x => hne (by simpa using x)), Below.heap_setCell _ _ _ _ (fun x => hne (by simpa using x)), Below.heap_setCell _ _ _ _ (fun x => hne (by simpa using x)), Below.heap_setCell _ _ _ _ (fun x => hne (by simpa using x))]
set_option maxHeartbeats 3200000 in
theorem with_any (f : Nat → Nat) (hf : W64 f) (rs : List Int) (a : Option Addr) (c : Nat) (hrs : ∀ r, r ∈ rs → 0 ≤ r ∧ r < 256) (hl : rs.length ≤ 4) (w : World) (hs : SIs w a rs) :
    Calls Tryd.prog 123 #[setV f, .slice a rs.length c] w fun e w' => e = .returned (setV (addS f rs)) ∧ Below w.heap.size w w' := by
  obtain ⟨n, hn⟩ : ∃ n, rs.length = n := ⟨_, rfl⟩
  have HN := Hid.out (p := Hid _) hn
  have HRS := Hid.out (p := Hid _) hrs
  have HF := Hid.out (p := Hid _) hf
  have HS := Hid.out (p := Hid _) hs
  rw [hn] at hl ⊢
  clear hn hrs hf hs
  go_enter Tryd.func123, Tryd.ntmps123
  go_wp2
  have H0 : Hid (((w.alloc (setO f)).alloc (setO noS)).heap[w.heap.size]? = some (setO (addS f (rs.take 0))) ∧ ((w.alloc (setO f)).alloc (setO noS)).heap[w.heap.size + 1]? = some (setO noS) ∧ Below w.heap.size w ((w.alloc (setO f)).alloc (setO noS))) := by
    refine ⟨box_later (heap_alloc_new w _) _, ?_, ((Below.refl _ _).alloc (Nat.le_refl _) _).alloc (by simp) _⟩
    have := heap_alloc_new (w.alloc (setO f)) (setO noS)
    rwa [World.size_alloc] at this
  go_loopw [9] (fun i wr => ∃ k : Nat, k ≤ n ∧ i = .int .i64 k ∧ Hid (wr.heap[w.heap.size]? = some (setO (addS f (rs.take k))) ∧ wr.heap[w.heap.size + 1]? = some (setO noS) ∧ Below w.heap.size w wr)) (fun i _ => n - (intOf i).toNat)
  case atStart => exact ⟨0, Nat.zero_le _, rfl, H0⟩
  case round =>
    obtain ⟨k, hk, rfl, HI⟩ := hrel
    clear H0
    by_cases hlt : k < n
    · obtain ⟨b, o, rfl, hc⟩ := HS.out k (by rw [HN.out]; exact hlt)
      obtain ⟨r, hr⟩ : ∃ r : Nat, rs.getD k 0 = (r : Int) ∧ r < 256 ∧ rs.take (k + 1) = rs.take k ++ [(r : Int)] := by
        have hkl : k < rs.length := by rw [HN.out]; exact hlt
        have hm := HRS.out _ (List.getElem_mem hkl)
        have e : rs.getD k 0 = rs[k] := by simp [List.getD, hkl]
        obtain ⟨r, hr⟩ : ∃ r : Nat, rs[k] = (r : Int) := ⟨rs[k].toNat, by omega⟩
        rw [hr] at hm e
        refine ⟨r, e, by omega, ?_⟩
        rw [List.take_add_one, List.getElem?_eq_getElem hkl, hr]
        rfl
      have hcw := (HI.out.2.2.cell (lt_of_cell hc)).trans hc
      rw [hr.1] at hcw
      obtain ⟨g, hg⟩ : ∃ g, addS f (rs.take k) = g := ⟨_, rfl⟩
      have HG := Hid.out (p := Hid _) hg
      have hbx := HI.out.1
      rw [hg] at hbx
      have hW : W64 g := by rw [← hg]; exact W64.addS HF.out
      obtain ⟨h1, h2⟩ := div_fact r
      obtain ⟨q, hq⟩ : ∃ q, r / 64 = q := ⟨_, rfl⟩
      obtain ⟨kk, hkk⟩ : ∃ kk, r % 64 = kk := ⟨_, rfl⟩
      have hk64 : kk < 64 := by omega
      have hq4 : q = 0 ∨ q = 1 ∨ q = 2 ∨ q = 3 := by omega
      have HE : Hid (∀ i, (if i = q then (bits .or .u64 (g i) (IntKind.u64.wrap (2 ^ min kk 64))) else ((g i : Nat) : Int)) = ((wth g r i : Nat) : Int)) := fun i => by
        unfold wth
        rw [hq, hkk]
        split
        · rw [shl_run hk64, bits_or_u64_nat _ _ (hW i) (pow_lt64 hk64)]
        · rfl
      have HR := Hid.out (p := Hid _) hr
      have HK := Hid.out (p := Hid _) hk64
      rw [hq] at h1
      rw [hkk] at h2
      obtain ⟨c0, c1, c2, c3⟩ := set_lay hbx
      have f0 := box_free (i := 0) hbx
      have f1 := box_free (i := 1) hbx
      have f2 := box_free (i := 2) hbx
      have f3 := box_free (i := 3) hbx
      clear hq hkk hr hk64 hg hc hW hbx
      rcases hq4 with rfl | rfl | rfl | rfl
      all_goals
        have e0 := HE.out 0
        have e1 := HE.out 1
        have e2 := HE.out 2
        have e3 := HE.out 3
        simp at e0 e1 e2 e3
        have HEE := Hid.out (p := Hid _) (And.intro e0 (And.intro e1 (And.intro e2 e3)))
        clear e0 e1 e2 e3 HE
        go_wp2
        go_region
        all_goals go_wp2
        all_goals go_roundw
        case rel =>
          have hbg := HI.out.1
          rw [HG.out] at hbg
          refine ⟨k + 1, by omega, by go_num, ?_⟩
          refine (⟨?_, ?_, ?_⟩ : _ ∧ _ ∧ _)
          · rw [HR.out.2.2, addS_snoc, HG.out, Int.toNat_natCast]
            refine (heap_set_same hbg).trans ?_
            simp [setO, ← HEE.out.1, ← HEE.out.2.1, ← HEE.out.2.2.1, ← HEE.out.2.2.2]
          · exact (Below.heap_setCell _ _ _ _ (by simp)).trans HI.out.2.1
          · exact (HI.out.2.2.setCell (by simp) _).drew
        case measure => simp [intOf]; omega
    · obtain rfl : k = n := by omega
      have hbx := HI.out.1
      rw [List.take_of_length_le (by rw [HN.out]; exact Nat.le_refl _)] at hbx
      obtain ⟨c0, c1, c2, c3⟩ := set_lay hbx
      obtain ⟨d0, d1, d2, d3⟩ := set_lay HI.out.2.1
      have f0 := box_free (i := 0) HI.out.2.1
      have f1 := box_free (i := 1) HI.out.2.1
      have f2 := box_free (i := 2) HI.out.2.1
      have f3 := box_free (i := 3) HI.out.2.1
      go_wp2
      have hs := set_store HI.out.2.1 (addS f rs)
      have hb : Below w.heap.size w ((((wr.setCell ⟨w.heap.size + 1, 0, none⟩ (.int .u64 (addS f rs 0))).setCell ⟨w.heap.size + 1, 1, none⟩ (.int .u64 (addS f rs 1))).setCell ⟨w.heap.size + 1, 2, none⟩ (.int .u64 (addS f rs 2))).setCell ⟨w.heap.size + 1, 3, none⟩ (.int .u64 (addS f rs 3))) := (((HI.out.2.2.setCell (by simp) _).setCell (by simp) _).setCell (by simp) _).setCell (by simp) _
      obtain ⟨V, hV⟩ : ∃ V, ((((wr.setCell ⟨w.heap.size + 1, 0, none⟩ (.int .u64 (addS f rs 0))).setCell ⟨w.heap.size + 1, 1, none⟩ (.int .u64 (addS f rs 1))).setCell ⟨w.heap.size + 1, 2, none⟩ (.int .u64 (addS f rs 2))).setCell ⟨w.heap.size + 1, 3, none⟩ (.int .u64 (addS f rs 3))) = V := ⟨_, rfl⟩
      rw [hV] at hs hb ⊢
      obtain ⟨t0, t1, t2, t3⟩ := set_lay hs
      refine bodyPost_ret (v := setV (addS f rs)) ?_ rfl ⟨rfl, hb⟩
      simp [results, Tryd.results123, go_sem, setV, t0, t1, t2, t3]
end

end Go.Proofs.YtkailbdjilkneaaDoor
