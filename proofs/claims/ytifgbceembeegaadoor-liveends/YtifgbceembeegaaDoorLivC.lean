/-
  What an order reads, what it writes, where it leads, by the program and by the document.
-/
import Derived.Test.YtifgbceembeegaaDoorLivP
import Derived.Test.YtifgbceembeegaaDoorAppB
import Derived.Test.YtifgbceembeegaaDoorBox
namespace Go.Proofs.YtifgbceembeegaaDoor
open Go.RowKit

theorem sis_new (V : World) (l : List Int) (g : Nat) (h : V.heap[g]? = some (.cells (intsV l).toArray 3)) : SIs V (some ⟨g, 0, none⟩) l := fun k hk => by
  refine ⟨g, 0, rfl, box_cell h ?_⟩
  rw [Nat.zero_add]
  simpa using intsV_at hk
theorem sis_nil (V : World) (a : Option Addr) : SIs V a [] := fun _ hk => absurd hk (Nat.not_lt_zero _)
theorem sis_one (w : World) (o : Obj) (x : Int) : SIs ((w.alloc o).alloc (.cells #[.int .i64 x] 3)) (some ⟨w.heap.size + 1, 0, none⟩) [x] := by
  refine sis_new _ [x] _ ?_
  have := heap_alloc_new (w.alloc o) (.cells #[.int .i64 x] 3)
  rw [World.size_alloc] at this
  exact this
theorem sis_two (w : World) (o : Obj) (x y : Int) : SIs ((w.alloc o).alloc (.cells #[.int .i64 x, .int .i64 y] 3)) (some ⟨w.heap.size + 1, 0, none⟩) [x, y] := by
  refine sis_new _ [x, y] _ ?_
  have := heap_alloc_new (w.alloc o) (.cells #[.int .i64 x, .int .i64 y] 3)
  rw [World.size_alloc] at this
  exact this
theorem below_two (w : World) (o p : Obj) : Below w.heap.size w ((w.alloc o).alloc p) := ((Below.refl _ _).alloc (Nat.le_refl _) _).alloc (by simp) _
theorem below_one (w : World) (o : Obj) : Below w.heap.size w (w.alloc o) := (Below.refl _ _).alloc (Nat.le_refl _) _

set_option maxHeartbeats 3200000 in
theorem reads_any (op a b c : Int) (ho : 1 ≤ op ∧ op ≤ 18) (w : World) :
    Calls Tryd.prog 42 #[ints4 op a b c] w fun e w' => ∃ ra rc, e = .returned (.slice ra (rdL op a b c).length rc) ∧ SIs w' ra (rdL op a b c) ∧ Below w.heap.size w w' := by
  rcases (by omega : op = 1 ∨ op = 2 ∨ op = 3 ∨ op = 4 ∨ op = 5 ∨ op = 6 ∨ op = 7 ∨ op = 8 ∨ op = 9 ∨ op = 10 ∨ op = 11 ∨ op = 12 ∨ op = 13 ∨ op = 14 ∨ op = 15 ∨ op = 16 ∨ op = 17 ∨ op = 18) with rfl | rfl | rfl | rfl | rfl | rfl | rfl | rfl | rfl | rfl | rfl | rfl | rfl | rfl | rfl | rfl | rfl | rfl
  all_goals
    clear ho
    go_enter Tryd.func42, Tryd.ntmps42
    go_wp2
    go_ret
    first
    | exact ⟨_, _, rfl, sis_two _ _ _ _, below_two _ _ _⟩
    | exact ⟨_, _, rfl, sis_one _ _ _, below_two _ _ _⟩
    | exact ⟨_, _, rfl, sis_nil _ _, below_one _ _⟩

set_option maxHeartbeats 3200000 in
theorem rreads_any (op a b c : Int) (ho : 1 ≤ op ∧ op ≤ 18) (w : World) :
    Calls Tryd.prog 35 #[ints4 op a b c] w fun e w' => ∃ ra rc, e = .returned (.slice ra (rdL op a b c).length rc) ∧ SIs w' ra (rdL op a b c) ∧ Below w.heap.size w w' := by
  rcases (by omega : op = 1 ∨ op = 2 ∨ op = 3 ∨ op = 4 ∨ op = 5 ∨ op = 6 ∨ op = 7 ∨ op = 8 ∨ op = 9 ∨ op = 10 ∨ op = 11 ∨ op = 12 ∨ op = 13 ∨ op = 14 ∨ op = 15 ∨ op = 16 ∨ op = 17 ∨ op = 18) with rfl | rfl | rfl | rfl | rfl | rfl | rfl | rfl | rfl | rfl | rfl | rfl | rfl | rfl | rfl | rfl | rfl | rfl
  all_goals
    clear ho
    go_enter Tryd.func35, Tryd.ntmps35
    go_wp2
    go_ret
    first
    | exact ⟨_, _, rfl, sis_two _ _ _ _, below_two _ _ _⟩
    | exact ⟨_, _, rfl, sis_one _ _ _, below_two _ _ _⟩
    | exact ⟨_, _, rfl, sis_nil _ _, below_one _ _⟩

set_option maxHeartbeats 3200000 in
theorem rwrites_any (op a b c : Int) (ho : 1 ≤ op ∧ op ≤ 18) (w : World) :
    Calls Tryd.prog 24 #[ints4 op a b c] w fun e w' => e = .returned (.int .i64 (wrL op a b)) ∧ Below w.heap.size w w' := by
  rcases (by omega : op = 1 ∨ op = 2 ∨ op = 3 ∨ op = 4 ∨ op = 5 ∨ op = 6 ∨ op = 7 ∨ op = 8 ∨ op = 9 ∨ op = 10 ∨ op = 11 ∨ op = 12 ∨ op = 13 ∨ op = 14 ∨ op = 15 ∨ op = 16 ∨ op = 17 ∨ op = 18) with rfl | rfl | rfl | rfl | rfl | rfl | rfl | rfl | rfl | rfl | rfl | rfl | rfl | rfl | rfl | rfl | rfl | rfl
  all_goals
    clear ho
    go_enter Tryd.func24, Tryd.ntmps24
    go_wp2
    go_ret
    exact ⟨rfl, below_one _ _⟩

set_option maxHeartbeats 3200000 in
theorem writes_any (op a b c : Int) (ho : 1 ≤ op ∧ op ≤ 18) (w : World) :
    Calls Tryd.prog 31 #[ints4 op a b c] w fun e w' => ((∃ x, e = .returned (.tuple #[.int .i64 x, .bool true]) ∧ x = wrL op a b ∧ (op = 1 ∨ op = 2 ∨ op = 3 ∨ op = 4 ∨ op = 5 ∨ op = 6 ∨ op = 7 ∨ op = 8 ∨ op = 10 ∨ op = 13)) ∨ (e = .returned (.tuple #[.int .i64 0, .bool false]) ∧ wrL op a b = -1)) ∧ Below w.heap.size w w' := by
  rcases (by omega : op = 1 ∨ op = 2 ∨ op = 3 ∨ op = 4 ∨ op = 5 ∨ op = 6 ∨ op = 7 ∨ op = 8 ∨ op = 9 ∨ op = 10 ∨ op = 11 ∨ op = 12 ∨ op = 13 ∨ op = 14 ∨ op = 15 ∨ op = 16 ∨ op = 17 ∨ op = 18) with rfl | rfl | rfl | rfl | rfl | rfl | rfl | rfl | rfl | rfl | rfl | rfl | rfl | rfl | rfl | rfl | rfl | rfl
  all_goals
    clear ho
    go_enter Tryd.func31, Tryd.ntmps31
    go_wp2
    go_ret2
    first
    | exact ⟨Or.inr ⟨rfl, rfl⟩, below_one _ _⟩
    | exact ⟨Or.inl ⟨_, rfl, rfl, by decide⟩, below_one _ _⟩

/-- The places that an order leads on to, as numbers. -/
def nxI (op a b : Int) (i : Nat) : List Int := (nxL op a b i).map fun (j : Nat) => (j : Int)
theorem nxI_jump {a b : Int} {i : Nat} (h : 0 ≤ a) : nxI 14 a b i = [a] := by
  unfold nxI nxL
  rw [if_pos rfl]
  simp
  omega
theorem nxI_zero {a b : Int} {i : Nat} (h : 0 ≤ b) : nxI 15 a b i = [(i : Int) + 1, b] := by
  unfold nxI nxL
  rw [if_neg (by decide), if_pos rfl]
  simp
  omega
theorem nxI_else {op a b : Int} {i : Nat} (h1 : op ≠ 14) (h2 : op ≠ 15) : nxI op a b i = [(i : Int) + 1] := by
  unfold nxI nxL
  rw [if_neg h1, if_neg h2]
  simp
theorem nxI_len (op a b : Int) (i : Nat) : (nxI op a b i).length = (nxL op a b i).length := by simp [nxI]

set_option maxHeartbeats 3200000 in
theorem next_any (op a b c : Int) (i : Nat) (hi : i ≤ 1000) (h14 : op = 14 → 0 ≤ a) (h15 : op = 15 → 0 ≤ b) (w : World) :
    Calls Tryd.prog 43 #[ints4 op a b c, .int .i64 i] w fun e w' => ∃ ra rc, e = .returned (.slice ra (nxI op a b i).length rc) ∧ SIs w' ra (nxI op a b i) ∧ Below w.heap.size w w' := by
  by_cases e14 : op = 14
  · subst e14
    rw [nxI_jump (h14 rfl)]
    clear h14 h15
    go_enter Tryd.func43, Tryd.ntmps43
    go_wp2
    go_ret
    exact ⟨_, _, rfl, sis_one _ _ _, below_two _ _ _⟩
  · have e14' : (op == 14) = false := by simpa using e14
    by_cases e15 : op = 15
    · subst e15
      rw [nxI_zero (h15 rfl)]
      clear h14 h15
      go_enter Tryd.func43, Tryd.ntmps43
      go_wp2
      go_ret
      exact ⟨_, _, rfl, sis_two _ _ _ _, below_two _ _ _⟩
    · have e15' : (op == 15) = false := by simpa using e15
      rw [nxI_else e14 e15]
      clear h14 h15 e14 e15
      go_enter Tryd.func43, Tryd.ntmps43
      go_wp2
      go_ret
      exact ⟨_, _, rfl, sis_one _ _ _, below_two _ _ _⟩

/-- An order in a slice. -/
def OrdAt (w : World) (ca : Option Addr) (i : Nat) (op a b c : Int) : Prop := ∃ g o, ca = some ⟨g, o, none⟩ ∧ w.cell? ⟨g, o + i * 4, none⟩ = some (.int .i64 op) ∧ w.cell? ⟨g, o + i * 4 + 1, none⟩ = some (.int .i64 a) ∧ w.cell? ⟨g, o + i * 4 + 2, none⟩ = some (.int .i64 b) ∧ w.cell? ⟨g, o + i * 4 + 3, none⟩ = some (.int .i64 c)
theorem OrdAt.below {w w' : World} {ca : Option Addr} {i : Nat} {op a b c : Int} (h : OrdAt w ca i op a b c) (hb : Below w.heap.size w w') : OrdAt w' ca i op a b c := by
  obtain ⟨g, o, e, c0, c1, c2, c3⟩ := h
  exact ⟨g, o, e, (hb.cell (lt_of_cell c0)).trans c0, (hb.cell (lt_of_cell c1)).trans c1, (hb.cell (lt_of_cell c2)).trans c2, (hb.cell (lt_of_cell c3)).trans c3⟩

set_option maxRecDepth 100000 in
set_option maxHeartbeats 3200000 in
theorem rnexts_all (w : World) (ca : Option Addr) (l cc : Nat) (op a b c : Int) (i : Nat) (hi : i < l) (hl : l ≤ 1000) (hord : OrdAt w ca i op a b c) (h14 : op = 14 → 0 ≤ a) (h15 : op = 15 → 0 ≤ b) :
    Calls Tryd.prog 25 #[.slice ca l cc, .int .i64 i] w fun e w' => ∃ ra rc, e = .returned (.slice ra (nxI op a b i).length rc) ∧ SIs w' ra (nxI op a b i) ∧ Below w.heap.size w w' := by
  obtain ⟨cb, co, rfl, c0, c1, c2, c3⟩ := hord
  have u0 := cell_up c0
  have u1 := cell_up c1
  have u2 := cell_up c2
  have u3 := cell_up c3
  by_cases e14 : op = 14
  · subst e14
    rw [nxI_jump (h14 rfl)]
    clear h14 h15
    go_enter Tryd.func25, Tryd.ntmps25
    go_wp2
    go_ret
    exact ⟨_, _, rfl, sis_one _ _ _, below_two _ _ _⟩
  · have e14' : (op == 14) = false := by simpa using e14
    by_cases e15 : op = 15
    · subst e15
      rw [nxI_zero (h15 rfl)]
      clear h14 h15
      go_enter Tryd.func25, Tryd.ntmps25
      go_wp2
      go_ret
      exact ⟨_, _, rfl, sis_two _ _ _ _, below_two _ _ _⟩
    · have e15' : (op == 15) = false := by simpa using e15
      rw [nxI_else e14 e15]
      clear h14 h15 e14 e15
      go_enter Tryd.func25, Tryd.ntmps25
      go_wp2
      go_ret
      exact ⟨_, _, rfl, sis_one _ _ _, below_two _ _ _⟩

end Go.Proofs.YtifgbceembeegaaDoor
