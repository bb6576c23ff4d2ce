/-
  What the small functions of chapter 1 do, of the program and of the document's answer: sizes, limits, numbers, whether a number may be.
-/
import Derived.Test.YtocfocjnnjdcgaaDoorPlain
import Derived.WalkKit
import Derived.WalkSpells
import Derived.WalkLawsBesides
namespace Go.Proofs.YtocfocjnnjdcgaaDoor
open Go.RowKit

/-- A program as a value. -/
abbrev prgV (ca : Option Addr) (n cc : Nat) (wa : Option Addr) (m wc : Nat) (lk rg : Int) : Value := .agg #[.slice ca n cc, .slice wa m wc, .int .i64 lk, .int .i64 rg]
abbrev ints3 (a b c : Int) : Value := .agg #[.int .i64 a, .int .i64 b, .int .i64 c]
abbrev ints4 (a b c d : Int) : Value := .agg #[.int .i64 a, .int .i64 b, .int .i64 c, .int .i64 d]
abbrev ints6 (a b c d e f : Int) : Value := .agg #[.int .i64 a, .int .i64 b, .int .i64 c, .int .i64 d, .int .i64 e, .int .i64 f]

set_option maxHeartbeats 400000 in
theorem checkSizes_any (ca : Option Addr) (n cc : Nat) (wa : Option Addr) (m wc : Nat) (lk rg : Int) (w : World) :
    Calls Tryd.prog 65 #[prgV ca n cc wa m wc lk rg] w fun e w' => e = .returned (.int .i64 (sizesE n m lk rg)) ∧ Below w.heap.size w w' := by
  go_enter Tryd.func65, Tryd.ntmps65
  go_wp2
  all_goals go_ret
  all_goals refine ⟨ret_int ?_, (Below.refl _ _).alloc (Nat.le_refl _) _⟩
  all_goals (unfold sizesE)
  all_goals (split <;> first | omega | (split <;> omega))

set_option maxHeartbeats 400000 in
theorem limitsOf_any (ca : Option Addr) (n cc : Nat) (wa : Option Addr) (m wc : Nat) (lk rg : Int) (a : Option Addr) (l c : Nat) (hl : l ≤ 400) (w : World) :
    Calls Tryd.prog 67 #[prgV ca n cc wa m wc lk rg, .slice a l c] w fun e w' => e = .returned (ints6 1 rg m lk (l + 1) 0) ∧ Below w.heap.size w w' := by
  go_enter Tryd.func67, Tryd.ntmps67
  go_wp2
  exact bodyPost_ret (v := ints6 1 rg m lk (l + 1) 0) (by simp [results, Tryd.results67, go_sem]) rfl ⟨rfl, ((Below.refl _ _).alloc (Nat.le_refl _) _).alloc (by simp) _⟩

set_option maxHeartbeats 400000 in
theorem numbersOf_any (op x y z : Int) (w : World) :
    Calls Tryd.prog 85 #[ints4 op x y z] w fun e w' => e = .returned (ints3 x y z) ∧ Below w.heap.size w w' := by
  go_enter Tryd.func85, Tryd.ntmps85
  go_wp2
  exact bodyPost_ret (v := ints3 x y z) (by simp [results, Tryd.results85, go_sem]) rfl ⟨rfl, ((Below.refl _ _).alloc (Nat.le_refl _) _).alloc (by simp) _⟩

set_option maxHeartbeats 800000 in
theorem allow_any (rg wd lk sz k n : Int) (hk : 0 ≤ k ∧ k ≤ 5) (w : World) :
    Calls Tryd.prog 87 #[ints6 1 rg wd lk (sz + 1) 0, .int .i64 k, .int .i64 n] w fun e w' => e = .returned (.bool (okN rg wd lk sz k n)) ∧ Below w.heap.size w w' := by
  rcases (by omega : k = 0 ∨ k = 1 ∨ k = 2 ∨ k = 3 ∨ k = 4 ∨ k = 5) with rfl | rfl | rfl | rfl | rfl | rfl
  all_goals
    go_enter Tryd.func87, Tryd.ntmps87
    go_wp2
    all_goals go_ret
    all_goals refine ⟨ret_bool ?_, (Below.refl _ _).alloc (Nat.le_refl _) _⟩
    all_goals (simp [okN, lim] <;> omega)

/-- The kind as the document's letter: r, w, l, c, n; 0 for none. -/
def letter (k : Int) : Int := if k = 1 then 114 else if k = 2 then 119 else if k = 3 then 108 else if k = 4 then 99 else 110

set_option maxHeartbeats 800000 in
theorem fits_any (ca : Option Addr) (n cc : Nat) (wa : Option Addr) (m wc : Nat) (lk rg : Int) (l : Nat) (hl : l ≤ 400) (k x : Int) (hk : 1 ≤ k ∧ k ≤ 5) (w : World) :
    Calls Tryd.prog 33 #[prgV ca n cc wa m wc lk rg, .int .i64 l, .int .u8 (letter k), .int .i64 x] w fun e w' => e = .returned (.bool (okN rg m lk l k x)) ∧ Below w.heap.size w w' := by
  rcases (by omega : k = 1 ∨ k = 2 ∨ k = 3 ∨ k = 4 ∨ k = 5) with rfl | rfl | rfl | rfl | rfl
  all_goals
    simp only [letter]
    go_enter Tryd.func33, Tryd.ntmps33
    go_wp2
    all_goals go_ret
    all_goals refine ⟨ret_bool ?_, (Below.refl _ _).alloc (Nat.le_refl _) _⟩
    all_goals (simp [okN, lim] <;> omega)

set_option maxHeartbeats 400000 in
theorem numbers_any (op x y z : Int) (w : World) :
    Calls Tryd.prog 32 #[ints4 op x y z] w fun e w' => e = .returned (.slice (some ⟨w.heap.size + 1, 0, none⟩) 3 3) ∧ w'.heap.size = w.heap.size + 2 ∧
      (w'.cell? ⟨w.heap.size + 1, 0, none⟩ = some (.int .i64 x) ∧ w'.cell? ⟨w.heap.size + 1, 1, none⟩ = some (.int .i64 y) ∧ w'.cell? ⟨w.heap.size + 1, 2, none⟩ = some (.int .i64 z)) ∧ Below w.heap.size w w' := by
  go_enter Tryd.func32, Tryd.ntmps32
  go_wp2
  go_ret
  exact ⟨rfl, by simp, ⟨by simp, by simp, by simp⟩, ((Below.refl _ _).alloc (Nat.le_refl _) _).alloc (by simp) _⟩

theorem numbers_some (op x y z : Int) (w : World) :
    Calls Tryd.prog 32 #[ints4 op x y z] w fun e w' => ∃ lb : Nat, e = .returned (.slice (some ⟨lb, 0, none⟩) 3 3) ∧ lb < w'.heap.size ∧
      (w'.cell? ⟨lb, 0, none⟩ = some (.int .i64 x) ∧ w'.cell? ⟨lb, 1, none⟩ = some (.int .i64 y) ∧ w'.cell? ⟨lb, 2, none⟩ = some (.int .i64 z)) ∧ Below w.heap.size w w' := by
  refine (numbers_any op x y z w).mono ?_
  rintro e w' ⟨rfl, h1, h2, h3⟩
  exact ⟨_, rfl, by omega, h2, h3⟩

/-- An order's name. -/
def nm (op : Int) : ByteArray :=
  if op = 1 then ⟨#[99, 111, 110, 115, 116]⟩
  else if op = 2 then ⟨#[109, 111, 118, 101]⟩
  else if op = 3 then ⟨#[97, 100, 100]⟩
  else if op = 4 then ⟨#[115, 117, 98]⟩
  else if op = 5 then ⟨#[109, 117, 108]⟩
  else if op = 6 then ⟨#[108, 101, 115, 115]⟩
  else if op = 7 then ⟨#[115, 97, 109, 101]⟩
  else if op = 8 then ⟨#[108, 111, 97, 100]⟩
  else if op = 9 then ⟨#[115, 116, 111, 114, 101]⟩
  else if op = 10 then ⟨#[108, 111, 97, 100, 97, 116]⟩
  else if op = 11 then ⟨#[115, 116, 111, 114, 101, 97, 116]⟩
  else if op = 12 then ⟨#[102, 101, 110, 99, 101]⟩
  else if op = 13 then ⟨#[99, 97, 115]⟩
  else if op = 14 then ⟨#[106, 117, 109, 112]⟩
  else if op = 15 then ⟨#[122, 101, 114, 111]⟩
  else if op = 16 then ⟨#[112, 114, 105, 110, 116]⟩
  else if op = 17 then ⟨#[108, 111, 99, 107]⟩
  else if op = 18 then ⟨#[117, 110, 108, 111, 99, 107]⟩
  else ⟨#[]⟩
/-- An order's kinds, in the document's letters. -/
def ks (op : Int) : ByteArray :=
  if op = 1 then ⟨#[114, 110]⟩
  else if op = 2 then ⟨#[114, 114]⟩
  else if op = 3 then ⟨#[114, 114, 114]⟩
  else if op = 4 then ⟨#[114, 114, 114]⟩
  else if op = 5 then ⟨#[114, 114, 114]⟩
  else if op = 6 then ⟨#[114, 114, 114]⟩
  else if op = 7 then ⟨#[114, 114, 114]⟩
  else if op = 8 then ⟨#[114, 119]⟩
  else if op = 9 then ⟨#[119, 114]⟩
  else if op = 10 then ⟨#[114, 114]⟩
  else if op = 11 then ⟨#[114, 114]⟩
  else if op = 12 then ⟨#[]⟩
  else if op = 13 then ⟨#[119, 114, 114]⟩
  else if op = 14 then ⟨#[99]⟩
  else if op = 15 then ⟨#[114, 99]⟩
  else if op = 16 then ⟨#[114]⟩
  else if op = 17 then ⟨#[108]⟩
  else if op = 18 then ⟨#[108]⟩
  else ⟨#[]⟩

theorem op_cases (op : Int) : (op < 1 ∨ 18 < op) ∨ op = 1 ∨ op = 2 ∨ op = 3 ∨ op = 4 ∨ op = 5 ∨ op = 6 ∨ op = 7 ∨ op = 8 ∨ op = 9 ∨ op = 10 ∨ op = 11 ∨ op = 12 ∨ op = 13 ∨ op = 14 ∨ op = 15 ∨ op = 16 ∨ op = 17 ∨ op = 18 := by omega
theorem nm_out {op : Int} (h : op < 1 ∨ 18 < op) : nm op = ⟨#[]⟩ := by
  unfold nm; repeat rw [if_neg (by omega)]
theorem ks_out {op : Int} (h : op < 1 ∨ 18 < op) : ks op = ⟨#[]⟩ := by
  unfold ks; repeat rw [if_neg (by omega)]
theorem kd_out {op : Int} (h : op < 1 ∨ 18 < op) : kd op = none := by
  unfold kd; repeat rw [if_neg (by omega)]

set_option maxHeartbeats 1000000 in
theorem name_any (op : Int) (w : World) :
    Calls Tryd.prog 31 #[.int .i64 op] w fun e w' => e = .returned (.tuple #[.string (nm op), .string (ks op)]) ∧ w' = w := by
  rcases op_cases op with h | rfl | rfl | rfl | rfl | rfl | rfl | rfl | rfl | rfl | rfl | rfl | rfl | rfl | rfl | rfl | rfl | rfl | rfl
  · rw [nm_out h, ks_out h]
    go_enter Tryd.func31, Tryd.ntmps31
    go_wp2
    go_ret2
    exact ⟨rfl, rfl⟩
  all_goals
    go_enter Tryd.func31, Tryd.ntmps31
    go_wp2
    go_ret2
    exact ⟨rfl, rfl⟩

end Go.Proofs.YtocfocjnnjdcgaaDoor
