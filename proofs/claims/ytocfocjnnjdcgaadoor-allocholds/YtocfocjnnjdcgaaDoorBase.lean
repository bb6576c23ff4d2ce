/-
  What every text leans on: what lies in memory, rows that the call owns, an append to one of them.
  What chapter 1 says of a program's orders, as plain functions of numbers: which kinds of numbers an order has, whether a number may be, what is the first thing that is wrong.
  What the small functions of chapter 1 do, of the program and of the document's answer: sizes, limits, numbers, whether a number may be.
  Truths that grow.
  A region that only reads, in a round of a range over a function.
  A region that draws its order, in a round of a range over a function: loads that are held are taken first.
-/
import Derived.Test.YtocfocjnnjdcgaaDoorRows
import Derived.WalkKit
import Derived.WalkSpells
import Derived.WalkLawsBesides
import Derived.Lib.Strings
import Derived.Deep.AppendLies
import Derived.StillTailTactics
import Derived.Sort.BigQuietIn
import Derived.OwnWalkIn
import Derived.Deep.RegionHeld
namespace Go.Proofs.YtocfocjnnjdcgaaDoor
section
open Go.RowKit

theorem ret_int {k : IntKind} {a b : Int} (h : a = b) : Ending.returned (.int k a) = .returned (.int k b) := by rw [h]
theorem ret_bool {a b : Bool} (h : a = b) : Ending.returned (.bool a) = .returned (.bool b) := by rw [h]
theorem lt_of_cell {w : World} {a : Addr} {v : Value} (h : w.cell? a = some v) : a.block < w.heap.size := by
  rcases Nat.lt_or_ge a.block w.heap.size with h1 | h1
  · exact h1
  · unfold World.cell? at h
    rw [Array.getElem?_eq_none h1] at h; cases h
/-- What lies in memory lies there when more is made. -/
theorem cell_up {w : World} {a : Addr} {v : Value} (h : w.cell? a = some v) (o : Obj) : (w.alloc o).cell? a = some v := (World.cell?_alloc_lt _ _ _ (lt_of_cell h)).trans h
theorem cell_drw {w : World} {a : Addr} {v : Value} (h : w.cell? a = some v) : w.drew.cell? a = some v := h
theorem box_cell {w : World} {g i : Nat} {cs : Array Value} {t : TypeId} {u : Value} (h : w.heap[g]? = some (.cells cs t)) (hi : cs[i]? = some u) : w.cell? ⟨g, i, none⟩ = some u := by
  simp [World.cell?, h, hi]
theorem box_free {w : World} {g i : Nat} {cs : Array Value} {t : TypeId} (h : w.heap[g]? = some (.cells cs t)) : w.frozen? ⟨g, i, none⟩ = false := by
  simp [World.frozen?, h]
theorem box_later {w : World} {g : Nat} {o : Obj} (h : w.heap[g]? = some o) (p : Obj) : (w.alloc p).heap[g]? = some o := by
  have hl : g < w.heap.size := by
    rcases Nat.lt_or_ge g w.heap.size with h1 | h1
    · exact h1
    · rw [Array.getElem?_eq_none h1] at h; cases h
  exact (((Below.refl w.heap.size w).alloc (Nat.le_refl _) p).block _ hl).trans h
theorem below_drewN {B : Nat} {a w : World} (h : Below B a w) {k : Nat} : Below B a (w.drewN k) := ⟨h.os, h.tape, h.output, h.size, h.block⟩
theorem fam_keeps {w w' : World} {B : Nat} {e : TypeId} {size : Nat} {v : Value} {n : Nat} {xs : List Value} (h : w.ownsRow B e size v n xs) (hb : ∀ g, v.ownBlock = some g → w'.heap[g]? = w.heap[g]?) : w'.ownsRow B e size v n xs := by
  refine ⟨h.1, ?_⟩
  rcases h.2 with h0 | ⟨g, cap, cur, hv, hg, hh, r⟩
  · exact Or.inl h0
  · exact Or.inr ⟨g, cap, cur, hv, hg, by rw [hb g (by rw [hv]; rfl)]; exact hh, r⟩
theorem owns_below2 {w w' : World} {base : Nat} {e : TypeId} {size : Nat} {v : Value} {n : Nat} {xs : List Value} (h : w.ownsRow base e size v n xs) (hb : Below w.heap.size w w') : w'.ownsRow base e size v n xs := by
  refine ⟨h.1, ?_⟩
  rcases h.2 with h0 | ⟨g, cap, cur, hv, hg, hh, r⟩
  · exact Or.inl h0
  · have hlt : g < w.heap.size := by
      rcases Nat.lt_or_ge g w.heap.size with h1 | h1
      · exact h1
      · rw [Array.getElem?_eq_none h1] at hh; cases hh
    exact Or.inr ⟨g, cap, cur, hv, hg, by rw [hb.block g hlt]; exact hh, r⟩
theorem own_low {w : World} {B B' : Nat} {e : TypeId} {size : Nat} {v : Value} {n : Nat} {xs : List Value} (h : w.ownsRow B e size v n xs) (hB : B' ≤ B) : w.ownsRow B' e size v n xs := by
  refine ⟨h.1, ?_⟩
  rcases h.2 with h0 | ⟨g, cap, cur, hv, hg, r⟩
  · exact Or.inl h0
  · exact Or.inr ⟨g, cap, cur, hv, Nat.le_trans hB hg, r⟩
theorem owns_slice {w : World} {B : Nat} {e : TypeId} {size : Nat} {v : Value} {n : Nat} {xs : List Value} (h : w.ownsRow B e size v n xs) : ∃ a c, v = .slice a n c := by
  rcases h.2 with ⟨h0, h1⟩ | ⟨g, cp, cur, hv, _⟩
  · exact ⟨none, 0, by rw [h0, h1]⟩
  · exact ⟨_, _, hv⟩
/-- An append's run, kept whole. -/
def AppS (ts : Array TypeId) (ty : TypeId) (args : Array Value) : Sem Value := Builtin.append_ ts ty args
theorem appS_eq (ts : Array TypeId) (ty : TypeId) (args : Array Value) : Builtin.append_ ts ty args = AppS ts ty args := rfl
theorem info_is {e : TypeId} {z : Value} {size bytes : Nat} (h : (Tryd.prog.info? e).map (fun i => (i.zero, i.size, i.bytes)) = some (some z, size, bytes)) : ∃ i, Tryd.prog.info? e = some i ∧ i.zero = some z ∧ i.size = size ∧ i.bytes = bytes := by
  cases hi : Tryd.prog.info? e with
  | none => rw [hi] at h; simp at h
  | some i => rw [hi] at h; simp at h; exact ⟨i, rfl, h.1, h.2.1, h.2.2⟩
/-- An append to a row of one's own of what has just been laid: its run. -/
theorem app_row {T e : TypeId} {z : Value} {size bytes : Nat} (ht : Tryd.prog.underlying T = some (.slice e)) (hinfo : (Tryd.prog.info? e).map (fun i => (i.zero, i.size, i.bytes)) = some (some z, size, bytes)) (hzs : z.cells.size = size) (hsz : 0 < size)
    {w W : World} {B : Nat} {v : Value} {n : Nat} {xs : List Value} (hown : w.ownsRow B e size v n xs) (hb : Below w.heap.size w W) (hB : B ≤ w.heap.size) (m : Nat) (news : Array Value) (hl : news.size = m * size) (h1 : ∀ u ∈ news.toList, u.oneCell' = true) (hm : 0 < m) (h63 : n + m ≤ 1000000) (hby : bytes ≤ 1000) :
    ∃ g cap w3, (AppS #[T, T] T #[v, .slice (some ⟨W.heap.size, 0, none⟩) m m]).run Tryd.prog (W.alloc (.cells news e)) = .ok (.slice (some ⟨g, 0, none⟩) (n + m) cap) w3 ∧ w3.ownsRow B e size (.slice (some ⟨g, 0, none⟩) (n + m) cap) (n + m) (xs ++ news.toList) ∧ (W.alloc (.cells news e)).grownBy w3 v.ownBlock ∧ (v.ownBlock = some g ∨ g = W.heap.size + 1) := by
  obtain ⟨i, hi, hz0, hz1, hz2⟩ := info_is hinfo
  have hown' : (W.alloc (.cells news e)).ownsRow B e size v n xs := (fam_keeps hown (fun g hg => hb.block g (hown.lt g hg).2)).alloc _
  have hbs := hb.size
  obtain ⟨g, cap, w3, r1, r2, r3, r4, _⟩ := run_append_lies (P := Tryd.prog) (W.alloc (.cells news e)) T T B e i z size bytes ht hi hz0 hz1 hz2 hzs hsz v n xs hown' ⟨W.heap.size, 0, none⟩ m m news.toList (by simpa using hl) (World.news_of_block (cs := news) (t := e) (fr := (0, 0)) (heap_alloc_new W _)) h1 hm (by unfold maxLen; omega) (by
    have : (n + m) * bytes ≤ 1000000 * 1000 := Nat.mul_le_mul h63 hby
    omega) (by simp; omega) (W.heap.size + 1) (by simp)
  exact ⟨g, cap, w3, r1, r2, r3, r4⟩
/-- A region that draws its order, of operations that only read, and at its end some that wait for all of them. -/
theorem region_tail {P : Program} {id : Nat} {Q : Exit → Act → World → Prop} {a : Act} {w : World} {l : List Oper} (n : Nat) (hm : P.follows .mixedOrders = true) (hB : Region.lexTailB .any l.toArray n = true)
    (h : wpStill P l.toArray w.drew (fun a' => wpList P l.toArray Q (l.drop n) a' w.drew) (l.take n) a) : (Code.region id l.toArray true).wp P Q a w := wp_region_still_tail n hm hB h
end

section
/-- An order's three kinds of numbers: 0 nothing, 1 a register, 2 a word, 3 a lock, 4 a place, 5 any number. -/
def kd (op : Int) : Option (Int × Int × Int) :=
  if op = 1 then some (1, 5, 0) else if op = 2 then some (1, 1, 0) else if op = 3 then some (1, 1, 1) else if op = 4 then some (1, 1, 1)
  else if op = 5 then some (1, 1, 1) else if op = 6 then some (1, 1, 1) else if op = 7 then some (1, 1, 1) else if op = 8 then some (1, 2, 0)
  else if op = 9 then some (2, 1, 0) else if op = 10 then some (1, 1, 0) else if op = 11 then some (1, 1, 0) else if op = 12 then some (0, 0, 0)
  else if op = 13 then some (2, 1, 1) else if op = 14 then some (4, 0, 0) else if op = 15 then some (1, 4, 0) else if op = 16 then some (1, 0, 0)
  else if op = 17 then some (3, 0, 0) else if op = 18 then some (3, 0, 0) else none

/-- The least number from 0 on that is too great. -/
def lim (rg wd lk sz k : Int) : Int :=
  if k = 0 then 1 else if k = 1 then rg else if k = 2 then wd else if k = 3 then lk else if k = 4 then sz + 1 else 0

def okN (rg wd lk sz k n : Int) : Bool := (k == 5) || (decide (0 ≤ n) && decide (n < lim rg wd lk sz k))

/-- What is wrong with an order: 0 nothing, 2 there is none, 3 a number. -/
def ordE (rg wd lk sz op a b c : Int) : Int :=
  match kd op with
  | none => 2
  | some (x, y, z) => if okN rg wd lk sz x a && okN rg wd lk sz y b && okN rg wd lk sz z c then 0 else 3

/-- The first of f indices from k on at which E is not 0. -/
def firstBad (E : Nat → Int) : Nat → Nat → Option (Int × Int)
  | 0, _ => none
  | f + 1, k => if E k = 0 then firstBad E f (k + 1) else some (E k, k)

theorem firstBad_step {E : Nat → Int} {n k : Nat} (h : k < n) (h0 : E k = 0) : firstBad E (n - k) k = firstBad E (n - (k + 1)) (k + 1) := by
  obtain ⟨f, hf⟩ : ∃ f, n - k = f + 1 := ⟨n - k - 1, by omega⟩
  rw [hf, show n - (k + 1) = f by omega, firstBad, if_pos h0]
theorem firstBad_hit {E : Nat → Int} {n k : Nat} (h : k < n) (h0 : E k ≠ 0) : firstBad E (n - k) k = some (E k, (k : Int)) := by
  obtain ⟨f, hf⟩ : ∃ f, n - k = f + 1 := ⟨n - k - 1, by omega⟩
  rw [hf, firstBad, if_neg h0]
theorem firstBad_end {E : Nat → Int} {n k : Nat} (h : n ≤ k) : firstBad E (n - k) k = none := by
  rw [show n - k = 0 by omega, firstBad]

/-- The first thread at which R tells something. -/
def firstThread (R : Nat → Option (Int × Int)) : Nat → Nat → Int × Int × Int
  | 0, _ => (0, 0, 0)
  | f + 1, k => match R k with
    | none => firstThread R f (k + 1)
    | some (c, a) => (c, k, a)

theorem firstThread_step {R : Nat → Option (Int × Int)} {n k : Nat} (h : k < n) (h0 : R k = none) : firstThread R (n - k) k = firstThread R (n - (k + 1)) (k + 1) := by
  obtain ⟨f, hf⟩ : ∃ f, n - k = f + 1 := ⟨n - k - 1, by omega⟩
  rw [hf, show n - (k + 1) = f by omega, firstThread, h0]
theorem firstThread_hit {R : Nat → Option (Int × Int)} {n k : Nat} {c a : Int} (h : k < n) (h0 : R k = some (c, a)) : firstThread R (n - k) k = (c, (k : Int), a) := by
  obtain ⟨f, hf⟩ : ∃ f, n - k = f + 1 := ⟨n - k - 1, by omega⟩
  rw [hf, firstThread, h0]
theorem firstThread_end {R : Nat → Option (Int × Int)} {n k : Nat} (h : n ≤ k) : firstThread R (n - k) k = (0, 0, 0) := by
  rw [show n - k = 0 by omega, firstThread]

/-- One thread: too long, or its first order that is wrong. 'X t i j': of thread t, order i, number j (0: what it does). -/
def thr (rg wd lk : Int) (L : Nat → Nat) (X : Nat → Nat → Nat → Int) (t : Nat) : Option (Int × Int) :=
  if 400 < L t then some (1, 0) else firstBad (fun i => ordE rg wd lk (L t) (X t i 0) (X t i 1) (X t i 2) (X t i 3)) (L t) 0

/-- What is wrong with the sizes: 0 nothing, 1 too many, 3 a number. -/
def sizesE (n m : Nat) (lk rg : Int) : Int :=
  if (n : Int) < 1 ∨ 4 < (n : Int) ∨ 64 < (m : Int) then 1 else if lk < 0 ∨ 4 < lk ∨ rg < 1 ∨ 200 < rg then 3 else 0

/-- A2. -/
def chk (n : Nat) (L : Nat → Nat) (X : Nat → Nat → Nat → Int) (m : Nat) (lk rg : Int) : Int × Int × Int :=
  if sizesE n m lk rg ≠ 0 then (sizesE n m lk rg, 0, 0) else firstThread (thr rg m lk L X) n 0
end

section
open Go.RowKit

/-- A program as a value. -/
abbrev prgV (ca : Option Addr) (n cc : Nat) (wa : Option Addr) (m wc : Nat) (lk rg : Int) : Value := .agg #[.slice ca n cc, .slice wa m wc, .int .i64 lk, .int .i64 rg]
abbrev ints3 (a b c : Int) : Value := .agg #[.int .i64 a, .int .i64 b, .int .i64 c]
abbrev ints4 (a b c d : Int) : Value := .agg #[.int .i64 a, .int .i64 b, .int .i64 c, .int .i64 d]
abbrev ints6 (a b c d e f : Int) : Value := .agg #[.int .i64 a, .int .i64 b, .int .i64 c, .int .i64 d, .int .i64 e, .int .i64 f]

set_option maxHeartbeats 400000 in
theorem checkSizes_any (ca : Option Addr) (n cc : Nat) (wa : Option Addr) (m wc : Nat) (lk rg : Int) (w : World) :
    Calls Tryd.prog 65 #[prgV ca n cc wa m wc lk rg] w fun e w' => e = .returned (.int .i64 (sizesE n m lk rg)) ∧ Below w.heap.size w w' := by
  go_enter Tryd.func65, Tryd.ntmps65
  go_wp2
  all_goals go_ret
  all_goals refine ⟨ret_int ?_, (Below.refl _ _).alloc (Nat.le_refl _) _⟩
  all_goals (unfold sizesE)
  all_goals (split <;> first | omega | (split <;> omega))

set_option maxHeartbeats 400000 in
theorem limitsOf_any (ca : Option Addr) (n cc : Nat) (wa : Option Addr) (m wc : Nat) (lk rg : Int) (a : Option Addr) (l c : Nat) (hl : l ≤ 400) (w : World) :
    Calls Tryd.prog 67 #[prgV ca n cc wa m wc lk rg, .slice a l c] w fun e w' => e = .returned (ints6 1 rg m lk (l + 1) 0) ∧ Below w.heap.size w w' := by
  go_enter Tryd.func67, Tryd.ntmps67
  go_wp2
  exact bodyPost_ret (v := ints6 1 rg m lk (l + 1) 0) (by simp [results, Tryd.results67, go_sem]) rfl ⟨rfl, ((Below.refl _ _).alloc (Nat.le_refl _) _).alloc (by simp) _⟩

set_option maxHeartbeats 400000 in
theorem numbersOf_any (op x y z : Int) (w : World) :
    Calls Tryd.prog 85 #[ints4 op x y z] w fun e w' => e = .returned (ints3 x y z) ∧ Below w.heap.size w w' := by
  go_enter Tryd.func85, Tryd.ntmps85
  go_wp2
  exact bodyPost_ret (v := ints3 x y z) (by simp [results, Tryd.results85, go_sem]) rfl ⟨rfl, ((Below.refl _ _).alloc (Nat.le_refl _) _).alloc (by simp) _⟩

set_option maxHeartbeats 800000 in
theorem allow_any (rg wd lk sz k n : Int) (hk : 0 ≤ k ∧ k ≤ 5) (w : World) :
    Calls Tryd.prog 87 #[ints6 1 rg wd lk (sz + 1) 0, .int .i64 k, .int .i64 n] w fun e w' => e = .returned (.bool (okN rg wd lk sz k n)) ∧ Below w.heap.size w w' := by
  rcases (by omega : k = 0 ∨ k = 1 ∨ k = 2 ∨ k = 3 ∨ k = 4 ∨ k = 5) with rfl | rfl | rfl | rfl | rfl | rfl
  all_goals
    go_enter Tryd.func87, Tryd.ntmps87
    go_wp2
    all_goals go_ret
    all_goals refine ⟨ret_bool ?_, (Below.refl _ _).alloc (Nat.le_refl _) _⟩
    all_goals (simp [okN, lim] <;> omega)

/-- The kind as the document's letter: r, w, l, c, n; 0 for none. -/
def letter (k : Int) : Int := if k = 1 then 114 else if k = 2 then 119 else if k = 3 then 108 else if k = 4 then 99 else 110

set_option maxHeartbeats 800000 in
theorem fits_any (ca : Option Addr) (n cc : Nat) (wa : Option Addr) (m wc : Nat) (lk rg : Int) (l : Nat) (hl : l ≤ 400) (k x : Int) (hk : 1 ≤ k ∧ k ≤ 5) (w : World) :
    Calls Tryd.prog 33 #[prgV ca n cc wa m wc lk rg, .int .i64 l, .int .u8 (letter k), .int .i64 x] w fun e w' => e = .returned (.bool (okN rg m lk l k x)) ∧ Below w.heap.size w w' := by
  rcases (by omega : k = 1 ∨ k = 2 ∨ k = 3 ∨ k = 4 ∨ k = 5) with rfl | rfl | rfl | rfl | rfl
  all_goals
    simp only [letter]
    go_enter Tryd.func33, Tryd.ntmps33
    go_wp2
    all_goals go_ret
    all_goals refine ⟨ret_bool ?_, (Below.refl _ _).alloc (Nat.le_refl _) _⟩
    all_goals (simp [okN, lim] <;> omega)

set_option maxHeartbeats 400000 in
theorem numbers_any (op x y z : Int) (w : World) :
    Calls Tryd.prog 32 #[ints4 op x y z] w fun e w' => e = .returned (.slice (some ⟨w.heap.size + 1, 0, none⟩) 3 3) ∧ w'.heap.size = w.heap.size + 2 ∧
      (w'.cell? ⟨w.heap.size + 1, 0, none⟩ = some (.int .i64 x) ∧ w'.cell? ⟨w.heap.size + 1, 1, none⟩ = some (.int .i64 y) ∧ w'.cell? ⟨w.heap.size + 1, 2, none⟩ = some (.int .i64 z)) ∧ Below w.heap.size w w' := by
  go_enter Tryd.func32, Tryd.ntmps32
  go_wp2
  go_ret
  exact ⟨rfl, by simp, ⟨by simp, by simp, by simp⟩, ((Below.refl _ _).alloc (Nat.le_refl _) _).alloc (by simp) _⟩

theorem numbers_some (op x y z : Int) (w : World) :
    Calls Tryd.prog 32 #[ints4 op x y z] w fun e w' => ∃ lb : Nat, e = .returned (.slice (some ⟨lb, 0, none⟩) 3 3) ∧ lb < w'.heap.size ∧
      (w'.cell? ⟨lb, 0, none⟩ = some (.int .i64 x) ∧ w'.cell? ⟨lb, 1, none⟩ = some (.int .i64 y) ∧ w'.cell? ⟨lb, 2, none⟩ = some (.int .i64 z)) ∧ Below w.heap.size w w' := by
  refine (numbers_any op x y z w).mono ?_
  rintro e w' ⟨rfl, h1, h2, h3⟩
  exact ⟨_, rfl, by omega, h2, h3⟩

/-- An order's name. -/
def nm (op : Int) : ByteArray :=
  if op = 1 then ⟨#[99, 111, 110, 115, 116]⟩
  else if op = 2 then ⟨#[109, 111, 118, 101]⟩
  else if op = 3 then ⟨#[97, 100, 100]⟩
  else if op = 4 then ⟨#[115, 117, 98]⟩
  else if op = 5 then ⟨#[109, 117, 108]⟩
  else if op = 6 then ⟨#[108, 101, 115, 115]⟩
  else if op = 7 then ⟨#[115, 97, 109, 101]⟩
  else if op = 8 then ⟨#[108, 111, 97, 100]⟩
  else if op = 9 then ⟨#[115, 116, 111, 114, 101]⟩
  else if op = 10 then ⟨#[108, 111, 97, 100, 97, 116]⟩
  else if op = 11 then ⟨#[115, 116, 111, 114, 101, 97, 116]⟩
  else if op = 12 then ⟨#[102, 101, 110, 99, 101]⟩
  else if op = 13 then ⟨#[99, 97, 115]⟩
  else if op = 14 then ⟨#[106, 117, 109, 112]⟩
  else if op = 15 then ⟨#[122, 101, 114, 111]⟩
  else if op = 16 then ⟨#[112, 114, 105, 110, 116]⟩
  else if op = 17 then ⟨#[108, 111, 99, 107]⟩
  else if op = 18 then ⟨#[117, 110, 108, 111, 99, 107]⟩
  else ⟨#[]⟩
/-- An order's kinds, in the document's letters. -/
def ks (op : Int) : ByteArray :=
  if op = 1 then ⟨#[114, 110]⟩
  else if op = 2 then ⟨#[114, 114]⟩
  else if op = 3 then ⟨#[114, 114, 114]⟩
  else if op = 4 then ⟨#[114, 114, 114]⟩
  else if op = 5 then ⟨#[114, 114, 114]⟩
  else if op = 6 then ⟨#[114, 114, 114]⟩
  else if op = 7 then ⟨#[114, 114, 114]⟩
  else if op = 8 then ⟨#[114, 119]⟩
  else if op = 9 then ⟨#[119, 114]⟩
  else if op = 10 then ⟨#[114, 114]⟩
  else if op = 11 then ⟨#[114, 114]⟩
  else if op = 12 then ⟨#[]⟩
  else if op = 13 then ⟨#[119, 114, 114]⟩
  else if op = 14 then ⟨#[99]⟩
  else if op = 15 then ⟨#[114, 99]⟩
  else if op = 16 then ⟨#[114]⟩
  else if op = 17 then ⟨#[108]⟩
  else if op = 18 then ⟨#[108]⟩
  else ⟨#[]⟩

theorem op_cases (op : Int) : (op < 1 ∨ 18 < op) ∨ op = 1 ∨ op = 2 ∨ op = 3 ∨ op = 4 ∨ op = 5 ∨ op = 6 ∨ op = 7 ∨ op = 8 ∨ op = 9 ∨ op = 10 ∨ op = 11 ∨ op = 12 ∨ op = 13 ∨ op = 14 ∨ op = 15 ∨ op = 16 ∨ op = 17 ∨ op = 18 := by omega
theorem nm_out {op : Int} (h : op < 1 ∨ 18 < op) : nm op = ⟨#[]⟩ := by
  unfold nm; repeat rw [if_neg (by omega)]
theorem ks_out {op : Int} (h : op < 1 ∨ 18 < op) : ks op = ⟨#[]⟩ := by
  unfold ks; repeat rw [if_neg (by omega)]
theorem kd_out {op : Int} (h : op < 1 ∨ 18 < op) : kd op = none := by
  unfold kd; repeat rw [if_neg (by omega)]

set_option maxHeartbeats 1000000 in
theorem name_any (op : Int) (w : World) :
    Calls Tryd.prog 31 #[.int .i64 op] w fun e w' => e = .returned (.tuple #[.string (nm op), .string (ks op)]) ∧ w' = w := by
  rcases op_cases op with h | rfl | rfl | rfl | rfl | rfl | rfl | rfl | rfl | rfl | rfl | rfl | rfl | rfl | rfl | rfl | rfl | rfl | rfl
  · rw [nm_out h, ks_out h]
    go_enter Tryd.func31, Tryd.ntmps31
    go_wp2
    go_ret2
    exact ⟨rfl, rfl⟩
  all_goals
    go_enter Tryd.func31, Tryd.ntmps31
    go_wp2
    go_ret2
    exact ⟨rfl, rfl⟩
end

section
def cntF (R : List Bool) : Nat := (R.filter fun b => !b).length
theorem cnt_set : ∀ {R : List Bool} {j : Nat}, R.getD j true = false → cntF (R.set j true) < cntF R
  | [], j, h => by simp at h
  | b :: R, 0, h => by
    have : b = false := h
    subst this
    simp [cntF]
  | b :: R, j + 1, h => by
    have := cnt_set (R := R) (j := j) (by simpa using h)
    cases b
    · simpa [cntF] using this
    · simpa [cntF] using this
theorem getD_setT {R : List Bool} {j i : Nat} (hj : j < R.length) : (R.set j true).getD i false = if i = j then true else R.getD i false := by
  rw [List.getD_eq_getElem?_getD, List.getD_eq_getElem?_getD]
  by_cases e : i = j
  · subst e
    rw [List.getElem?_set_self hj, if_pos rfl]
    rfl
  · rw [List.getElem?_set_ne (fun x => e x.symm), if_neg e]
end

section
open Go.RowKit

section
variable {lp n : Nat} {P : Program} {ops : Array Oper} {Q : Exit → Act → World → Prop}
theorem upon_round {o : Oper} {a : Act} {next : Act → World → Prop} {r : Result Next} (h : o.uponIn Fence.wide n P a next Q r) : o.uponIn (Fence.wide.inRound lp) n P a next Q r := by
  cases r with
  | ok x w =>
    cases x with
    | value v => exact h
    | skip => exact h
    | defer d => exact h
    | enter f args => exact h
    | row row args => exact h
    | round l f tmps assign body => exact h
    | _ => exact h
  | halt x w => cases x <;> exact h
theorem ops_round (hd : ∀ (i : Nat) (o : Oper), ops[i]? = some o → ∀ c, o.op ≠ Op.defer c) : ∀ (l : List Nat) (a : Act) (w : World), wpOpsIn Fence.wide n P ops Q l a w → wpOpsIn (Fence.wide.inRound lp) n P ops Q l a w
  | [], _, _, h => h
  | i :: rest, a, w, h => by
    rw [wpOpsIn] at h ⊢
    cases ho : ops[i]? with
    | none =>
      rw [ho] at h
      exact ops_round hd rest a w h
    | some o =>
      rw [ho] at h
      simp only at h ⊢
      split
      · rename_i hw
        rw [if_pos hw] at h
        have h2 := Oper.wpIn_mono (fun a w => ops_round hd rest a w) h
        refine ⟨fun _ _ => trivial, ?_⟩
        have h3 := h2.2
        rw [Oper.semAt_plain _ _ _ (hd i o ho)] at h3 ⊢
        exact upon_round h3
      · rename_i hw
        rw [if_neg hw] at h
        exact ⟨fun _ _ => trivial, ops_round hd rest _ w h.2⟩
def noDef (o : Oper) : Bool := match o.op with
  | .defer _ => false
  | _ => true
end
end

section
open Go.RowKit

section
variable {lp n : Nat} {P : Program} {ops : Array Oper} {Q : Exit → Act → World → Prop}
theorem upon_wide {o : Oper} {a : Act} {next : Act → World → Prop} {r : Result Next} (h : o.upon P a next Q r) : o.uponIn Fence.wide n P a next Q r := by
  cases r with
  | ok x w =>
    cases x with
    | value v => exact h
    | skip => exact h
    | defer d => exact h
    | enter f args => exact ⟨fun e => absurd e (by decide), callsIn_wide.2 h⟩
    | row row args => exact ⟨fun e => absurd e (by decide), fun c cs _ => let ⟨v, w', r, s⟩ := h c cs; ⟨v, w', r, stepsIn_wide.2 s⟩⟩
    | round l f tmps assign body => exact h.elim
    | _ => exact h
  | halt x w => cases x <;> exact h
theorem ops_wide (hno : ¬ LetsOut Q) : ∀ (l : List Nat) (a : Act) (w : World), wpOps P ops Q l a w → wpOpsIn Fence.wide n P ops Q l a w
  | [], _, _, h => h
  | i :: rest, a, w, h => by
    rw [wpOps] at h
    rw [wpOpsIn]
    cases ho : ops[i]? with
    | none =>
      rw [ho] at h
      exact ops_wide hno rest a w h
    | some o =>
      rw [ho] at h
      simp only at h ⊢
      split
      · rename_i hw
        rw [if_pos hw] at h
        rcases h with h | h
        · have h2 : o.wpIn Fence.wide n P a w (wpOps P ops Q rest) Q := ⟨fun _ _ => trivial, upon_wide h⟩
          exact Oper.wpIn_mono (fun a w => ops_wide hno rest a w) h2
        · exact absurd h.2 hno
      · rename_i hw
        rw [if_neg hw] at h
        exact ⟨fun _ _ => trivial, ops_wide hno rest _ w h⟩
theorem region_held_round {id : Nat} {a : Act} {w : World} {l : List Oper} {S : World → Prop} (hd : l.all noDef = true) (hm : P.follows .mixedOrders = true) (hno : ¬ LetsOut Q) (hS : S w.drew)
    (h : S w.drew → wpAnyH P .any l.toArray Q S l.toArray.size (Array.replicate l.toArray.size false) a w.drew) : (Code.region id l.toArray true).wpIn (Fence.wide.inRound lp) n P Q a w := by
  have hd2 : ∀ (i : Nat) (o : Oper), l.toArray[i]? = some o → ∀ c, o.op ≠ Op.defer c := fun i o ho c hc => by
    have hm := List.mem_of_getElem? (by simpa using ho : l[i]? = some o)
    have := List.all_eq_true.1 hd o hm
    unfold noDef at this
    rw [hc] at this
    cases this
  refine wpIn_region_draw fun t => ops_round hd2 _ _ _ (ops_wide hno _ _ _ ?_)
  simp only [Region.schedule, hm, Bool.true_or, if_true]
  exact wpAny_sound _ t _ a _ (wpAny_of_held _ _ _ _ (h hS))
end
end

end Go.Proofs.YtocfocjnnjdcgaaDoor
