/-
  Whether a thread is able to do its next order.
  One that waited is done; whether a number is a word's; a store.
  What can be picked, all of it.
  A state that is being begun: its words, one lock more, one thread more.
  The document's state ahead of the first step.
  The box of a program that was handed in.
  A program that is handed in, read: its orders lie in memory, its numbers fit.
  A program and a script that are handed in, opened.
-/
import Derived.Test.YtipdnfpomdcenacGreatDoorOrder
import Derived.Test.YtipdnfpomdcenacGreatDoorSOk
import Derived.Deep.QuietTactic
import Derived.BigQuiet
import Derived.BigRegion
import Derived.Deep.AppendSrc
import Derived.Deep.OwnRows
import Derived.Test.YtipdnfpomdcenacGreatDoorPlain
import Derived.ProofKit
import Derived.Lib.SmallJoins
import Derived.Deep.Slices
namespace Go.Proofs.YtipdnfpomdcenacGreatDoor
section
open Go.RowKit

theorem below_drewN {B : Nat} {a w : World} (h : Below B a w) {k : Nat} : Below B a (w.drewN k) := ⟨h.os, h.tape, h.output, h.size, h.block⟩

/-- What an order's number says of whether a thread with k that wait is able to do it. -/
def ableO (own : List Int) (k : Nat) (op a : Int) : Bool :=
  if op = 9 ∨ op = 11 ∨ op = 18 then decide (k < 3)
  else if op = 12 ∨ op = 13 then decide (k = 0)
  else if op = 17 then decide (k = 0) && decide (own.getD a.toNat 0 = -1)
  else true
theorem ableT_more {L : Nat → Nat} {X : Nat → Nat → Nat → Int} {s : Sx} {t : Nat} (h : (thOf s t).pc < L t) : ableT L X s t = ableO s.own (thOf s t).wait.length (opT X s t 0) (opT X s t 1) := by
  unfold ableT endedT
  rw [decide_eq_false (by omega)]
  rfl
theorem ableT_ended {L : Nat → Nat} {X : Nat → Nat → Nat → Int} {s : Sx} {t : Nat} (h : L t ≤ (thOf s t).pc) : ableT L X s t = false := by
  unfold ableT endedT
  rw [decide_eq_true h]
  rfl
end

section
open Go.RowKit

theorem frozen_up {w : World} {a : Addr} (ha : a.block < w.heap.size) (h : w.frozen? a = false) (o : Obj) : (w.alloc o).frozen? a = false := (World.frozen?_of_block (Below.heap_alloc w o a.block ha)).trans h
/-- An append's run, kept whole. -/
def AppS (ts : Array TypeId) (ty : TypeId) (args : Array Value) : Sem Value := Builtin.append_ ts ty args
theorem appS_eq (ts : Array TypeId) (ty : TypeId) (args : Array Value) : Builtin.append_ ts ty args = AppS ts ty args := rfl
theorem info_is {e : TypeId} {z : Value} {size bytes : Nat} (h : (Tryz.prog.info? e).map (fun i => (i.zero, i.size, i.bytes)) = some (some z, size, bytes)) : ∃ i, Tryz.prog.info? e = some i ∧ i.zero = some z ∧ i.size = size ∧ i.bytes = bytes := by
  cases hi : Tryz.prog.info? e with
  | none => rw [hi] at h; simp at h
  | some i => rw [hi] at h; simp at h; exact ⟨i, rfl, h.1, h.2.1, h.2.2⟩
/-- An append to a row of one's own of what has just been laid: its run. -/
theorem app_row {T e : TypeId} {z : Value} {size bytes : Nat} (ht : Tryz.prog.underlying T = some (.slice e)) (hinfo : (Tryz.prog.info? e).map (fun i => (i.zero, i.size, i.bytes)) = some (some z, size, bytes)) (hzs : z.cells.size = size) (hsz : 0 < size)
    {w W : World} {B : Nat} {v : Value} {n : Nat} {xs : List Value} (hown : w.ownsRow B e size v n xs) (hb : Below w.heap.size w W) (hB : B ≤ w.heap.size) (m : Nat) (news : Array Value) (hl : news.size = m * size) (h1 : ∀ u ∈ news.toList, u.oneCell' = true) (hm : 0 < m) (h63 : n + m ≤ 1000000) (hby : bytes ≤ 1000) :
    ∃ g cap w3, (AppS #[T, T] T #[v, .slice (some ⟨W.heap.size, 0, none⟩) m m]).run Tryz.prog (W.alloc (.cells news e)) = .ok (.slice (some ⟨g, 0, none⟩) (n + m) cap) w3 ∧ w3.ownsRow B e size (.slice (some ⟨g, 0, none⟩) (n + m) cap) (n + m) (xs ++ news.toList) ∧ (W.alloc (.cells news e)).grownBy w3 v.ownBlock ∧ (v.ownBlock = some g ∨ g = W.heap.size + 1) := by
  obtain ⟨i, hi, hz0, hz1, hz2⟩ := info_is hinfo
  have hown' : (W.alloc (.cells news e)).ownsRow B e size v n xs := (fam_keeps hown (fun g hg => hb.block g (hown.lt g hg).2)).alloc _
  have hbs := hb.size
  obtain ⟨g, cap, w3, r1, r2, r3, r4, _⟩ := run_append_lies (P := Tryz.prog) (W.alloc (.cells news e)) T T B e i z size bytes ht hi hz0 hz1 hz2 hzs hsz v n xs hown' ⟨W.heap.size, 0, none⟩ m m news.toList (by simpa using hl) (World.news_of_block (cs := news) (t := e) (fr := (0, 0)) (heap_alloc_new W _)) h1 hm (by unfold maxLen; omega) (by
    have : (n + m) * bytes ≤ 1000000 * 1000 := Nat.mul_le_mul h63 hby
    omega) (by simp; omega) (W.heap.size + 1) (by simp)
  exact ⟨g, cap, w3, r1, r2, r3, r4⟩

theorem infoI : (Tryz.prog.info? 3).map (fun i => (i.zero, i.size, i.bytes)) = some (some (.int .i64 0), 1, 8) := by kernel_rfl

theorem cell_up2 {w : World} {a : Addr} {v : Value} (h : w.cell? a = some v) (o p : Obj) : ((w.alloc o).alloc p).cell? a = some v := cell_up (cell_up h o) p
theorem frozen_up2 {w : World} {a : Addr} (ha : a.block < w.heap.size) (h : w.frozen? a = false) (o p : Obj) : ((w.alloc o).alloc p).frozen? a = false := frozen_up (by simp; omega) (frozen_up ha h o) p

attribute [local go_sem ↓] appS_eq
end

section
open Go.RowKit

/-- A list of numbers that is being made. -/
structure IsI (w : World) (B : Nat) (a : Option Addr) (len c : Nat) (xs : List Int) : Prop where
  is : xs.length = len
  own : w.ownsRow B 3 1 (.slice a len c) len (intsV xs)
section
variable (L : Nat → Nat) (X : Nat → Nat → Nat → Int) (mode : Int) (s : Sx)
def mvsT (j : Nat) : List Int := (List.range j).flatMap (movesT L X mode s)
def mvsK (t q : Nat) : List Int := mvsT L X mode s t ++ ((if ableT L X s t then [8 * (t : Int)] else []) ++ ((List.range q).filter (fun k => mayW mode (thOf s t).wait k)).map fun (k : Nat) => 8 * (t : Int) + (k : Int) + 1)
theorem mvsT_succ (t : Nat) : mvsT L X mode s (t + 1) = mvsK L X mode s t (thOf s t).wait.length := by
  unfold mvsT mvsK mvsT
  rw [List.range_succ, List.flatMap_append]
  simp [movesT]
theorem mvsT_all : mvsT L X mode s s.ths.length = movesX L X mode s := rfl
theorem mvsK_yes {t : Nat} (h : ableT L X s t = true) : mvsK L X mode s t 0 = mvsT L X mode s t ++ [8 * (t : Int)] := by simp [mvsK, h]
theorem mvsK_no {t : Nat} (h : ableT L X s t = false) : mvsK L X mode s t 0 = mvsT L X mode s t := by simp [mvsK, h]
theorem mvsK_len (t q : Nat) : (mvsK L X mode s t q).length ≤ (mvsT L X mode s t).length + 1 + q := by
  unfold mvsK
  have := List.length_filter_le (fun k => mayW mode (thOf s t).wait k) (List.range q)
  simp only [List.length_append, List.length_map]
  simp only [List.length_range] at this
  split <;> simp <;> omega
theorem mvsT_len (hw : ∀ t, t < s.ths.length → (thOf s t).wait.length ≤ 3) : ∀ j, j ≤ s.ths.length → (mvsT L X mode s j).length ≤ 4 * j
  | 0, _ => by simp [mvsT]
  | j + 1, hj => by
    rw [mvsT_succ]
    have h1 := mvsK_len L X mode s j (thOf s j).wait.length
    have h2 := mvsT_len hw j (by omega)
    have h3 := hw j (by omega)
    omega
end

attribute [local go_sem ↓] appS_eq
end

section
open Go.RowKit

section
variable {w w1 : World} {B : Nat} {P : Pg} {sb : Nat} {v : Rl → Value} {s : Sx}
def newT (rg : Nat) : Th := ⟨0, List.replicate rg 0, []⟩
theorem thOf_push {s : Sx} (x : Th) (u : Nat) : thOf { s with ths := s.ths ++ [x] } u = if u = s.ths.length then x else thOf s u := by
  unfold thOf
  simp only [List.getD]
  by_cases h : u = s.ths.length
  · subst h; simp
  · rw [if_neg h]
    rcases Nat.lt_or_ge u s.ths.length with h1 | h1
    · rw [List.getElem?_append_left h1]
    · rw [List.getElem?_append_right h1, List.getElem?_eq_none h1, List.getElem?_eq_none (by simp; omega)]
end
/-- The state's box alone. -/
def v0 (sb : Nat) : Rl → Value := fun q => if q = .box then boxV sb else nilV
def s0 : Sx := { ths := [], words := [], own := [], prints := [], fell := false }
end

section
open Go.RowKit

/-- A list of numbers that came in, as it is read. -/
def SIs (w : World) (a : Option Addr) (l : List Int) : Prop := ∀ i, i < l.length → ∃ b o, a = some ⟨b, o, none⟩ ∧ w.cell? ⟨b, o + i, none⟩ = some (.int .i64 (l.getD i 0))
theorem SIs.below {w w1 : World} {a : Option Addr} {l : List Int} (h : SIs w a l) (hb : Below w.heap.size w w1) : SIs w1 a l := fun i hi => by
  obtain ⟨b, o, e, h1⟩ := h i hi
  exact ⟨b, o, e, (hb.cell (lt_of_cell h1)).trans h1⟩
theorem intsV_one (l : List Int) : ∀ u ∈ intsV l, u.oneCell' = true := fun u hu => by
  simp only [intsV, List.mem_map] at hu
  obtain ⟨x, _, rfl⟩ := hu
  rfl
theorem own_low {w : World} {B B' : Nat} {e : TypeId} {size : Nat} {v : Value} {n : Nat} {xs : List Value} (h : w.ownsRow B e size v n xs) (hB : B' ≤ B) : w.ownsRow B' e size v n xs := by
  refine ⟨h.1, ?_⟩
  rcases h.2 with h0 | ⟨g, cap, cur, hv, hg, r⟩
  · exact Or.inl h0
  · exact Or.inr ⟨g, cap, cur, hv, Nat.le_trans hB hg, r⟩
/-- 'append([]int{}, l...)'. -/
theorem app_src (W : World) (B : Nat) (hB : B ≤ W.heap.size) (sa : Option Addr) (l : List Int) (c : Nat) (hsrc : SIs W sa l) (hl : l.length * 8 ≤ 140737488355328) :
    ∃ g cap w3, (AppS #[23, 23] 23 #[.slice (some ⟨W.heap.size, 0, none⟩) 0 0, .slice sa l.length c]).run Tryz.prog (W.alloc (.cells #[] 3)) = .ok (.slice (some ⟨g, 0, none⟩) l.length cap) w3 ∧ w3.ownsRow B 3 1 (.slice (some ⟨g, 0, none⟩) l.length cap) l.length (intsV l) ∧ (W.alloc (.cells #[] 3)).grownBy w3 (some W.heap.size) ∧ W.heap.size ≤ g ∧ g < w3.heap.size := by
  obtain ⟨i, hi, hz0, hz1, hz2⟩ := info_is infoI
  have hown := World.ownsRow_made (base := B) (e := 3) (size := 1) W #[] 0 hB (by decide) rfl
  cases l with
  | nil =>
    refine ⟨W.heap.size, 0, W.alloc (.cells #[] 3), ?_, hown, ⟨rfl, rfl, rfl, Nat.le_refl _, fun _ _ _ => rfl⟩, Nat.le_refl _, by simp⟩
    have hs : Src Tryz.prog i.size 23 (.slice sa 0 c) 0 [] (W.alloc (.cells #[] 3)) := by
      cases sa with
      | none => exact Src.ofNil _ Tryz.underlying23 c
      | some a => exact Src.ofSlice _ Tryz.underlying23 a 0 c [] (by simp) (fun j u h => by simp at h) (fun u h => by cases h)
    have := run_append_room_src (P := Tryz.prog) (W.alloc (.cells #[] 3)) 23 23 23 3 i Tryz.underlying23 hi W.heap.size 0 0 0 (.slice sa 0 c) 0 [] hs (Nat.le_refl _) (fun j h => by simp at h) (fun j h => by simp at h)
    exact this
  | cons x r =>
    obtain ⟨b, o, rfl, _⟩ := hsrc 0 (by simp)
    have hnews : ∀ j u, (intsV (x :: r))[j]? = some u → (W.alloc (.cells #[] 3)).cell? ((⟨b, o, none⟩ : Addr).add j) = some u := fun j u hu => by
      have hj : j < (x :: r).length := by
        rcases Nat.lt_or_ge j (x :: r).length with h | h
        · exact h
        · rw [List.getElem?_eq_none (by rw [intsV_len]; exact h)] at hu; cases hu
      obtain ⟨b', o', e, h1⟩ := hsrc j hj
      simp only [Option.some.injEq, Addr.mk.injEq, and_true] at e
      obtain ⟨rfl, rfl⟩ := e
      have hadd : (⟨b, o, none⟩ : Addr).add j = ⟨b, o + j, none⟩ := by unfold Addr.add; split <;> simp_all
      rw [intsV_at hj] at hu
      rw [hadd, cell_up h1]
      exact hu
    obtain ⟨g, cap, w3, r1, r2, r3, r4, r5⟩ := run_append_lies (P := Tryz.prog) (W.alloc (.cells #[] 3)) 23 23 B 3 i _ 1 8 Tryz.underlying23 hi hz0 hz1 hz2 rfl (by omega) _ 0 [] hown ⟨b, o, none⟩ (x :: r).length c (intsV (x :: r)) (by rw [intsV_len]; omega) hnews (intsV_one _) (by simp) (by unfold maxLen; omega) (by omega) (by simp; omega) (W.heap.size + 1) (by simp)
    rw [Nat.zero_add] at r1 r2
    refine ⟨g, cap, w3, r1, r2, r3, ?_, r5⟩
    rcases r4 with r4 | r4
    · have : W.heap.size = g := by simpa [Value.ownBlock] using r4
      omega
    · omega
theorem made_ints (n : Nat) : madeCells #[Value.int .i64 0] n = (intsV (List.replicate n 0)).toArray := by
  apply Array.ext'
  simp [madeCells, intsV]
  apply List.ext_getElem?
  intro i
  simp only [List.getElem?_map, List.getElem?_replicate]
  by_cases h : i < n
  · simp [h, Nat.mod_one]
  · simp [h]

attribute [local go_sem ↓] appS_eq
end

section
open Go.RowKit

theorem box_lt {w : World} {g : Nat} {o : Obj} (h : w.heap[g]? = some o) : g < w.heap.size := by
  rcases Nat.lt_or_ge g w.heap.size with h1 | h1
  · exact h1
  · rw [Array.getElem?_eq_none h1] at h; cases h

theorem heap_set_same {w : World} {g i : Nat} {cs : Array Value} {t : TypeId} {u : Value} (h : w.heap[g]? = some (.cells cs t)) : (w.setCell ⟨g, i, none⟩ u).heap[g]? = some (.cells (cs.setIfInBounds i u) t) := by
  simp only [World.setCell, Array.getElem?_modify, if_true, h, Option.map_some]
  rfl

theorem own_type {w : World} {B : Nat} {e t : TypeId} {size : Nat} {v : Value} {n g : Nat} {xs : List Value} {c : Array Value} (h : w.ownsRow B e size v n xs) (hg : w.heap[g]? = some (.cells c t (0, 0))) (hne : e ≠ t) : v.ownBlock ≠ some g := fun e1 => by
  rcases h.2 with ⟨h0, _⟩ | ⟨g', cap, cur, hv, _, hh, _⟩
  · rw [h0] at e1; simp [Value.ownBlock] at e1
  · rw [hv] at e1
    have e2 : g' = g := by simpa [Value.ownBlock] using e1
    subst e2
    rw [hh] at hg
    simp only [Option.some.injEq, Obj.cells.injEq] at hg
    exact hne hg.2.1
theorem box_cell {w : World} {g i : Nat} {cs : Array Value} {t : TypeId} {u : Value} (h : w.heap[g]? = some (.cells cs t)) (hi : cs[i]? = some u) : w.cell? ⟨g, i, none⟩ = some u := by
  simp [World.cell?, h, hi]
theorem box_free {w : World} {g i : Nat} {cs : Array Value} {t : TypeId} (h : w.heap[g]? = some (.cells cs t)) : w.frozen? ⟨g, i, none⟩ = false := by
  simp [World.frozen?, h]
theorem box_later {w : World} {g : Nat} {o : Obj} (h : w.heap[g]? = some o) (p : Obj) : (w.alloc p).heap[g]? = some o := by
  have hl : g < w.heap.size := by
    rcases Nat.lt_or_ge g w.heap.size with h1 | h1
    · exact h1
    · rw [Array.getElem?_eq_none h1] at h; cases h
  exact (((Below.refl w.heap.size w).alloc (Nat.le_refl _) p).block _ hl).trans h
end

section
open Go.ChangeShapes Go.WideShapes Go.ChangeAt Go.RowKit Go.Joins Go.Deep

theorem cells25 : Tryz.prog.cellsOf 25 = 4 := by kernel_rfl
theorem cells34 : Tryz.prog.cellsOf 34 = 4 := by kernel_rfl
theorem cells35 : Tryz.prog.cellsOf 35 = 1 := by kernel_rfl
theorem cells3 : Tryz.prog.cellsOf 3 = 1 := by kernel_rfl

section
variable {H : Type} {enc : TypeId × Value → H} {w : World}

theorem four {cs : List Value} (h : cs.length = 4) : ∃ a b c d, cs = [a, b, c, d] := by
  match cs, h with
  | [a, b, c, d], _ => exact ⟨a, b, c, d, rfl⟩

theorem read_order {a : Addr} {k fuel : Nat} {cs : List Value} {x : DataW H × List MemPlace} (hc : w.cells? 0 (a.add k) 4 = some cs) (h : DataW.trod enc Tryz.prog w 0 (fun _ => true) true fuel 34 cs = some x) :
    ∃ Y : Nat → Int, (∀ j, j < 4 → w.cell? (a.add (k + j)) = some (.int .i64 (Y j))) ∧ ∀ j, j < 4 → (Lit.int .i64 (Y j)).wf = true := by
  obtain ⟨_, hl, hcell⟩ := World.cells?_some hc
  obtain ⟨y0, y1, y2, y3, n, _, _, h0, h1, h2, h3⟩ := trod_struct4 Tryz.underlying34 h
  obtain ⟨c0, c1, c2, c3, rfl⟩ := four hl
  simp only [cells3] at h0 h1 h2 h3
  obtain ⟨a0, e0, _, w0⟩ := DataW.trod_int Tryz.underlying3 h0
  obtain ⟨a1, e1, _, w1⟩ := DataW.trod_int Tryz.underlying3 h1
  obtain ⟨a2, e2, _, w2⟩ := DataW.trod_int Tryz.underlying3 h2
  obtain ⟨a3, e3, _, w3⟩ := DataW.trod_int Tryz.underlying3 h3
  simp at e0 e1 e2 e3
  subst e0 e1 e2 e3
  refine ⟨fun j => if j = 0 then a0 else if j = 1 then a1 else if j = 2 then a2 else a3, ?_, ?_⟩
  · intro j hj
    rw [← Addr.add_add, hcell j hj]
    rcases (by omega : j = 0 ∨ j = 1 ∨ j = 2 ∨ j = 3) with rfl | rfl | rfl | rfl <;> rfl
  · intro j hj
    rcases (by omega : j = 0 ∨ j = 1 ∨ j = 2 ∨ j = 3) with rfl | rfl | rfl | rfl <;> assumption

theorem read_thread {v : Value} {fuel : Nat} {x : DataW H × List MemPlace} (h : DataW.trod enc Tryz.prog w 0 (fun _ => true) true fuel 35 [v] = some x) :
    ∃ (a : Option Addr) (l c : Nat) (Y : Nat → Nat → Int), v = .slice a l c ∧ l ≤ maxLen ∧ ∀ i, i < l → (∃ b o, a = some ⟨b, o, none⟩ ∧ ∀ j, j < 4 → w.cell? ⟨b, o + (i * 4 + j), none⟩ = some (.int .i64 (Y i j))) ∧ ∀ j, j < 4 → (Lit.int .i64 (Y i j)).wf = true := by
  rcases open_slice Tryz.underlying35 h with ⟨hcs, _⟩ | ⟨a, len, cap, m, n, D, Pl, hcs, _, hl, hm, hmm, _, hx⟩
  · simp at hcs
    exact ⟨none, 0, 0, fun _ _ => 0, hcs, Nat.zero_le _, fun i hi => absurd hi (Nat.not_lt_zero _)⟩
  · simp at hcs hmm
    obtain ⟨Y, hY⟩ := choose_lt (α := Nat → Int) (p := fun i (Y : Nat → Int) => (∀ j, j < 4 → w.cell? (a.add (i * 4 + j)) = some (.int .i64 (Y j))) ∧ ∀ j, j < 4 → (Lit.int .i64 (Y j)).wf = true) (n := len) (fun i hi => by
      obtain ⟨cs', h1, h2⟩ := hx i (by omega)
      rw [cells34] at h1
      exact read_order h1 h2)
    refine ⟨some a, len, cap, Y, hcs, by omega, fun i hi => ⟨?_, (hY i hi).2⟩⟩
    obtain ⟨b, o, sp⟩ := a
    have hsp : sp = none := by simpa [Addr.add] using World.cell?_spot ((hY 0 (by omega)).1 0 (by omega))
    subst hsp
    exact ⟨b, o, rfl, fun j hj => by rw [← Go.WideShapes.add_plain]; exact (hY i hi).1 j hj⟩

theorem read_code {v : Value} {fuel : Nat} {x : DataW H × List MemPlace} (h : DataW.trod enc Tryz.prog w 0 (fun _ => true) true fuel 22 [v] = some x) :
    ∃ (ca : Option Addr) (n cc : Nat) (A : Nat → Option Addr) (L C : Nat → Nat) (X : Nat → Nat → Nat → Int), v = .slice ca n cc ∧ PIn w ca n A L C X ∧ ∀ t i j, t < n → i < L t → j < 4 → (Lit.int .i64 (X t i j)).wf = true := by
  rcases open_slice1 Tryz.underlying22 cells35 h with ⟨hcs, _⟩ | ⟨a, len, cap, m, n, V, D, Pl, hcs, _, hl, hm, hmm, _, hx⟩
  · simp at hcs
    exact ⟨none, 0, 0, fun _ => none, fun _ => 0, fun _ => 0, fun _ _ _ => 0, hcs, ⟨fun t ht => absurd ht (Nat.not_lt_zero _), fun t i ht _ => absurd ht (Nat.not_lt_zero _), fun t ht => absurd ht (Nat.not_lt_zero _), Nat.zero_le _⟩, fun t i j ht => absurd ht (Nat.not_lt_zero _)⟩
  · simp at hcs hmm
    obtain ⟨A, hA⟩ := choose_lt (α := Option Addr × Nat × Nat × (Nat → Nat → Int)) (n := len) (p := fun t q => V t = .slice q.1 q.2.1 q.2.2.1 ∧ q.2.1 ≤ maxLen ∧ ∀ i, i < q.2.1 → (∃ b o, q.1 = some ⟨b, o, none⟩ ∧ ∀ j, j < 4 → w.cell? ⟨b, o + (i * 4 + j), none⟩ = some (.int .i64 (q.2.2.2 i j))) ∧ ∀ j, j < 4 → (Lit.int .i64 (q.2.2.2 i j)).wf = true)
      (fun t ht => let ⟨a', l, c, Y, h1, h2, h3⟩ := read_thread (hx t (by omega)).2; ⟨(a', l, c, Y), h1, h2, h3⟩)
    refine ⟨some a, len, cap, fun t => (A t).1, fun t => (A t).2.1, fun t => (A t).2.2.1, fun t => (A t).2.2.2, hcs, ⟨fun t ht => ?_, fun t i ht hi => ?_, fun t ht => (hA t ht).2.1, by unfold maxLen at hm; omega⟩, fun t i j ht hi hj => ((hA t ht).2.2 i hi).2 j hj⟩
    · obtain ⟨b, o, sp⟩ := a
      have hsp : sp = none := by simpa [Addr.add] using World.cell?_spot (hx 0 (by omega)).1
      subst hsp
      exact ⟨b, o, rfl, by rw [← Go.WideShapes.add_plain, (hx t (by omega)).1, (hA t ht).1]⟩
    · obtain ⟨b, o, h1, h2⟩ := ((hA t ht).2.2 i hi).1
      exact ⟨b, o, h1, by simpa using h2 0 (by omega), by simpa [Nat.add_assoc] using h2 1 (by omega), by simpa [Nat.add_assoc] using h2 2 (by omega), by simpa [Nat.add_assoc] using h2 3 (by omega)⟩
end
end

section
open Go.ChangeShapes Go.WideShapes Go.ChangeAt Go.RowKit Go.Joins Go.Deep

theorem Tryz.own : ownKnob Tryz.prog.godebug = none := by kernel_rfl
theorem Tryz.laidOut : laidOutB Tryz.prog = true := by kernel_rfl
theorem Tryz.readableP : Tryz.prog.readableRec 25 = true := by kernel_rfl
theorem Tryz.readableI : Tryz.prog.readableRec 23 = true := by kernel_rfl
end

end Go.Proofs.YtipdnfpomdcenacGreatDoor
