/-
  What an order becomes, by the document's letters.
  What the document's Ints does with two lists of the same numbers.
  What the document's Same does with two programs of the same numbers.
  Two programs that were made anew are the same; a program that is some.
-/
import Derived.Test.YtocfocjnnjdcgaaDoorAlpF
import Derived.Test.YtocfocjnnjdcgaaDoorSmall
import Derived.Test.YtocfocjnnjdcgaaDoorPlain
import Derived.Test.YtocfocjnnjdcgaaDoorInProg
import Derived.Test.YtocfocjnnjdcgaaDoorFRew
import Derived.Test.YtocfocjnnjdcgaaDoorAppB
import Derived.Test.YtocfocjnnjdcgaaDoorCOkP
namespace Go.Proofs.YtocfocjnnjdcgaaDoor
section
open Go.RowKit

/-- A number of an order: the first, the second, the third. -/
def nth3 (x : I4) (q : Nat) : Int := if q = 0 then x.2.1 else if q = 1 then x.2.2.1 else x.2.2.2
/-- How many of an order's first numbers are registers that it reads. -/
def kcN (op : Int) : Nat → Nat
  | 0 => 0
  | q + 1 => kcN op q + if (q + 1) ∈ usR op then 1 else 0
/-- The numbers when the first ones are turned. -/
def nwN (k : List Int) (x : I4) (n q : Nat) : Int := if q < n then nth3 (pnX k x) q else nth3 x q
theorem ks_size (op : Int) : (ks op).size ≤ 3 := by
  rcases op_cases op with h | rfl | rfl | rfl | rfl | rfl | rfl | rfl | rfl | rfl | rfl | rfl | rfl | rfl | rfl | rfl | rfl | rfl | rfl
  · rw [ks_out h]; decide
  all_goals decide
/-- What becomes of one of an order's numbers. -/
theorem paint_one (k : List Int) (op a b c : Int) (ho : 1 ≤ op ∧ op ≤ 18) (hw : usW op = 0 ∨ 0 ≤ wrL op a b) (n : Nat) (hn : n < (ks op).size) : ∃ l : UInt8, (ks op).data[n]? = some l ∧
    ((l ≠ 114 ∧ nth3 (pnX k (op, a, b, c)) n = nth3 (op, a, b, c) n ∧ kcN op (n + 1) = kcN op n) ∨
     (l = 114 ∧ n = 0 ∧ 0 ≤ wrL op a b ∧ nth3 (pnX k (op, a, b, c)) n = seT k 6 (wrL op a b) ∧ kcN op (n + 1) = kcN op n) ∨
     (l = 114 ∧ ¬ (n = 0 ∧ 0 ≤ wrL op a b) ∧ kcN op n < (rdL op a b c).length ∧ nth3 (pnX k (op, a, b, c)) n = seT k (6 + (kcN op n : Nat)) ((rdL op a b c).getD (kcN op n) 0) ∧ kcN op (n + 1) = kcN op n + 1)) := by
  have h3 := ks_size op
  rcases (by omega : op = 1 ∨ op = 2 ∨ op = 3 ∨ op = 4 ∨ op = 5 ∨ op = 6 ∨ op = 7 ∨ op = 8 ∨ op = 9 ∨ op = 10 ∨ op = 11 ∨ op = 12 ∨ op = 13 ∨ op = 14 ∨ op = 15 ∨ op = 16 ∨ op = 17 ∨ op = 18) with rfl | rfl | rfl | rfl | rfl | rfl | rfl | rfl | rfl | rfl | rfl | rfl | rfl | rfl | rfl | rfl | rfl | rfl
  all_goals
    rcases (by omega : n = 0 ∨ n = 1 ∨ n = 2) with rfl | rfl | rfl
  all_goals first
    | exact absurd hn (by decide)
    | exact ⟨_, rfl, Or.inl ⟨by decide, rfl, by decide⟩⟩
    | exact ⟨_, rfl, Or.inr (Or.inl ⟨by decide, rfl, hw.resolve_left (by decide), rfl, by decide⟩)⟩
    | exact ⟨_, rfl, Or.inr (Or.inr ⟨by decide, fun h => absurd h.1 (by decide), by simp [kcN, usR, rdL], rfl, by decide⟩)⟩
    | exact ⟨_, rfl, Or.inr (Or.inr ⟨by decide, fun h => absurd h.2 (by simp [wrL]), by simp [kcN, rdL], rfl, by decide⟩)⟩
end

section
open Go.RowKit

/-- A list of numbers lies in w. -/
def IIn (w : World) (a : Option Addr) (n : Nat) (X : Nat → Int) : Prop := ∀ i, i < n → ∃ b o, a = some ⟨b, o, none⟩ ∧ w.cell? ⟨b, o + i, none⟩ = some (.int .i64 (X i))
theorem IIn.below {w w' : World} {a : Option Addr} {n : Nat} {X : Nat → Int} (h : IIn w a n X) (hb : Below w.heap.size w w') : IIn w' a n X := fun i hi => by
  obtain ⟨b, o, hc, h1⟩ := h i hi
  exact ⟨b, o, hc, (hb.cell (lt_of_cell h1)).trans h1⟩

set_option maxHeartbeats 800000 in
theorem ints_same (a a' : Option Addr) (n c c' : Nat) (hn : n ≤ 9223372036854775807) (X : Nat → Int) (w : World) (h : IIn w a n X) (h' : IIn w a' n X) :
    Calls Tryd.prog 14 #[.slice a n c, .slice a' n c'] w fun e w' => e = .returned (.bool true) ∧ Below w.heap.size w w' := by
  go_enter Tryd.func14, Tryd.ntmps14
  go_wp2
  go_loopw [5] (fun i wr => ∃ k : Nat, k ≤ n ∧ i = .int .i64 k ∧ Below w.heap.size w wr) (fun i _ => n - (intOf i).toNat)
  case atStart => exact ⟨0, Nat.zero_le _, rfl, Below.refl _ _⟩
  case round =>
    obtain ⟨k, hk, rfl, hbr⟩ := hrel
    by_cases hlt : k < n
    · obtain ⟨b, o, rfl, hc⟩ := h.below hbr k hlt
      obtain ⟨b', o', rfl, hc'⟩ := h'.below hbr k hlt
      go_wp2
      go_region
      all_goals go_wp2
      all_goals go_roundw
      case rel => exact ⟨k + 1, by omega, by go_num, hbr.drew⟩
      case measure => simp [intOf]; omega
    · go_wp2
      go_ret
      exact ⟨rfl, hbr⟩
end

section
open Go.RowKit

abbrev boxP (ca : Option Addr) (n cc : Nat) (wa : Option Addr) (m wc : Nat) (lk rg : Int) : Obj := .cells #[.slice ca n cc, .slice wa m wc, .int .i64 lk, .int .i64 rg] 25

set_option maxRecDepth 100000 in
set_option maxHeartbeats 3200000 in
theorem same_any (ca : Option Addr) (n cc : Nat) (wa : Option Addr) (m wc : Nat) (lk rg : Int) (A : Nat → Option Addr) (L C : Nat → Nat) (X : Nat → Nat → Nat → Int) (ca' : Option Addr) (cc' : Nat) (wa' : Option Addr) (wc' : Nat) (A' : Nat → Option Addr) (C' : Nat → Nat) (Y : Nat → Int) (hm : m ≤ 9223372036854775807) (w : World)
    (hp : PIn w ca n A L C X) (hp' : PIn w ca' n A' L C' X) (hi : IIn w wa m Y) (hi' : IIn w wa' m Y) :
    Calls Tryd.prog 22 #[prgV ca n cc wa m wc lk rg, prgV ca' n cc' wa' m wc' lk rg] w fun e w' => e = .returned (.bool true) ∧ Below w.heap.size w w' := by
  have hn := hp.num
  have HB0 : Below w.heap.size w ((w.alloc (boxP ca n cc wa m wc lk rg)).alloc (boxP ca' n cc' wa' m wc' lk rg)) := ((Below.refl _ _).alloc (Nat.le_refl _) _).alloc (by simp) _
  have hj := hi.below HB0
  have hj' := hi'.below HB0
  go_enter Tryd.func22, Tryd.ntmps22
  go_wp2_with (first | (go_at_call 14; refine (ints_same wa wa' m wc wc' hm Y _ hj hj').mono ?_; rintro e w1 ⟨rfl, hb1⟩; have p0 : w1.cell? ⟨w.heap.size, 0, none⟩ = some (.slice ca n cc) := (hb1.cell (p := ⟨w.heap.size, 0, none⟩) (by simp; omega)).trans (by go_simp); have p2 : w1.cell? ⟨w.heap.size, 2, none⟩ = some (.int .i64 lk) := (hb1.cell (p := ⟨w.heap.size, 2, none⟩) (by simp; omega)).trans (by go_simp); have p3 : w1.cell? ⟨w.heap.size, 3, none⟩ = some (.int .i64 rg) := (hb1.cell (p := ⟨w.heap.size, 3, none⟩) (by simp; omega)).trans (by go_simp); have q0 : w1.cell? ⟨w.heap.size + 1, 0, none⟩ = some (.slice ca' n cc') := (hb1.cell (p := ⟨w.heap.size + 1, 0, none⟩) (by simp)).trans (by go_simp); have q2 : w1.cell? ⟨w.heap.size + 1, 2, none⟩ = some (.int .i64 lk) := (hb1.cell (p := ⟨w.heap.size + 1, 2, none⟩) (by simp)).trans (by go_simp); have q3 : w1.cell? ⟨w.heap.size + 1, 3, none⟩ = some (.int .i64 rg) := (hb1.cell (p := ⟨w.heap.size + 1, 3, none⟩) (by simp)).trans (by go_simp)))
  have HB1 : Below w.heap.size w w1 := HB0.trans (hb1.mono HB0.size)
  clear hb1 hj hj' HB0 p2 p3 q2 q3 hi hi'
  go_loopw [6] (fun i wr => ∃ k : Nat, k ≤ n ∧ i = .int .i64 k ∧ Below w1.heap.size w1 wr) (fun i _ => n - (intOf i).toNat)
  case atStart => exact ⟨0, Nat.zero_le _, rfl, Below.refl _ _⟩
  case round =>
    obtain ⟨k, hk, rfl, hbr⟩ := hrel
    have HBr : Below w.heap.size w wr := HB1.trans (hbr.mono HB1.size)
    have p0r := (hbr.cell (lt_of_cell p0)).trans p0
    have q0r := (hbr.cell (lt_of_cell q0)).trans q0
    by_cases hlt : k < n
    · obtain ⟨cb, co, rfl, hc⟩ := (hp.below HBr).code k hlt
      obtain ⟨cb', co', rfl, hc'⟩ := (hp'.below HBr).code k hlt
      have hl := hp.len k hlt
      go_wp2
      go_region
      all_goals go_wp2
      go_loopw [7] (fun i wi => ∃ j : Nat, j ≤ L k ∧ i = .int .i64 j ∧ Below w1.heap.size w1 wi) (fun i _ => L k - (intOf i).toNat)
      case atStart => exact ⟨0, Nat.zero_le _, rfl, hbr.drew⟩
      case round =>
        obtain ⟨j, hj, rfl, hbi⟩ := hrel
        clear hc hc' p0r q0r HBr hbr
        have HBi : Below w.heap.size w wr := HB1.trans (hbi.mono HB1.size)
        have p0i := (hbi.cell (lt_of_cell p0)).trans p0
        have q0i := (hbi.cell (lt_of_cell q0)).trans q0
        obtain ⟨_, _, e0, hc⟩ := (hp.below HBi).code k hlt
        obtain ⟨_, _, e1, hc'⟩ := (hp'.below HBi).code k hlt
        simp only [Option.some.injEq, Addr.mk.injEq, and_true] at e0 e1
        obtain ⟨rfl, rfl⟩ := e0
        obtain ⟨rfl, rfl⟩ := e1
        by_cases hjl : j < L k
        · obtain ⟨ob, oo, ha, x0, x1, x2, x3⟩ := (hp.below HBi).ord k j hlt hjl
          obtain ⟨ob', oo', ha', y0, y1, y2, y3⟩ := (hp'.below HBi).ord k j hlt hjl
          rw [ha] at hc
          rw [ha'] at hc'
          have a0 := fun o => (World.cell?_alloc_lt wr o _ (lt_of_cell q0i)).trans q0i
          have a1 := fun o => (World.cell?_alloc_lt wr o _ (lt_of_cell hc')).trans hc'
          have a2 := fun o => (World.cell?_alloc_lt wr o _ (lt_of_cell y0)).trans y0
          have a3 := fun o => (World.cell?_alloc_lt wr o _ (lt_of_cell y1)).trans y1
          have a4 := fun o => (World.cell?_alloc_lt wr o _ (lt_of_cell y2)).trans y2
          have a5 := fun o => (World.cell?_alloc_lt wr o _ (lt_of_cell y3)).trans y3
          go_wp2
          go_roundw
          case rel => exact ⟨j + 1, by omega, by go_num, (hbi.alloc hbi.size _).alloc (by have := hbi.size; simp; omega) _⟩
          case measure => simp [intOf]; omega
        · go_wp2
          go_roundw
          case rel => exact ⟨k + 1, by omega, by go_num, hbi⟩
          case measure => simp [intOf]; omega
    · go_wp2
      go_ret
      exact ⟨rfl, HBr⟩
end

section
open Go.RowKit

set_option maxRecDepth 100000 in
set_option maxHeartbeats 800000 in
theorem none_some (w : World) (va : Option Addr) (vn vc : Nat) (ua : Option Addr) (un uc : Nat) (ql qr : Int) (h0 : 0 < vn) (h4 : vn ≤ 4) (h6 : un ≤ 64) : Calls Tryd.prog 19 #[.agg #[.slice va vn vc, .slice ua un uc, .int .i64 ql, .int .i64 qr]] w fun e w' => e = .returned (.bool false) ∧ Below w.heap.size w w' := by
  have hne : ¬ ((vn : Int) + (un : Int) = 0) := by omega
  have hne' : ((vn : Int) + (un : Int) == 0) = false := by simpa using hne
  go_enter Tryd.func19, Tryd.ntmps19
  go_wp2
  go_ret
  exact ⟨rfl, (Below.refl _ _).alloc (Nat.le_refl _) _⟩
theorem none_no (w : World) : Calls Tryd.prog 19 #[.agg #[nilV, nilV, .int .i64 0, .int .i64 0]] w fun e w' => e = .returned (.bool true) ∧ Below w.heap.size w w' := by
  go_enter Tryd.func19, Tryd.ntmps19
  go_wp2
  go_ret
  exact ⟨rfl, (Below.refl _ _).alloc (Nat.le_refl _) _⟩
/-- A program that was made anew lies in memory. -/
def MkP (b : Nat → Nat → List I4) (n : Nat) (L : Nat → Nat) (words : List Int) (V : World) (va ua : Option Addr) : Prop := (∃ A C, PIn V va n A (lenR b L) C (numR b L)) ∧ SIs V ua words
theorem mk_new {W U : World} {n : Nat} {words : List Int} {lk rg : Int} {b : Nat → Nat → List I4} {L : Nat → Nat} {va : Option Addr} {vc : Nat} {ua : Option Addr} {uc : Nat} (hN : NewQ W n words lk rg b L (.returned (.agg #[.slice va n vc, .slice ua words.length uc, .int .i64 lk, .int .i64 rg])) U) (hn : n ≤ 4) (hl : ∀ t, t < n → lenR b L t ≤ 1000000) : MkP b n L words U va ua := by
  obtain ⟨va', vc', ua', uc', tv, he, h1, h2, h3, _⟩ := hN
  simp only [Ending.returned.injEq, Value.agg.injEq, Array.mk.injEq, List.cons.injEq, Value.slice.injEq, true_and, and_true] at he
  obtain ⟨⟨rfl, rfl⟩, rfl, rfl⟩ := he
  obtain ⟨ca', cc', A', C', e1, hpin⟩ := new_pin h1 h2 (by omega) hl
  simp only [Value.slice.injEq, true_and] at e1
  obtain ⟨rfl, rfl⟩ := e1
  exact ⟨⟨A', C', hpin⟩, sis_own h3⟩
theorem mk_same {b : Nat → Nat → List I4} {n : Nat} {L : Nat → Nat} {words : List Int} {V : World} {va ua va' ua' : Option Addr} {vc uc vc' uc' : Nat} {lk rg : Int} (hm : words.length ≤ 64) (h : MkP b n L words V va ua) (h' : MkP b n L words V va' ua') :
    Calls Tryd.prog 22 #[.agg #[.slice va n vc, .slice ua words.length uc, .int .i64 lk, .int .i64 rg], .agg #[.slice va' n vc', .slice ua' words.length uc', .int .i64 lk, .int .i64 rg]] V fun e w' => e = .returned (.bool true) ∧ Below V.heap.size V w' := by
  obtain ⟨⟨A, C, hp⟩, hs⟩ := h
  obtain ⟨⟨A', C', hp'⟩, hs'⟩ := h'
  exact same_any va n vc ua words.length uc lk rg A (lenR b L) C (numR b L) va' vc' ua' uc' A' C' (fun i => words.getD i 0) (by omega) V hp hp' hs hs'
end

end Go.Proofs.YtocfocjnnjdcgaaDoor
