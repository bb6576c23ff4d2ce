/-
  What the document's Check does.
  Orders that were made, as a program of their own.
  Two programs that were made anew are the same; a program that is some.
  Boxes that a call makes first, and what is stored into them at its end.
-/
import Derived.Test.YtkailbdjilkneaaDoorCheckA
import Derived.Test.YtkailbdjilkneaaDoorFRew
import Derived.Test.YtkailbdjilkneaaDoorFenN
import Derived.Test.YtkailbdjilkneaaDoorIntsS
import Derived.Test.YtkailbdjilkneaaDoorInProg
import Derived.Test.YtkailbdjilkneaaDoorAppB
import Derived.Test.YtkailbdjilkneaaDoorCOkP
namespace Go.Proofs.YtkailbdjilkneaaDoor
section
open Go.RowKit

set_option maxHeartbeats 1000000 in
theorem rcheck_size (ca : Option Addr) (n cc : Nat) (wa : Option Addr) (m wc : Nat) (lk rg : Int) (h : (n : Int) < 1 ∨ 4 < (n : Int) ∨ 64 < (m : Int)) (w : World) :
    Calls Tryd.prog 12 #[prgV ca n cc wa m wc lk rg] w fun e w' => e = .returned (ints3 1 0 0) ∧ Below w.heap.size w w' := by
  rcases (by omega : (n : Int) < 1 ∨ ((1 ≤ (n : Int) ∧ 4 < (n : Int)) ∨ ((1 ≤ (n : Int) ∧ (n : Int) ≤ 4) ∧ 64 < (m : Int)))) with h1 | h1 | h1
  all_goals
    clear h
    go_enter Tryd.func12, Tryd.ntmps12
    go_wp2
    exact bodyPost_ret (v := ints3 1 0 0) (by simp [results, Tryd.results12, go_sem]) rfl
      ⟨rfl, ((Below.refl _ _).alloc (Nat.le_refl _) _).alloc (by simp) _⟩

set_option maxHeartbeats 1000000 in
theorem rcheck_range (ca : Option Addr) (n cc : Nat) (wa : Option Addr) (m wc : Nat) (lk rg : Int) (h1 : 1 ≤ (n : Int) ∧ (n : Int) ≤ 4) (h2 : (m : Int) ≤ 64) (h : lk < 0 ∨ 4 < lk ∨ rg < 1 ∨ 200 < rg) (w : World) :
    Calls Tryd.prog 12 #[prgV ca n cc wa m wc lk rg] w fun e w' => e = .returned (ints3 3 0 0) ∧ Below w.heap.size w w' := by
  rcases (by omega : lk < 0 ∨ (0 ≤ lk ∧ 4 < lk) ∨ ((0 ≤ lk ∧ lk ≤ 4) ∧ rg < 1) ∨ ((0 ≤ lk ∧ lk ≤ 4) ∧ 1 ≤ rg ∧ 200 < rg)) with h3 | h3 | h3 | h3
  all_goals
    clear h
    go_enter Tryd.func12, Tryd.ntmps12
    go_wp2
    exact bodyPost_ret (v := ints3 3 0 0) (by simp [results, Tryd.results12, go_sem]) rfl
      ⟨rfl, ((Below.refl _ _).alloc (Nat.le_refl _) _).alloc (by simp) _⟩

/-- The kinds by their number. -/
def kj (x y z : Int) (k : Nat) : Int := if k = 0 then x else if k = 1 then y else z

theorem ks_spec {op x y z : Int} (h : kd op = some (x, y, z)) :
     (ks op).size ≤ 3 ∧ (∀ k (hk : k < (ks op).size), (1 ≤ kj x y z k ∧ kj x y z k ≤ 5) ∧ ((ks op)[k].toNat : Int) = letter (kj x y z k)) ∧ ∀ k, (ks op).size ≤ k → k < 3 → kj x y z k = 0 := by
  rcases op_cases op with h1 | rfl | rfl | rfl | rfl | rfl | rfl | rfl | rfl | rfl | rfl | rfl | rfl | rfl | rfl | rfl | rfl | rfl | rfl
  · rw [kd_out h1] at h; cases h
  all_goals
    simp only [kd] at h
    simp at h
    obtain ⟨rfl, rfl, rfl⟩ := h
    refine ⟨by decide, ?_, ?_⟩
    · intro k hk
      have hk' : k < 3 := Nat.lt_of_lt_of_le hk (by decide)
      rcases (by omega : k = 0 ∨ k = 1 ∨ k = 2) with rfl | rfl | rfl <;> first | exact absurd hk (by decide) | exact ⟨⟨by decide, by decide⟩, rfl⟩
    · intro k hk hk3
      rcases (by omega : k = 0 ∨ k = 1 ∨ k = 2) with rfl | rfl | rfl <;> first | exact absurd hk (by decide) | decide
end

section
open Go.RowKit

/-- Orders that were made, as a program's. -/
theorem new_pin {w : World} {B : Nat} {b : Nat → Nat → List I4} {L : Nat → Nat} {n : Nat} {cv : Value} {tv : List Value} (hc : w.ownsRow B 45 1 cv n tv) (ht : ∀ t, t < n → OwnC w B (tv.getD t nilV) (codeR (b t) (L t))) (hn : n ≤ 1000) (hl : ∀ t, t < n → lenR b L t ≤ 1000000) :
    ∃ ca cc A C, cv = .slice ca n cc ∧ PIn w ca n A (lenR b L) C (numR b L) := by
  obtain ⟨ca, cc, rfl⟩ := fam_form hc
  have htl : tv.length = n := by have := hc.1; omega
  have hf : ∀ t, ∃ a c, t < n → tv.getD t nilV = .slice a (lenR b L t) c := fun t => by
    by_cases h : t < n
    · obtain ⟨a, c, e⟩ := fam_form (ht t h)
      exact ⟨a, c, fun _ => e⟩
    · exact ⟨none, 0, fun h' => absurd h' h⟩
  refine ⟨ca, cc, fun t => (hf t).choose, fun t => (hf t).choose_spec.choose, rfl, ⟨fun t h => ?_, fun t i h hi => ?_, fun t h => by have := hl t h; omega, by omega⟩⟩
  · obtain ⟨g, cap, e, hg, _⟩ := fam_block hc (by omega)
    simp only [Value.slice.injEq] at e
    refine ⟨g, 0, e.1, ?_⟩
    have e2 := (hf t).choose_spec.choose_spec h
    have e3 : tv[t]? = some (tv.getD t nilV) := by simp [List.getD, show t < tv.length by omega]
    rw [e2] at e3
    rw [Nat.zero_add]
    exact fam_cell hc hg e3
  · have h1 := ht t h
    have e2 := (hf t).choose_spec.choose_spec h
    rw [e2] at h1
    obtain ⟨g, cap, e, hg, _⟩ := fam_block h1 (Nat.lt_of_le_of_lt (Nat.zero_le _) hi)
    simp only [Value.slice.injEq] at e
    obtain ⟨y0, y1, y2, y3⟩ := cellsT_at (l := codeR (b t) (L t)) hi fenceI
    refine ⟨g, 0, e.1, ?_, ?_, ?_, ?_⟩
    · rw [Nat.zero_add]; exact fam_cell h1 hg y0
    · rw [Nat.zero_add]; exact fam_cell h1 hg y1
    · rw [Nat.zero_add]; exact fam_cell h1 hg y2
    · rw [Nat.zero_add]; exact fam_cell h1 hg y3
/-- What orders become may be led on. -/
theorem new_led {n m lk rg : Nat} {L : Nat → Nat} {X : Nat → Nat → Nat → Int} (hc : COk n L X m lk rg) {t i : Nat} (ht : t < n) (hi : i < L t) {x : I4} (hx : x = ordAt X t i ∨ x = fenceI) : (1 ≤ x.1 ∧ x.1 ≤ 18) ∧ (x.1 = 14 → 0 ≤ x.2.1 ∧ x.2.1 ≤ L t) ∧ (x.1 = 15 → 0 ≤ x.2.2.1 ∧ x.2.2.1 ≤ L t) := by
  have h := hc.ord t i ht hi
  rcases hx with rfl | rfl
  · refine ⟨ok_op h, fun e => ?_, fun e => ?_⟩
    · have e' : X t i 0 = 14 := e
      rw [e'] at h
      exact ok_jump h
    · have e' : X t i 0 = 15 := e
      rw [e'] at h
      exact (ok_zero h).2
  · refine ⟨by decide, fun e => ?_, fun e => ?_⟩
    · exact absurd e (by decide)
    · exact absurd e (by decide)
/-- What a rewritten program is. -/
def NewQ (w : World) (n : Nat) (words : List Int) (lk rg : Int) (b : Nat → Nat → List I4) (L : Nat → Nat) (e : Ending) (w' : World) : Prop := ∃ (va : Option Addr) (vc : Nat) (ua : Option Addr) (uc : Nat) (tv : List Value), e = .returned (.agg #[.slice va n vc, .slice ua words.length uc, .int .i64 lk, .int .i64 rg]) ∧ w'.ownsRow w.heap.size 45 1 (.slice va n vc) n tv ∧ (∀ t, t < n → OwnC w' w.heap.size (tv.getD t nilV) (codeR (b t) (L t))) ∧ w'.ownsRow w.heap.size 3 1 (.slice ua words.length uc) words.length (intsV words) ∧ Below w.heap.size w w'
theorem NewQ.below {w V V' : World} {n : Nat} {words : List Int} {lk rg : Int} {b : Nat → Nat → List I4} {L : Nat → Nat} {e : Ending} (h : NewQ w n words lk rg b L e V) (hb : Below V.heap.size V V') : NewQ w n words lk rg b L e V' := by
  obtain ⟨va, vc, ua, uc, tv, h0, h1, h2, h3, h4⟩ := h
  exact ⟨va, vc, ua, uc, tv, h0, owns_below2 h1 hb, fun t ht => (h2 t ht).below hb, owns_below2 h3 hb, h4.trans (hb.mono h4.size)⟩
/-- Stores below it change nothing. -/
theorem NewQ.far {w U V V' : World} {n : Nat} {words : List Int} {lk rg : Int} {b : Nat → Nat → List I4} {L : Nat → Nat} {e : Ending} (h : NewQ U n words lk rg b L e V) (hk : ∀ g, U.heap.size ≤ g → g < V.heap.size → V'.heap[g]? = V.heap[g]?) (hw : w.heap.size ≤ U.heap.size) (hb : Below w.heap.size w V') : NewQ w n words lk rg b L e V' := by
  obtain ⟨va, vc, ua, uc, tv, h0, h1, h2, h3, h4⟩ := h
  exact ⟨va, vc, ua, uc, tv, h0, own_low (fam_keeps h1 fun g hg => hk g (h1.lt g hg).1 (h1.lt g hg).2) hw, fun t ht => own_low (fam_keeps (h2 t ht) fun g hg => hk g ((h2 t ht).lt g hg).1 ((h2 t ht).lt g hg).2) hw, own_low (fam_keeps h3 fun g hg => hk g (h3.lt g hg).1 (h3.lt g hg).2) hw, hb⟩
theorem sis_own {w : World} {B : Nat} {a : Option Addr} {c : Nat} {l : List Int} (h : w.ownsRow B 3 1 (.slice a l.length c) l.length (intsV l)) : SIs w a l := fun k hk => by
  obtain ⟨g, cap, e, hg, _⟩ := fam_block h (by omega)
  simp only [Value.slice.injEq] at e
  refine ⟨g, 0, e.1, ?_⟩
  rw [Nat.zero_add]
  exact fam_cell h hg (intsV_at hk)
end

section
open Go.RowKit

theorem none_no (w : World) : Calls Tryd.prog 13 #[.agg #[nilV, nilV, .int .i64 0, .int .i64 0]] w fun e w' => e = .returned (.bool true) ∧ Below w.heap.size w w' := by
  go_enter Tryd.func13, Tryd.ntmps13
  go_wp2
  go_ret
  exact ⟨rfl, (Below.refl _ _).alloc (Nat.le_refl _) _⟩
/-- A program that was made anew lies in memory. -/
def MkP (b : Nat → Nat → List I4) (n : Nat) (L : Nat → Nat) (words : List Int) (V : World) (va ua : Option Addr) : Prop := (∃ A C, PIn V va n A (lenR b L) C (numR b L)) ∧ SIs V ua words
theorem mk_new {W U : World} {n : Nat} {words : List Int} {lk rg : Int} {b : Nat → Nat → List I4} {L : Nat → Nat} {va : Option Addr} {vc : Nat} {ua : Option Addr} {uc : Nat} (hN : NewQ W n words lk rg b L (.returned (.agg #[.slice va n vc, .slice ua words.length uc, .int .i64 lk, .int .i64 rg])) U) (hn : n ≤ 4) (hl : ∀ t, t < n → lenR b L t ≤ 1000000) : MkP b n L words U va ua := by
  obtain ⟨va', vc', ua', uc', tv, he, h1, h2, h3, _⟩ := hN
  simp only [Ending.returned.injEq, Value.agg.injEq, Array.mk.injEq, List.cons.injEq, Value.slice.injEq, true_and, and_true] at he
  obtain ⟨⟨rfl, rfl⟩, rfl, rfl⟩ := he
  obtain ⟨ca', cc', A', C', e1, hpin⟩ := new_pin h1 h2 (by omega) hl
  simp only [Value.slice.injEq, true_and] at e1
  obtain ⟨rfl, rfl⟩ := e1
  exact ⟨⟨A', C', hpin⟩, sis_own h3⟩
theorem mk_same {b : Nat → Nat → List I4} {n : Nat} {L : Nat → Nat} {words : List Int} {V : World} {va ua va' ua' : Option Addr} {vc uc vc' uc' : Nat} {lk rg : Int} (hm : words.length ≤ 64) (h : MkP b n L words V va ua) (h' : MkP b n L words V va' ua') :
    Calls Tryd.prog 16 #[.agg #[.slice va n vc, .slice ua words.length uc, .int .i64 lk, .int .i64 rg], .agg #[.slice va' n vc', .slice ua' words.length uc', .int .i64 lk, .int .i64 rg]] V fun e w' => e = .returned (.bool true) ∧ Below V.heap.size V w' := by
  obtain ⟨⟨A, C, hp⟩, hs⟩ := h
  obtain ⟨⟨A', C', hp'⟩, hs'⟩ := h'
  exact same_any va n vc ua words.length uc lk rg A (lenR b L) C (numR b L) va' vc' ua' uc' A' C' (fun i => words.getD i 0) (by omega) V hp hp' hs hs'
end

section
open Go.RowKit

abbrev noP : Value := .agg #[nilV, nilV, .int .i64 0, .int .i64 0]
/-- Three boxes that a call makes first. -/
theorem box3 (w : World) (P R F : Obj) : ∃ W, ((w.alloc P).alloc R).alloc F = W ∧ w.heap.size + 3 = W.heap.size ∧ ∀ V, Below W.heap.size W V → Below w.heap.size w V ∧ V.heap[w.heap.size]? = some P ∧ V.heap[w.heap.size + 1]? = some R ∧ V.heap[w.heap.size + 1 + 1]? = some F := by
  refine ⟨_, rfl, by simp, fun V hb => ⟨?_, ?_, ?_, ?_⟩⟩
  · exact ((((Below.refl _ _).alloc (Nat.le_refl _) _).alloc (by simp) _).alloc (by simp; omega) _).trans (hb.mono (by simp; omega))
  · exact (hb.block _ (by simp; omega)).trans (box_later (box_later (heap_alloc_new _ _) _) _)
  · have := (hb.block (w.heap.size + 1) (by simp)).trans (box_later (show ((w.alloc P).alloc R).heap[w.heap.size + 1]? = some R by have := heap_alloc_new (w.alloc P) R; simpa using this) _)
    exact this
  · have := (hb.block (w.heap.size + 1 + 1) (by simp)).trans (show (((w.alloc P).alloc R).alloc F).heap[w.heap.size + 1 + 1]? = some F by have := heap_alloc_new ((w.alloc P).alloc R) F; simpa using this)
    exact this
theorem below7n {w w' : World} (h : Below w.heap.size w w') (a b c d e f g : Value) : Below w.heap.size w (((((((w'.setCell ⟨w.heap.size + 1, 0, none⟩ a).setCell ⟨w.heap.size + 1, 1, none⟩ b).setCell ⟨w.heap.size + 1, 2, none⟩ c).setCell ⟨w.heap.size + 1, 3, none⟩ d).setCell ⟨w.heap.size + 1 + 1, 0, none⟩ e).setCell ⟨w.heap.size + 1 + 1, 1, none⟩ f).setCell ⟨w.heap.size + 1 + 1, 2, none⟩ g) := by
  have h1 : w.heap.size ≤ w.heap.size + 1 := by omega
  have h2 : w.heap.size ≤ w.heap.size + 1 + 1 := by omega
  exact ((((((h.setCell h1 _).setCell h1 _).setCell h1 _).setCell h1 _).setCell h2 _).setCell h2 _).setCell h2 _
theorem below7 {w w' : World} (h : Below w.heap.size w w') (a b c d e f g : Value) : Below w.heap.size w (((((((w'.setCell ⟨w.heap.size + 1, 0, none⟩ a).setCell ⟨w.heap.size + 1, 1, none⟩ b).setCell ⟨w.heap.size + 1, 2, none⟩ c).setCell ⟨w.heap.size + 1, 3, none⟩ d).setCell ⟨w.heap.size + 1 + 1, 0, none⟩ e).setCell ⟨w.heap.size + 1 + 1, 1, none⟩ f).setCell ⟨w.heap.size + 1 + 1, 2, none⟩ g).drew := (below7n h a b c d e f g).drew
theorem far7 {w' : World} {k g : Nat} (h1 : g ≠ k + 1) (h2 : g ≠ k + 1 + 1) (a b c d e f q : Value) : (((((((w'.setCell ⟨k + 1, 0, none⟩ a).setCell ⟨k + 1, 1, none⟩ b).setCell ⟨k + 1, 2, none⟩ c).setCell ⟨k + 1, 3, none⟩ d).setCell ⟨k + 1 + 1, 0, none⟩ e).setCell ⟨k + 1 + 1, 1, none⟩ f).setCell ⟨k + 1 + 1, 2, none⟩ q).heap[g]? = w'.heap[g]? := by
  have e1 : ∀ (Z : World) (q : Nat) (u : Value), (Z.setCell ⟨k + 1, q, none⟩ u).heap[g]? = Z.heap[g]? := fun Z q u => Below.heap_setCell _ _ _ _ (fun x => h1 (by simpa using x))
  have e2 : ∀ (Z : World) (q : Nat) (u : Value), (Z.setCell ⟨k + 1 + 1, q, none⟩ u).heap[g]? = Z.heap[g]? := fun Z q u => Below.heap_setCell _ _ _ _ (fun x => h2 (by simpa using x))
  rw [e2, e2, e2, e1, e1, e1, e1]
end

end Go.Proofs.YtkailbdjilkneaaDoor
