/-
  Fences that do nothing are taken away, by the program: what is asked of each order.
-/
import Derived.Test.YtgofbkgfonlceacMwW
import Derived.Test.YtgofbkgfonlceacFFull2
namespace Go.Proofs.Ytgofbkgfonlceac
open Go.RowKit

/-- Of each thread's orders a truth lies in memory. -/
def WsIn (w : World) (wv : Value) (n : Nat) (L : Nat → Nat) (B : Nat → Nat → Bool) : Prop := ∀ t, t < n → ∃ g c gt c', wv = .slice (some ⟨g, 0, none⟩) n c ∧ w.cell? ⟨g, t, none⟩ = some (.slice (some ⟨gt, 0, none⟩) (L t) c') ∧ ∀ i, i < L t → w.cell? ⟨gt, i, none⟩ = some (.bool (B t i))
theorem WsIn.below {w w' : World} {wv : Value} {n : Nat} {L : Nat → Nat} {B : Nat → Nat → Bool} (h : WsIn w wv n L B) (hb : Below w.heap.size w w') : WsIn w' wv n L B := fun t ht => by
  obtain ⟨g, c, gt, c', h1, h2, h3⟩ := h t ht
  exact ⟨g, c, gt, c', h1, (hb.cell (lt_of_cell h2)).trans h2, fun i hi => (hb.cell (lt_of_cell (h3 i hi))).trans (h3 i hi)⟩
/-- Is an order a fence that does nothing? -/
def dropD (B : Nat → Nat → Bool) (X : Nat → Nat → Nat → Int) : Nat → Nat → Bool := fun t i => decide (X t i 0 = 12) && !B t i
set_option maxRecDepth 100000 in
set_option maxHeartbeats 1600000 in
theorem drop1_any (w : World) (pb vb : Nat) (ca : Option Addr) (n cc : Nat) (wa : Option Addr) (m wc : Nat) (lk rg : Int) (wv : Value) (A : Nat → Option Addr) (L C : Nat → Nat) (X : Nat → Nat → Nat → Int) (B : Nat → Nat → Bool) (t i : Nat) (hp : PIn w ca n A L C X) (ht : t < n) (hi : i < L t) (hb : w.heap[pb]? = some (.cells #[.slice ca n cc, .slice wa m wc, .int .i64 lk, .int .i64 rg] 25)) (hvb : w.cell? ⟨vb, 0, none⟩ = some wv) (hws : WsIn w wv n L B) (_hn4 : n ≤ 4) (_hl4 : L t ≤ 400) :
    Calls Try.prog 25 #[.int .i64 t, .int .i64 i, .pointer (some ⟨pb, 0, none⟩), .pointer (some ⟨vb, 0, none⟩)] w fun e w' => ∃ sa c, e = .returned (.slice sa (bDrop (dropD B X t i) (ordAt X t i)).length c) ∧ SrcL w' sa (cellsT (bDrop (dropD B X t i) (ordAt X t i))) ∧ Below w.heap.size w w' := by
  obtain ⟨cb, co, rfl, hc⟩ := hp.code t ht
  obtain ⟨ab, ao, hA, c0, c1, c2, c3⟩ := hp.ord t i ht hi
  obtain ⟨g, wc', gt, c', rfl, hw1, hw2⟩ := hws t ht
  have hw3 := hw2 i hi
  rw [hA] at hc
  have hbl := box_lt hb
  have b0 := box_cell (i := 0) hb rfl
  obtain ⟨x0, h0⟩ : ∃ x, X t i 0 = x := ⟨_, rfl⟩
  obtain ⟨x1, h1⟩ : ∃ x, X t i 1 = x := ⟨_, rfl⟩
  obtain ⟨x2, h2⟩ : ∃ x, X t i 2 = x := ⟨_, rfl⟩
  obtain ⟨x3, h3⟩ : ∃ x, X t i 3 = x := ⟨_, rfl⟩
  obtain ⟨l, hl⟩ : ∃ x, L t = x := ⟨_, rfl⟩
  obtain ⟨bt, hbt⟩ : ∃ x, B t i = x := ⟨_, rfl⟩
  have HX : Hid (ordAt X t i = (x0, x1, x2, x3) ∧ dropD B X t i = (decide (x0 = 12) && !bt)) := ⟨by unfold ordAt; rw [h0, h1, h2, h3], by unfold dropD; rw [h0, hbt]⟩
  rw [h0] at c0; rw [h1] at c1; rw [h2] at c2; rw [h3] at c3
  rw [hl] at hc hi _hl4 hw1
  rw [hbt] at hw3
  have u0 := cell_up c0
  have u1 := cell_up c1
  have u2 := cell_up c2
  have u3 := cell_up c3
  have uc := cell_up hc
  have ub := cell_up b0
  have uv := cell_up hvb
  have uw1 := cell_up hw1
  have uw3 := cell_up hw3
  have HB1 : Hid (∀ o, Below w.heap.size w (w.alloc o)) := fun o => (Below.refl _ _).alloc (Nat.le_refl _) _
  have HB2 : Hid (∀ o o', Below w.heap.size w ((w.alloc o).alloc o')) := fun o o' => (HB1.out o).alloc (by simp) _
  rw [HX.out.1, HX.out.2]
  clear hp hA hws hw2 h0 h1 h2 h3 hl hbt hb
  by_cases h12 : x0 = 12
  · subst h12
    cases bt with
    | true =>
      go_enter Try.func25, Try.ntmps25
      go_wp2
      go_ret
      exact ⟨_, ⟨_, rfl⟩, by have := srcL_block (heap_alloc_new (w.alloc (.cells #[.int .i64 12, .int .i64 x1, .int .i64 x2, .int .i64 x3] 52)) (.cells #[.int .i64 12, .int .i64 x1, .int .i64 x2, .int .i64 x3] 52)); rw [World.size_alloc] at this; exact this, HB2.out _ _⟩
    | false =>
      go_enter Try.func25, Try.ntmps25
      go_wp2
      go_ret
      exact ⟨none, ⟨0, rfl⟩, srcL_nil _ _, HB1.out _⟩
  · have h12' : (x0 == 12) = false := by simpa using h12
    have hd : (decide (x0 = 12) && !bt) = false := by rw [decide_eq_false h12]; rfl
    rw [hd]
    clear hd HX
    go_enter Try.func25, Try.ntmps25
    go_wp2
    go_ret
    refine ⟨some ⟨w.heap.size + 1, 0, none⟩, ?_⟩
    have hsr : SrcL ((w.alloc (.cells #[.int .i64 x0, .int .i64 x1, .int .i64 x2, .int .i64 x3] 52)).alloc (.cells #[.int .i64 x0, .int .i64 x1, .int .i64 x2, .int .i64 x3] 52)) (some ⟨w.heap.size + 1, 0, none⟩) (cellsT [(x0, x1, x2, x3)]) := by have := srcL_block (heap_alloc_new (w.alloc (.cells #[.int .i64 x0, .int .i64 x1, .int .i64 x2, .int .i64 x3] 52)) (.cells #[.int .i64 x0, .int .i64 x1, .int .i64 x2, .int .i64 x3] 52)); rw [World.size_alloc] at this; exact this
    first | exact ⟨⟨_, rfl⟩, hsr, HB2.out _ _⟩ | exact ⟨_, rfl, hsr, HB2.out _ _⟩

end Go.Proofs.Ytgofbkgfonlceac
