/-
  A move of the document's run: a thread's order, whichever it is.
-/
import Derived.Test.YtipdnfpomdcenabSOkP
import Derived.Test.YtipdnfpomdcenabRDo1
import Derived.Test.YtipdnfpomdcenabRDo2
import Derived.Test.YtipdnfpomdcenabRDo5
namespace Go.Proofs.Ytipdnfpomdcenab
open Go.RowKit

theorem doX_order {X : Nat → Nat → Nat → Int} {mode : Int} {s : Sx} {t : Nat} : doX X mode s (8 * t) = orderX mode (stepS s t) t (opT X s t 0) (opT X s t 1) (opT X s t 2) (opT X s t 3) := by
  unfold doX
  simp only [show 8 * t / 8 = t by omega, show 8 * t % 8 = 0 by omega]
  rfl
theorem do_order (w : World) (B sb : Nat) (P : Pg) (v : Rl → Value) (s : Sx) (A : Nat → Option Addr) (L C : Nat → Nat) (X : Nat → Nat → Nat → Int) (m lk rg t : Nat) (hx : Cx w B sb P v s A L C X m lk rg t) :
    Calls Try.prog 24 #[.pointer (some ⟨sb, 0, none⟩), .int .i64 (8 * (t : Int))] w (DoQ B sb P v w (doX X P.mode s (8 * t))) := by
  have ht : t < P.n := hx.ht
  have hn := hx.hc.n4
  have h0 : 0 ≤ 8 * (t : Int) := by omega
  have h1 : 8 * (t : Int) ≤ 1000 := by omega
  have hq : 8 * (t : Int) / 8 = t := by omega
  have hr : 8 * (t : Int) % 8 = 0 := by omega
  rw [doX_order]
  have hop := ok_op (hx.hc.ord t (thOf s t).pc hx.ht hx.hlt)
  change 1 ≤ opT X s t 0 ∧ opT X s t 0 ≤ 18 at hop
  rcases (by omega : opT X s t 0 = 1 ∨ opT X s t 0 = 2 ∨ opT X s t 0 = 3 ∨ opT X s t 0 = 4 ∨ opT X s t 0 = 5 ∨ opT X s t 0 = 6 ∨ opT X s t 0 = 7 ∨ opT X s t 0 = 8 ∨ opT X s t 0 = 9 ∨ opT X s t 0 = 10 ∨ opT X s t 0 = 11 ∨ opT X s t 0 = 12 ∨ opT X s t 0 = 13 ∨ opT X s t 0 = 14 ∨ opT X s t 0 = 15 ∨ opT X s t 0 = 16 ∨ opT X s t 0 = 17 ∨ opT X s t 0 = 18) with h | h | h | h | h | h | h | h | h | h | h | h | h | h | h | h | h | h
  · rw [h]; exact do_1 w B sb P v s A L C X m lk rg t _ h0 h1 hq hr hx h
  · rw [h]; exact do_2 w B sb P v s A L C X m lk rg t _ h0 h1 hq hr hx h
  · rw [h]; exact do_3 w B sb P v s A L C X m lk rg t _ h0 h1 hq hr hx h
  · rw [h]; exact do_4 w B sb P v s A L C X m lk rg t _ h0 h1 hq hr hx h
  · rw [h]; exact do_5 w B sb P v s A L C X m lk rg t _ h0 h1 hq hr hx h
  · rw [h]; exact do_6 w B sb P v s A L C X m lk rg t _ h0 h1 hq hr hx h
  · rw [h]; exact do_7 w B sb P v s A L C X m lk rg t _ h0 h1 hq hr hx h
  · rw [h]; exact do_8 w B sb P v s A L C X m lk rg t _ h0 h1 hq hr hx h
  · rw [h]; exact do_9 w B sb P v s A L C X m lk rg t _ h0 h1 hq hr hx h
  · rw [h]; exact do_10 w B sb P v s A L C X m lk rg t _ h0 h1 hq hr hx h
  · rw [h]; exact do_11 w B sb P v s A L C X m lk rg t _ h0 h1 hq hr hx h
  · rw [h]; exact do_12 w B sb P v s A L C X m lk rg t _ h0 h1 hq hr hx h
  · rw [h]; exact do_13 w B sb P v s A L C X m lk rg t _ h0 h1 hq hr hx h
  · rw [h]; exact do_14 w B sb P v s A L C X m lk rg t _ h0 h1 hq hr hx h
  · rw [h]; exact do_15 w B sb P v s A L C X m lk rg t _ h0 h1 hq hr hx h
  · rw [h]; exact do_16 w B sb P v s A L C X m lk rg t _ h0 h1 hq hr hx h
  · rw [h]; exact do_17 w B sb P v s A L C X m lk rg t _ h0 h1 hq hr hx h
  · rw [h]; exact do_18 w B sb P v s A L C X m lk rg t _ h0 h1 hq hr hx h

theorem SOk.step {n : Nat} {L : Nat → Nat} {X : Nat → Nat → Nat → Int} {m lk rg : Nat} {mode : Int} {s : Sx} (h : SOk n L m lk rg mode s) (hc : COk n L X m lk rg) (hm : 0 ≤ mode) {t : Nat} (ht : t < n) (ha : ableT L X s t = true) : SOk n L m lk rg mode (doX X mode s (8 * t)) := by
  rw [doX_order]
  have hlt := able_lt ha
  have h1 : SOk n L m lk rg mode (stepS s t) := h.setPc ht (by omega)
  have htl : t < s.ths.length := by rw [h.ths]; exact ht
  exact h1.order ht hm (fun ho => by rw [stepS_wait htl]; exact able_room ha ho) (hc.ord t _ ht hlt)
theorem prints_step {X : Nat → Nat → Nat → Int} {mode : Int} {s : Sx} {t : Nat} : (doX X mode s (8 * t)).prints.length ≤ s.prints.length + 2 := by
  rw [doX_order]
  exact prints_order (stepS s t) t _ _ _ _

end Go.Proofs.Ytipdnfpomdcenab
