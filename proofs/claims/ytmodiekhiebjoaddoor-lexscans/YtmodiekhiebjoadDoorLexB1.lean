/-
  What the program's Scan does with what is given up: the deferred closure.
-/
import Derived.Test.YtmodiekhiebjoadDoorLexA9
import Derived.Test.YtmodiekhiebjoadDoorTokIn
import Derived.Recover
namespace Go.Proofs.YtmodiekhiebjoadDoor
open Go.RowKit

section
variable {P : Program} {id d : Nat} {ty : TypeId} {pos : String} {y : Code} {Q : Exit → Act → List Frame → World → Prop} {a : Act} {c : Frame} {cs : List Frame} {w : World}
/-- A call of recover ahead of other code, in a frame that panics. -/
theorem wpS_recover {v : Value} {older : List PanicEntry} (hu : c.mode = .panicking ({ v := v, recovered := false } :: older))
    (h : y.wpS P Q (a.put (some d) v) ({ c with mode := .panicking ({ v := v, recovered := true } :: older) } :: cs) w) :
    (Code.seq (Code.region id #[{ dst := some d, op := .call { callee := .builtin .recover, args := #[], argTypes := #[] }, type := ty, pos := pos, after := #[], guard := none }] false) y).wpS P Q a (c :: cs) w := by
  apply wpS_seq
  apply wpS_region
  simp [wpOpsS, go_sem, recoverD, hu, Exit.thenS]
  exact h
/-- .. in one that returns. -/
theorem wpS_recover_no (hu : c.mode = .returning) (h : y.wpS P Q (a.put (some d) .nilIface) (c :: cs) w) :
    (Code.seq (Code.region id #[{ dst := some d, op := .call { callee := .builtin .recover, args := #[], argTypes := #[] }, type := ty, pos := pos, after := #[], guard := none }] false) y).wpS P Q a (c :: cs) w := by
  apply wpS_seq
  apply wpS_region
  simp [wpOpsS, go_sem, recoverD, hu, Exit.thenS]
  exact h
end

set_option maxHeartbeats 400000 in
theorem catch_idle (p q : Addr) (w : World) :
    CallsD Tryd.prog 9 #[.pointer (some p), .pointer (some q)] .returning w fun e u' w' => e = .returned (.tuple #[]) ∧ u' = .returning ∧ w' = w := by
  refine callsD_of_wpS Tryd.func9 rfl fun c₀ cs hu => ?_
  simp only [Tryd.ntmps9, List.size_toArray, List.length_cons, List.length_nil, Nat.reduceAdd, Nat.reduceSub, Array.replicate_succ, Array.replicate_zero, List.push_toArray, List.append_toArray, List.nil_append, List.cons_append]
  refine wpS_recover_no hu ?_
  refine wpS_of_wp ?_
  simp only [Act.put, Array.setIfInBounds, List.size_toArray, List.length_cons, List.length_nil, Nat.reduceAdd, Nat.reduceLT, dite_true, List.set_toArray, List.set_cons_succ, List.set_cons_zero]
  go_wp2_with fail
  exact ⟨rfl, .returning, by cases c₀; simp_all, _, results_none rfl _ _ _, rfl, rfl, rfl⟩

theorem ta_byte (k : Nat) (w : World) : (Instr.typeAssert (.iface 35 (.int .i64 (k : Int))) 20 35 true).run Tryd.prog w = .ok (.tuple #[.int .i64 (k : Int), .bool true]) w := by kernel_rfl
theorem ta_other (k : Nat) (w : World) : (Instr.typeAssert (.iface 36 (.int .i64 (k : Int))) 20 35 true).run Tryd.prog w = .ok (.tuple #[.int .i64 0, .bool false]) w := by kernel_rfl
theorem ta_token (k : Nat) (w : World) : (Instr.typeAssert (.iface 36 (.int .i64 (k : Int))) 20 36 true).run Tryd.prog w = .ok (.tuple #[.int .i64 (k : Int), .bool true]) w := by kernel_rfl

/-- Two variables: a slice, and a fault. -/
structure Vars (w : World) (tb fb : Nat) (v a b c : Value) : Prop where
  t0 : w.cell? ⟨tb, 0, none⟩ = some v
  f0 : w.cell? ⟨fb, 0, none⟩ = some a
  f1 : w.cell? ⟨fb, 1, none⟩ = some b
  f2 : w.cell? ⟨fb, 2, none⟩ = some c
  tz : w.frozen? ⟨tb, 0, none⟩ = false
  fz : ∀ i, w.frozen? ⟨fb, i, none⟩ = false
  ne : tb ≠ fb

set_option maxHeartbeats 800000 in
theorem catch_byte (tb fb k : Nat) (w : World) (v a b c : Value) (h : Vars w tb fb v a b c) :
    CallsD Tryd.prog 9 #[.pointer (some ⟨tb, 0, none⟩), .pointer (some ⟨fb, 0, none⟩)] (.panicking (badB k)) w fun e u' w' => e = .returned (.tuple #[]) ∧ u' = .panicking [{ v := .iface 35 (.int .i64 (k : Int)), recovered := true }] ∧ w' = (((w.setCell ⟨tb, 0, none⟩ nilV).setCell ⟨fb, 0, none⟩ (.int .i64 4)).setCell ⟨fb, 1, none⟩ (.int .i64 0)).setCell ⟨fb, 2, none⟩ (.int .i64 (k : Int)) := by
  have ta := ta_byte k
  have t0 := h.t0
  have f0 := h.f0
  have f1 := h.f1
  have f2 := h.f2
  have tz := h.tz
  have fz := h.fz
  have hn1 : ¬ tb = fb := h.ne
  have hn2 : ¬ fb = tb := fun e => h.ne e.symm
  refine callsD_of_wpS Tryd.func9 rfl fun c₀ cs hu => ?_
  simp only [Tryd.ntmps9, List.size_toArray, List.length_cons, List.length_nil, Nat.reduceAdd, Nat.reduceSub, Array.replicate_succ, Array.replicate_zero, List.push_toArray, List.append_toArray, List.nil_append, List.cons_append]
  refine wpS_recover hu ?_
  refine wpS_of_wp ?_
  simp only [Act.put, Array.setIfInBounds, List.size_toArray, List.length_cons, List.length_nil, Nat.reduceAdd, Nat.reduceLT, dite_true, List.set_toArray, List.set_cons_succ, List.set_cons_zero]
  go_wp2_with fail
  exact ⟨rfl, _, rfl, _, results_none rfl _ _ _, rfl, rfl, rfl⟩

set_option maxHeartbeats 800000 in
theorem catch_token (tb fb k : Nat) (w : World) (v a b c : Value) (h : Vars w tb fb v a b c) :
    CallsD Tryd.prog 9 #[.pointer (some ⟨tb, 0, none⟩), .pointer (some ⟨fb, 0, none⟩)] (.panicking (badT k)) w fun e u' w' => e = .returned (.tuple #[]) ∧ u' = .panicking [{ v := .iface 36 (.int .i64 (k : Int)), recovered := true }] ∧ w' = (((w.setCell ⟨tb, 0, none⟩ nilV).setCell ⟨fb, 0, none⟩ (.int .i64 5)).setCell ⟨fb, 1, none⟩ (.int .i64 0)).setCell ⟨fb, 2, none⟩ (.int .i64 (k : Int)) := by
  have ta := ta_other k
  have ta2 := ta_token k
  have t0 := h.t0
  have f0 := h.f0
  have f1 := h.f1
  have f2 := h.f2
  have tz := h.tz
  have fz := h.fz
  have hn1 : ¬ tb = fb := h.ne
  have hn2 : ¬ fb = tb := fun e => h.ne e.symm
  refine callsD_of_wpS Tryd.func9 rfl fun c₀ cs hu => ?_
  simp only [Tryd.ntmps9, List.size_toArray, List.length_cons, List.length_nil, Nat.reduceAdd, Nat.reduceSub, Array.replicate_succ, Array.replicate_zero, List.push_toArray, List.append_toArray, List.nil_append, List.cons_append]
  refine wpS_recover hu ?_
  refine wpS_of_wp ?_
  simp only [Act.put, Array.setIfInBounds, List.size_toArray, List.length_cons, List.length_nil, Nat.reduceAdd, Nat.reduceLT, dite_true, List.set_toArray, List.set_cons_succ, List.set_cons_zero]
  go_wp2_with fail
  exact ⟨rfl, _, rfl, _, results_none rfl _ _ _, rfl, rfl, rfl⟩

end Go.Proofs.YtmodiekhiebjoadDoor
