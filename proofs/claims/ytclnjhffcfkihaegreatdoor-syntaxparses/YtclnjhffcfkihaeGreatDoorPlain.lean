/-
  What chapter 1 says of a program's orders, as plain functions of numbers: which kinds of numbers an order has, whether a number may be, what is the first thing that is wrong.
  Rows that a run owns, each under a name of its own, in blocks that are apart: what a store and an append make of them, and what stays as it was.
  Tokens in memory, and lists of them that are made.
  What the program's Scan does with what is given up: the deferred closure.
  What the document's Ints does with two lists of the same numbers.
-/
import Derived.Test.YtclnjhffcfkihaeGreatDoorBase
import Derived.WalkKit
import Derived.WalkSpells
import Derived.WalkLawsBesides
import Derived.Deep.AppendLies
import Derived.Test.YtclnjhffcfkihaeGreatDoorLexP
import Derived.Test.YtclnjhffcfkihaeGreatDoorLexA8
import Derived.Recover
namespace Go.Proofs.YtclnjhffcfkihaeGreatDoor
section
/-- An order's three kinds of numbers: 0 nothing, 1 a register, 2 a word, 3 a lock, 4 a place, 5 any number. -/
def kd (op : Int) : Option (Int × Int × Int) :=
  if op = 1 then some (1, 5, 0) else if op = 2 then some (1, 1, 0) else if op = 3 then some (1, 1, 1) else if op = 4 then some (1, 1, 1)
  else if op = 5 then some (1, 1, 1) else if op = 6 then some (1, 1, 1) else if op = 7 then some (1, 1, 1) else if op = 8 then some (1, 2, 0)
  else if op = 9 then some (2, 1, 0) else if op = 10 then some (1, 1, 0) else if op = 11 then some (1, 1, 0) else if op = 12 then some (0, 0, 0)
  else if op = 13 then some (2, 1, 1) else if op = 14 then some (4, 0, 0) else if op = 15 then some (1, 4, 0) else if op = 16 then some (1, 0, 0)
  else if op = 17 then some (3, 0, 0) else if op = 18 then some (3, 0, 0) else none
end

section
open Go.RowKit

abbrev nilV : Value := .slice none 0 0
theorem fam_cell {w : World} {B : Nat} {e : TypeId} {size : Nat} {v : Value} {n : Nat} {xs : List Value} (h : w.ownsRow B e size v n xs) {g : Nat} (hg : v.ownBlock = some g) {i : Nat} {u : Value} (hu : xs[i]? = some u) : w.cell? ⟨g, i, none⟩ = some u := by
  have := h.cells hg i u hu
  have hadd : (⟨g, 0, none⟩ : Addr).add i = ⟨g, i, none⟩ := by unfold Addr.add; split <;> simp_all
  rwa [hadd] at this
/-- What a value looks like that owns something, or nothing. -/
theorem fam_form {w : World} {B : Nat} {e : TypeId} {size : Nat} {v : Value} {n : Nat} {xs : List Value} (h : w.ownsRow B e size v n xs) : ∃ a cap, v = .slice a n cap := by
  rcases h.2 with ⟨h0, h1⟩ | ⟨g, cap, _, hv, _⟩
  · exact ⟨none, 0, by rw [h0, h1]⟩
  · exact ⟨_, cap, hv⟩
theorem fam_block {w : World} {B : Nat} {e : TypeId} {size : Nat} {v : Value} {n : Nat} {xs : List Value} (h : w.ownsRow B e size v n xs) (hn : 0 < n) : ∃ g cap, v = .slice (some ⟨g, 0, none⟩) n cap ∧ v.ownBlock = some g ∧ B ≤ g ∧ g < w.heap.size := by
  obtain ⟨g, cap, hv, h1, h2⟩ := h.form hn
  exact ⟨g, cap, hv, by rw [hv]; rfl, h1, h2⟩
section
variable {ι : Type} [DecidableEq ι]
end

section
variable {ι : Type} {w w1 w2 : World} {B : Nat} {ty : ι → TypeId} {sz : ι → Nat} {v v1 v2 : ι → Value} {n n1 : ι → Nat} {xs xs1 : ι → List Value}

variable [DecidableEq ι]
end

/-! Rows of three cells each. -/
end

section
open Go.RowKit

def tokC (t : Tok) : List Value := [.int .i64 t.kind, .int .i64 t.num, .int .i64 t.pos, .string ⟨⟨t.text⟩⟩]
def toksV (l : List Tok) : List Value := l.flatMap tokC
theorem toksV_snoc (l : List Tok) (t : Tok) : toksV (l ++ [t]) = toksV l ++ tokC t := by simp [toksV]
/-- A token that is nothing. -/
def tok0 : Tok := ⟨0, 0, 0, []⟩
theorem toksV_at : ∀ {l : List Tok} {i : Nat}, i < l.length → (toksV l)[i * 4]? = some (.int .i64 (l.getD i tok0).kind) ∧ (toksV l)[i * 4 + 1]? = some (.int .i64 (l.getD i tok0).num) ∧ (toksV l)[i * 4 + 2]? = some (.int .i64 (l.getD i tok0).pos) ∧ (toksV l)[i * 4 + 3]? = some (.string ⟨⟨(l.getD i tok0).text⟩⟩)
  | [], i, h => absurd h (Nat.not_lt_zero _)
  | x :: l, 0, _ => ⟨rfl, rfl, rfl, rfl⟩
  | x :: l, i + 1, h => by
    have := toksV_at (l := l) (i := i) (by simpa using h)
    have e : ∀ k, (toksV (x :: l))[(i + 1) * 4 + k]? = (toksV l)[i * 4 + k]? := fun k => by
      rw [show (i + 1) * 4 + k = (i * 4 + k) + 4 by omega]
      rfl
    have e0 := e 0
    rw [Nat.add_zero, Nat.add_zero] at e0
    rw [e0, e 1, e 2, e 3]
    exact this
/-- A list of tokens that was made. -/
def OwnT (w : World) (B : Nat) (v : Value) (l : List Tok) : Prop := w.ownsRow B 66 4 v l.length (toksV l)
theorem OwnT.below {w w' : World} {B : Nat} {v : Value} {l : List Tok} (h : OwnT w B v l) (hb : Below w.heap.size w w') : OwnT w' B v l := owns_below2 h hb
theorem ownT_nil (w : World) (B : Nat) : OwnT w B nilV [] := World.ownsRow_nil _ _ _ _
theorem OwnT.form {w : World} {B : Nat} {v : Value} {l : List Tok} (h : OwnT w B v l) : ∃ a c, v = .slice a l.length c := fam_form h
theorem OwnT.cells {w : World} {B : Nat} {a : Option Addr} {c : Nat} {l : List Tok} (h : OwnT w B (.slice a l.length c) l) {k : Nat} (hk : k < l.length) :
    ∃ g, a = some ⟨g, 0, none⟩ ∧ w.cell? ⟨g, k * 4, none⟩ = some (.int .i64 (l.getD k tok0).kind) ∧ w.cell? ⟨g, k * 4 + 1, none⟩ = some (.int .i64 (l.getD k tok0).num) ∧ w.cell? ⟨g, k * 4 + 2, none⟩ = some (.int .i64 (l.getD k tok0).pos) ∧ w.cell? ⟨g, k * 4 + 3, none⟩ = some (.string ⟨⟨(l.getD k tok0).text⟩⟩) := by
  obtain ⟨g, cap, e, hg, _⟩ := fam_block h (by omega)
  simp only [Value.slice.injEq] at e
  have hat := toksV_at hk
  exact ⟨g, e.1, fam_cell h hg hat.1, fam_cell h hg hat.2.1, fam_cell h hg hat.2.2.1, fam_cell h hg hat.2.2.2⟩
theorem infoTok : (Tryz.prog.info? 66).map (fun i => (i.zero, i.size, i.bytes)) = some (some (.agg #[.int .i64 0, .int .i64 0, .int .i64 0, .string ⟨#[]⟩]), 4, 40) := by kernel_rfl
/-- One more token. -/
theorem app_tok {w W : World} {B : Nat} {v : Value} {l : List Tok} (h : OwnT w B v l) (hb : Below w.heap.size w W) (hB : B ≤ w.heap.size) (t : Tok) (hl : l.length ≤ 100000) :
    ∃ g cap w3, (AppS #[42, 42] 42 #[v, .slice (some ⟨W.heap.size, 0, none⟩) 1 1]).run Tryz.prog (W.alloc (.cells #[.int .i64 t.kind, .int .i64 t.num, .int .i64 t.pos, .string ⟨⟨t.text⟩⟩] 66)) = .ok (.slice (some ⟨g, 0, none⟩) (l.length + 1) cap) w3 ∧ OwnT w3 B (.slice (some ⟨g, 0, none⟩) (l.length + 1) cap) (l ++ [t]) ∧ (W.alloc (.cells #[.int .i64 t.kind, .int .i64 t.num, .int .i64 t.pos, .string ⟨⟨t.text⟩⟩] 66)).grownBy w3 v.ownBlock := by
  obtain ⟨g, cap, w3, r1, r2, r3, r4⟩ := app_row (T := 42) Tryz.underlying42 infoTok rfl (by omega) h hb hB 1 #[.int .i64 t.kind, .int .i64 t.num, .int .i64 t.pos, .string ⟨⟨t.text⟩⟩] rfl (by simp [Value.oneCell']) (by omega) (by omega) (by omega)
  refine ⟨g, cap, w3, r1, ?_, r3⟩
  unfold OwnT
  rw [List.length_append, toksV_snoc]
  exact r2
theorem app_tok_below {w W w3 : World} {B : Nat} {v : Value} {l : List Tok} {o : Obj} (h : OwnT w B v l) (hb : Below w.heap.size w W) (hg : (W.alloc o).grownBy w3 v.ownBlock) (hB : B ≤ w.heap.size) {S : World} (hS : Below B S W) : Below B S w3 := by
  have hs := hb.size
  exact (hS.alloc (by omega) o).grown hg (by simp; omega) (fun k hk => (h.lt k hk).1)
end

section
open Go.RowKit

section
variable {P : Program} {id d : Nat} {ty : TypeId} {pos : String} {y : Code} {Q : Exit → Act → List Frame → World → Prop} {a : Act} {c : Frame} {cs : List Frame} {w : World}
/-- A call of recover ahead of other code, in a frame that panics. -/
theorem wpS_recover {v : Value} {older : List PanicEntry} (hu : c.mode = .panicking ({ v := v, recovered := false } :: older))
    (h : y.wpS P Q (a.put (some d) v) ({ c with mode := .panicking ({ v := v, recovered := true } :: older) } :: cs) w) :
    (Code.seq (Code.region id #[{ dst := some d, op := .call { callee := .builtin .recover, args := #[], argTypes := #[] }, type := ty, pos := pos, after := #[], guard := none }] false) y).wpS P Q a (c :: cs) w := by
  apply wpS_seq
  apply wpS_region
  simp [wpOpsS, go_sem, recoverD, hu, Exit.thenS]
  exact h
/-- .. in one that returns. -/
theorem wpS_recover_no (hu : c.mode = .returning) (h : y.wpS P Q (a.put (some d) .nilIface) (c :: cs) w) :
    (Code.seq (Code.region id #[{ dst := some d, op := .call { callee := .builtin .recover, args := #[], argTypes := #[] }, type := ty, pos := pos, after := #[], guard := none }] false) y).wpS P Q a (c :: cs) w := by
  apply wpS_seq
  apply wpS_region
  simp [wpOpsS, go_sem, recoverD, hu, Exit.thenS]
  exact h
end

set_option maxRecDepth 100000 in
set_option maxHeartbeats 400000 in
theorem catch_idle (p q : Addr) (w : World) :
    CallsD Tryz.prog 51 #[.pointer (some p), .pointer (some q)] .returning w fun e u' w' => e = .returned (.tuple #[]) ∧ u' = .returning ∧ w' = w := by
  refine callsD_of_wpS Tryz.func51 rfl fun c₀ cs hu => ?_
  simp only [Tryz.ntmps51, List.size_toArray, List.length_cons, List.length_nil, Nat.reduceAdd, Nat.reduceSub, Array.replicate_succ, Array.replicate_zero, List.push_toArray, List.append_toArray, List.nil_append, List.cons_append]
  refine wpS_recover_no hu ?_
  refine wpS_of_wp ?_
  simp only [Act.put, Array.setIfInBounds, List.size_toArray, List.length_cons, List.length_nil, Nat.reduceAdd, Nat.reduceLT, dite_true, List.set_toArray, List.set_cons_succ, List.set_cons_zero]
  go_wp2_with fail
  exact ⟨rfl, .returning, by cases c₀; simp_all, _, results_none rfl _ _ _, rfl, rfl, rfl⟩

theorem ta_byte (k : Nat) (w : World) : (Instr.typeAssert (.iface 86 (.int .i64 (k : Int))) 20 86 true).run Tryz.prog w = .ok (.tuple #[.int .i64 (k : Int), .bool true]) w := by kernel_rfl
theorem ta_other (k : Nat) (w : World) : (Instr.typeAssert (.iface 87 (.int .i64 (k : Int))) 20 86 true).run Tryz.prog w = .ok (.tuple #[.int .i64 0, .bool false]) w := by kernel_rfl
theorem ta_token (k : Nat) (w : World) : (Instr.typeAssert (.iface 87 (.int .i64 (k : Int))) 20 87 true).run Tryz.prog w = .ok (.tuple #[.int .i64 (k : Int), .bool true]) w := by kernel_rfl

/-- Two variables: a slice, and a fault. -/
structure Vars (w : World) (tb fb : Nat) (v a b c : Value) : Prop where
  t0 : w.cell? ⟨tb, 0, none⟩ = some v
  f0 : w.cell? ⟨fb, 0, none⟩ = some a
  f1 : w.cell? ⟨fb, 1, none⟩ = some b
  f2 : w.cell? ⟨fb, 2, none⟩ = some c
  tz : w.frozen? ⟨tb, 0, none⟩ = false
  fz : ∀ i, w.frozen? ⟨fb, i, none⟩ = false
  ne : tb ≠ fb

set_option maxRecDepth 100000 in
set_option maxHeartbeats 800000 in
theorem catch_byte (tb fb k : Nat) (w : World) (v a b c : Value) (h : Vars w tb fb v a b c) :
    CallsD Tryz.prog 51 #[.pointer (some ⟨tb, 0, none⟩), .pointer (some ⟨fb, 0, none⟩)] (.panicking (badB k)) w fun e u' w' => e = .returned (.tuple #[]) ∧ u' = .panicking [{ v := .iface 86 (.int .i64 (k : Int)), recovered := true }] ∧ w' = (((w.setCell ⟨tb, 0, none⟩ nilV).setCell ⟨fb, 0, none⟩ (.int .i64 4)).setCell ⟨fb, 1, none⟩ (.int .i64 0)).setCell ⟨fb, 2, none⟩ (.int .i64 (k : Int)) := by
  have ta := ta_byte k
  have t0 := h.t0
  have f0 := h.f0
  have f1 := h.f1
  have f2 := h.f2
  have tz := h.tz
  have fz := h.fz
  have hn1 : ¬ tb = fb := h.ne
  have hn2 : ¬ fb = tb := fun e => h.ne e.symm
  refine callsD_of_wpS Tryz.func51 rfl fun c₀ cs hu => ?_
  simp only [Tryz.ntmps51, List.size_toArray, List.length_cons, List.length_nil, Nat.reduceAdd, Nat.reduceSub, Array.replicate_succ, Array.replicate_zero, List.push_toArray, List.append_toArray, List.nil_append, List.cons_append]
  refine wpS_recover hu ?_
  refine wpS_of_wp ?_
  simp only [Act.put, Array.setIfInBounds, List.size_toArray, List.length_cons, List.length_nil, Nat.reduceAdd, Nat.reduceLT, dite_true, List.set_toArray, List.set_cons_succ, List.set_cons_zero]
  go_wp2_with fail
  exact ⟨rfl, _, rfl, _, results_none rfl _ _ _, rfl, rfl, rfl⟩

set_option maxRecDepth 100000 in
set_option maxHeartbeats 800000 in
theorem catch_token (tb fb k : Nat) (w : World) (v a b c : Value) (h : Vars w tb fb v a b c) :
    CallsD Tryz.prog 51 #[.pointer (some ⟨tb, 0, none⟩), .pointer (some ⟨fb, 0, none⟩)] (.panicking (badT k)) w fun e u' w' => e = .returned (.tuple #[]) ∧ u' = .panicking [{ v := .iface 87 (.int .i64 (k : Int)), recovered := true }] ∧ w' = (((w.setCell ⟨tb, 0, none⟩ nilV).setCell ⟨fb, 0, none⟩ (.int .i64 5)).setCell ⟨fb, 1, none⟩ (.int .i64 0)).setCell ⟨fb, 2, none⟩ (.int .i64 (k : Int)) := by
  have ta := ta_other k
  have ta2 := ta_token k
  have t0 := h.t0
  have f0 := h.f0
  have f1 := h.f1
  have f2 := h.f2
  have tz := h.tz
  have fz := h.fz
  have hn1 : ¬ tb = fb := h.ne
  have hn2 : ¬ fb = tb := fun e => h.ne e.symm
  refine callsD_of_wpS Tryz.func51 rfl fun c₀ cs hu => ?_
  simp only [Tryz.ntmps51, List.size_toArray, List.length_cons, List.length_nil, Nat.reduceAdd, Nat.reduceSub, Array.replicate_succ, Array.replicate_zero, List.push_toArray, List.append_toArray, List.nil_append, List.cons_append]
  refine wpS_recover hu ?_
  refine wpS_of_wp ?_
  simp only [Act.put, Array.setIfInBounds, List.size_toArray, List.length_cons, List.length_nil, Nat.reduceAdd, Nat.reduceLT, dite_true, List.set_toArray, List.set_cons_succ, List.set_cons_zero]
  go_wp2_with fail
  exact ⟨rfl, _, rfl, _, results_none rfl _ _ _, rfl, rfl, rfl⟩
end

section
open Go.RowKit

/-- A list of numbers lies in w. -/
def IIn (w : World) (a : Option Addr) (n : Nat) (X : Nat → Int) : Prop := ∀ i, i < n → ∃ b o, a = some ⟨b, o, none⟩ ∧ w.cell? ⟨b, o + i, none⟩ = some (.int .i64 (X i))
theorem IIn.below {w w' : World} {a : Option Addr} {n : Nat} {X : Nat → Int} (h : IIn w a n X) (hb : Below w.heap.size w w') : IIn w' a n X := fun i hi => by
  obtain ⟨b, o, hc, h1⟩ := h i hi
  exact ⟨b, o, hc, (hb.cell (lt_of_cell h1)).trans h1⟩

set_option maxHeartbeats 800000 in
theorem ints_same (a a' : Option Addr) (n c c' : Nat) (hn : n ≤ 9223372036854775807) (X : Nat → Int) (w : World) (h : IIn w a n X) (h' : IIn w a' n X) :
    Calls Tryz.prog 14 #[.slice a n c, .slice a' n c'] w fun e w' => e = .returned (.bool true) ∧ Below w.heap.size w w' := by
  go_enter Tryz.func14, Tryz.ntmps14
  go_wp2
  go_loopw [5] (fun i wr => ∃ k : Nat, k ≤ n ∧ i = .int .i64 k ∧ Below w.heap.size w wr) (fun i _ => n - (intOf i).toNat)
  case atStart => exact ⟨0, Nat.zero_le _, rfl, Below.refl _ _⟩
  case round =>
    obtain ⟨k, hk, rfl, hbr⟩ := hrel
    by_cases hlt : k < n
    · obtain ⟨b, o, rfl, hc⟩ := h.below hbr k hlt
      obtain ⟨b', o', rfl, hc'⟩ := h'.below hbr k hlt
      go_wp2
      go_region
      all_goals go_wp2
      all_goals go_roundw
      case rel => exact ⟨k + 1, by omega, by go_num, hbr.drew⟩
      case measure => simp [intOf]; omega
    · go_wp2
      go_ret
      exact ⟨rfl, hbr⟩
end

end Go.Proofs.YtclnjhffcfkihaeGreatDoor
