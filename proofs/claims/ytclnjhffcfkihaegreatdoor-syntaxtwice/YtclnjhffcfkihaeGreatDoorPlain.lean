/-
  What chapter 1 says of a program's orders, as plain functions of numbers: which kinds of numbers an order has, whether a number may be, what is the first thing that is wrong.
  Rows that a run owns, each under a name of its own, in blocks that are apart: what a store and an append make of them, and what stays as it was.
  Tokens in memory, and lists of them that are made.
  The document's parser in memory: where it stands, what stands next.
  The document's parser: what fails, what is taken.
  The document's parser: names, nodes.
  The document's parser: how tight a sign binds.
  The document's parser where it failed: it goes on to the end, and what is told stays.
  The document's parser where it goes well: nodes with their kids in memory, what an expression leaves.
  The document's parser, going well or having failed, and what a function has of its own beside it.
  What the document's Ints does with two lists of the same numbers.
-/
import Derived.Test.YtclnjhffcfkihaeGreatDoorBase
import Derived.WalkKit
import Derived.WalkSpells
import Derived.WalkLawsBesides
import Derived.Deep.AppendLies
import Derived.Test.YtclnjhffcfkihaeGreatDoorSynY
import Derived.BigRegion
import Derived.Deep.RegionWith
import Derived.Test.YtclnjhffcfkihaeGreatDoorSynO
namespace Go.Proofs.YtclnjhffcfkihaeGreatDoor
section
/-- An order's three kinds of numbers: 0 nothing, 1 a register, 2 a word, 3 a lock, 4 a place, 5 any number. -/
def kd (op : Int) : Option (Int × Int × Int) :=
  if op = 1 then some (1, 5, 0) else if op = 2 then some (1, 1, 0) else if op = 3 then some (1, 1, 1) else if op = 4 then some (1, 1, 1)
  else if op = 5 then some (1, 1, 1) else if op = 6 then some (1, 1, 1) else if op = 7 then some (1, 1, 1) else if op = 8 then some (1, 2, 0)
  else if op = 9 then some (2, 1, 0) else if op = 10 then some (1, 1, 0) else if op = 11 then some (1, 1, 0) else if op = 12 then some (0, 0, 0)
  else if op = 13 then some (2, 1, 1) else if op = 14 then some (4, 0, 0) else if op = 15 then some (1, 4, 0) else if op = 16 then some (1, 0, 0)
  else if op = 17 then some (3, 0, 0) else if op = 18 then some (3, 0, 0) else none
end

section
open Go.RowKit

abbrev nilV : Value := .slice none 0 0
theorem fam_cell {w : World} {B : Nat} {e : TypeId} {size : Nat} {v : Value} {n : Nat} {xs : List Value} (h : w.ownsRow B e size v n xs) {g : Nat} (hg : v.ownBlock = some g) {i : Nat} {u : Value} (hu : xs[i]? = some u) : w.cell? ⟨g, i, none⟩ = some u := by
  have := h.cells hg i u hu
  have hadd : (⟨g, 0, none⟩ : Addr).add i = ⟨g, i, none⟩ := by unfold Addr.add; split <;> simp_all
  rwa [hadd] at this
/-- What a value looks like that owns something, or nothing. -/
theorem fam_form {w : World} {B : Nat} {e : TypeId} {size : Nat} {v : Value} {n : Nat} {xs : List Value} (h : w.ownsRow B e size v n xs) : ∃ a cap, v = .slice a n cap := by
  rcases h.2 with ⟨h0, h1⟩ | ⟨g, cap, _, hv, _⟩
  · exact ⟨none, 0, by rw [h0, h1]⟩
  · exact ⟨_, cap, hv⟩
theorem fam_block {w : World} {B : Nat} {e : TypeId} {size : Nat} {v : Value} {n : Nat} {xs : List Value} (h : w.ownsRow B e size v n xs) (hn : 0 < n) : ∃ g cap, v = .slice (some ⟨g, 0, none⟩) n cap ∧ v.ownBlock = some g ∧ B ≤ g ∧ g < w.heap.size := by
  obtain ⟨g, cap, hv, h1, h2⟩ := h.form hn
  exact ⟨g, cap, hv, by rw [hv]; rfl, h1, h2⟩
section
variable {ι : Type} [DecidableEq ι]
end

section
variable {ι : Type} {w w1 w2 : World} {B : Nat} {ty : ι → TypeId} {sz : ι → Nat} {v v1 v2 : ι → Value} {n n1 : ι → Nat} {xs xs1 : ι → List Value}

variable [DecidableEq ι]
end

/-! Rows of three cells each. -/
end

section
open Go.RowKit

def tokC (t : Tok) : List Value := [.int .i64 t.kind, .int .i64 t.num, .int .i64 t.pos, .string ⟨⟨t.text⟩⟩]
def toksV (l : List Tok) : List Value := l.flatMap tokC
theorem toksV_snoc (l : List Tok) (t : Tok) : toksV (l ++ [t]) = toksV l ++ tokC t := by simp [toksV]
/-- A token that is nothing. -/
def tok0 : Tok := ⟨0, 0, 0, []⟩
theorem toksV_at : ∀ {l : List Tok} {i : Nat}, i < l.length → (toksV l)[i * 4]? = some (.int .i64 (l.getD i tok0).kind) ∧ (toksV l)[i * 4 + 1]? = some (.int .i64 (l.getD i tok0).num) ∧ (toksV l)[i * 4 + 2]? = some (.int .i64 (l.getD i tok0).pos) ∧ (toksV l)[i * 4 + 3]? = some (.string ⟨⟨(l.getD i tok0).text⟩⟩)
  | [], i, h => absurd h (Nat.not_lt_zero _)
  | x :: l, 0, _ => ⟨rfl, rfl, rfl, rfl⟩
  | x :: l, i + 1, h => by
    have := toksV_at (l := l) (i := i) (by simpa using h)
    have e : ∀ k, (toksV (x :: l))[(i + 1) * 4 + k]? = (toksV l)[i * 4 + k]? := fun k => by
      rw [show (i + 1) * 4 + k = (i * 4 + k) + 4 by omega]
      rfl
    have e0 := e 0
    rw [Nat.add_zero, Nat.add_zero] at e0
    rw [e0, e 1, e 2, e 3]
    exact this
/-- A list of tokens that was made. -/
def OwnT (w : World) (B : Nat) (v : Value) (l : List Tok) : Prop := w.ownsRow B 66 4 v l.length (toksV l)
theorem OwnT.below {w w' : World} {B : Nat} {v : Value} {l : List Tok} (h : OwnT w B v l) (hb : Below w.heap.size w w') : OwnT w' B v l := owns_below2 h hb
theorem ownT_nil (w : World) (B : Nat) : OwnT w B nilV [] := World.ownsRow_nil _ _ _ _
theorem OwnT.form {w : World} {B : Nat} {v : Value} {l : List Tok} (h : OwnT w B v l) : ∃ a c, v = .slice a l.length c := fam_form h
theorem OwnT.cells {w : World} {B : Nat} {a : Option Addr} {c : Nat} {l : List Tok} (h : OwnT w B (.slice a l.length c) l) {k : Nat} (hk : k < l.length) :
    ∃ g, a = some ⟨g, 0, none⟩ ∧ w.cell? ⟨g, k * 4, none⟩ = some (.int .i64 (l.getD k tok0).kind) ∧ w.cell? ⟨g, k * 4 + 1, none⟩ = some (.int .i64 (l.getD k tok0).num) ∧ w.cell? ⟨g, k * 4 + 2, none⟩ = some (.int .i64 (l.getD k tok0).pos) ∧ w.cell? ⟨g, k * 4 + 3, none⟩ = some (.string ⟨⟨(l.getD k tok0).text⟩⟩) := by
  obtain ⟨g, cap, e, hg, _⟩ := fam_block h (by omega)
  simp only [Value.slice.injEq] at e
  have hat := toksV_at hk
  exact ⟨g, e.1, fam_cell h hg hat.1, fam_cell h hg hat.2.1, fam_cell h hg hat.2.2.1, fam_cell h hg hat.2.2.2⟩
theorem infoTok : (Tryz.prog.info? 66).map (fun i => (i.zero, i.size, i.bytes)) = some (some (.agg #[.int .i64 0, .int .i64 0, .int .i64 0, .string ⟨#[]⟩]), 4, 40) := by kernel_rfl
/-- One more token. -/
theorem app_tok {w W : World} {B : Nat} {v : Value} {l : List Tok} (h : OwnT w B v l) (hb : Below w.heap.size w W) (hB : B ≤ w.heap.size) (t : Tok) (hl : l.length ≤ 100000) :
    ∃ g cap w3, (AppS #[42, 42] 42 #[v, .slice (some ⟨W.heap.size, 0, none⟩) 1 1]).run Tryz.prog (W.alloc (.cells #[.int .i64 t.kind, .int .i64 t.num, .int .i64 t.pos, .string ⟨⟨t.text⟩⟩] 66)) = .ok (.slice (some ⟨g, 0, none⟩) (l.length + 1) cap) w3 ∧ OwnT w3 B (.slice (some ⟨g, 0, none⟩) (l.length + 1) cap) (l ++ [t]) ∧ (W.alloc (.cells #[.int .i64 t.kind, .int .i64 t.num, .int .i64 t.pos, .string ⟨⟨t.text⟩⟩] 66)).grownBy w3 v.ownBlock := by
  obtain ⟨g, cap, w3, r1, r2, r3, r4⟩ := app_row (T := 42) Tryz.underlying42 infoTok rfl (by omega) h hb hB 1 #[.int .i64 t.kind, .int .i64 t.num, .int .i64 t.pos, .string ⟨⟨t.text⟩⟩] rfl (by simp [Value.oneCell']) (by omega) (by omega) (by omega)
  refine ⟨g, cap, w3, r1, ?_, r3⟩
  unfold OwnT
  rw [List.length_append, toksV_snoc]
  exact r2
theorem app_tok_below {w W w3 : World} {B : Nat} {v : Value} {l : List Tok} {o : Obj} (h : OwnT w B v l) (hb : Below w.heap.size w W) (hg : (W.alloc o).grownBy w3 v.ownBlock) (hB : B ≤ w.heap.size) {S : World} (hS : Below B S W) : Below B S w3 := by
  have hs := hb.size
  exact (hS.alloc (by omega) o).grown hg (by simp; omega) (fun k hk => (h.lt k hk).1)
end

section
open Go.RowKit

section
variable {w : World} {P : Nat} {T : List Tok} {E : Int} {i : Nat} {d : Int} {tv lv : Value} {c a : Int}
end

theorem getD_drop {T : List Tok} {i : Nat} (hlt : i < T.length) : T.drop i = T.getD i tok0 :: T.drop (i + 1) := by
  rw [List.drop_eq_getElem_cons hlt, List.getD_eq_getElem?_getD, List.getElem?_eq_getElem hlt]; rfl
end

section
open Go.RowKit

theorem heap_set9 {w : World} {g i : Nat} {cs : Array Value} {t : TypeId} {u : Value} (h : w.heap[g]? = some (.cells cs t)) : (w.setCell ⟨g, i, none⟩ u).heap[g]? = some (.cells (cs.setIfInBounds i u) t) := by
  simp only [World.setCell, Array.getElem?_modify, if_true, h, Option.map_some]
  rfl
/-- Nothing that was there has changed, but one block. -/
structure Only (P : Nat) (w w' : World) : Prop where
  os : w'.os = w.os
  tape : w'.tape = w.tape
  output : w'.output = w.output
  size : w.heap.size ≤ w'.heap.size
  block : ∀ k, k < w.heap.size → k ≠ P → w'.heap[k]? = w.heap[k]?
section
variable {P : Nat} {w V W : World}
theorem Only.refl (P : Nat) (w : World) : Only P w w := ⟨rfl, rfl, rfl, Nat.le_refl _, fun _ _ _ => rfl⟩
theorem Only.of (h : Below w.heap.size w W) : Only P w W := ⟨h.os, h.tape, h.output, h.size, fun k hk _ => h.block k hk⟩
theorem Only.trans (h : Only P w V) (k : Only P V W) : Only P w W := ⟨k.os.trans h.os, k.tape.trans h.tape, k.output.trans h.output, Nat.le_trans h.size k.size, fun j hj hp => (k.block j (Nat.lt_of_lt_of_le hj h.size) hp).trans (h.block j hj hp)⟩
theorem Only.set (h : Only P w W) (i : Nat) (u : Value) : Only P w (W.setCell ⟨P, i, none⟩ u) := h.trans ⟨rfl, rfl, rfl, by simp, fun k _ hp => Below.heap_setCell _ _ _ _ hp⟩
theorem Only.alloc (h : Only P w W) (o : Obj) : Only P w (W.alloc o) := h.trans (Only.of ((Below.refl _ _).alloc (Nat.le_refl _) o))
end
section
variable {w W : World} {P : Nat} {T : List Tok} {E : Int} {i : Nat} {d : Int} {tv lv : Value} {c a : Int}
end

section
variable {w W : World} {P : Nat} {T : List Tok} {E : Int} {d : Int} {tv lv : Value} {s : Except (Int × Int) (List Tok)}
end
end

section
open Go.RowKit

theorem nameT_yes {E : Int} {t : Tok} {r : List Tok} (h : t.kind = 1) : nameT E (t :: r) = .ok (t.text, r) := by rw [nameT, if_pos h]
theorem nameT_no {E : Int} {t : Tok} {r : List Tok} (h : ¬ t.kind = 1) : nameT E (t :: r) = .error (5, t.pos) := by rw [nameT, if_neg h]

/-- Nodes in memory: their rows, their kids' slices. -/
def nodC (x : Row × Value) : List Value := [.int .i64 x.1.kind, .int .i64 x.1.num, .int .i64 x.1.pos, .string ⟨⟨x.1.text⟩⟩, x.2]
def nodsV (l : List (Row × Value)) : List Value := l.flatMap nodC
theorem nodsV_snoc (l : List (Row × Value)) (x : Row × Value) : nodsV (l ++ [x]) = nodsV l ++ nodC x := by simp [nodsV]
def OwnN (w : World) (B : Nat) (v : Value) (l : List (Row × Value)) : Prop := w.ownsRow B 53 5 v l.length (nodsV l)
theorem infoNod : (Tryz.prog.info? 53).map (fun i => (i.zero, i.size, i.bytes)) = some (some (.agg #[.int .i64 0, .int .i64 0, .int .i64 0, .string ⟨#[]⟩, .slice none 0 0]), 5, 64) := by kernel_rfl
/-- Nothing that was there has changed, but the parser and its list of nodes. -/
structure FrN (P : Nat) (w : World) (lv : Value) (w' : World) (lv' : Value) : Prop where
  os : w'.os = w.os
  tape : w'.tape = w.tape
  output : w'.output = w.output
  size : w.heap.size ≤ w'.heap.size
  block : ∀ k, k < w.heap.size → k ≠ P → some k ≠ lv.ownBlock → w'.heap[k]? = w.heap[k]?
  own : lv'.ownBlock = lv.ownBlock ∨ ∀ g, lv'.ownBlock = some g → w.heap.size ≤ g
section
variable {P : Nat} {w V W : World} {lv lv1 lv2 : Value}
theorem FrN.of (h : Only P w W) : FrN P w lv W lv := ⟨h.os, h.tape, h.output, h.size, fun k hk hp _ => h.block k hk hp, Or.inl rfl⟩
theorem FrN.trans (h : FrN P w lv V lv1) (k : FrN P V lv1 W lv2) : FrN P w lv W lv2 := by
  refine ⟨k.os.trans h.os, k.tape.trans h.tape, k.output.trans h.output, Nat.le_trans h.size k.size, fun j hj hp hn => ?_, ?_⟩
  · refine (k.block j (Nat.lt_of_lt_of_le hj h.size) hp fun e => ?_).trans (h.block j hj hp hn)
    rcases h.own with h1 | h1
    · exact hn (e.trans h1)
    · have := h1 j e.symm
      omega
  · rcases k.own with k1 | k1
    · rcases h.own with h1 | h1
      · exact Or.inl (k1.trans h1)
      · exact Or.inr fun g hg => h1 g (k1.symm.trans hg)
    · exact Or.inr fun g hg => Nat.le_trans h.size (k1 g hg)
end
end

section
open Go.RowKit

def signsN : List (List UInt8) := [[124, 124], [38, 38], [61, 61], [33, 61], [60], [60, 61], [62], [62, 61], [43], [45], [42]]
theorem lvl_none {l : List UInt8} (h : ∀ c, c ∈ signsN → l ≠ c) : lvl l = -1 := by
  simp only [signsN, List.mem_cons, List.not_mem_nil, or_false, forall_eq_or_imp, forall_eq] at h
  unfold lvl
  obtain ⟨h1, h2, h3, h4, h5, h6, h7, h8, h9, h10, h11⟩ := h
  rw [if_neg h1, if_neg h2, if_neg (by simp [h3, h4, h5, h6, h7, h8]), if_neg (by simp [h9, h10]), if_neg h11]
end

section
open Go.RowKit

/-- The parser's list of nodes. -/
structure Lst (w : World) (B P : Nat) (tv lv : Value) (xs : List (Row × Value)) : Prop where
  own : OwnN w B lv xs
  low : B ≤ w.heap.size
  apart : lv.ownBlock ≠ some P
  far : ∀ g, lv.ownBlock = some g → tv.ownBlock ≠ some g
section
variable {w W : World} {B P : Nat} {T : List Tok} {E d : Int} {tv lv : Value} {xs : List (Row × Value)} {s : Except (Int × Int) (List Tok)} {q : Int × Int}
theorem Lst.only (h : Lst w B P tv lv xs) (ho : Only P w W) : Lst W B P tv lv xs :=
  ⟨fam_keeps h.own fun g hg => ho.block g (h.own.lt g hg).2 fun e => h.apart (by rw [hg, e]), Nat.le_trans h.low ho.size, h.apart, h.far⟩
end
end

section
open Go.RowKit

/-- A node's kids lie where its slice says, apart from the parser and its list. -/
structure KdAt (w : World) (P : Nat) (lv : Value) (x : Row × Value) : Prop where
  own : w.ownsRow 0 3 1 x.2 x.1.kids.length (x.1.kids.map fun k => .int .i64 k)
  apart : x.2.ownBlock ≠ some P
  far : ∀ g, x.2.ownBlock = some g → lv.ownBlock ≠ some g
theorem KdAt.fr {w w' : World} {P : Nat} {lv lv' : Value} {x : Row × Value} (h : KdAt w P lv x) (hf : FrN P w lv w' lv') : KdAt w' P lv' x := by
  have hlt : ∀ g, x.2.ownBlock = some g → g < w.heap.size := fun g hg => (h.own.lt g hg).2
  refine ⟨fam_keeps h.own fun g hg => hf.block g (hlt g hg) (fun e => h.apart (by rw [hg, e])) fun e => h.far g hg e.symm, h.apart, fun g hg e => ?_⟩
  rcases hf.own with h1 | h1
  · exact h.far g hg (h1 ▸ e)
  · have := h1 g e
    have := hlt g hg
    omega
/-- No kids. -/
theorem kd_none (w : World) (P : Nat) (lv : Value) (k n p : Int) (t : List UInt8) : KdAt w P lv (⟨k, n, p, t, []⟩, nilV) :=
  ⟨World.ownsRow_nil _ _ _ _, by simp [Value.ownBlock], fun g hg => by simp [Value.ownBlock] at hg⟩
end

section
open Go.RowKit

theorem own_cells {w : World} {B : Nat} {e : TypeId} {size : Nat} {v : Value} {n : Nat} {xs : List Value} (h : w.ownsRow B e size v n xs) {g : Nat} (hg : v.ownBlock = some g) : ∃ cur, w.heap[g]? = some (.cells cur e) := by
  rcases h.2 with ⟨h0, _⟩ | ⟨g', cap', cur, hv, _, hh, _⟩
  · rw [h0] at hg; simp [Value.ownBlock] at hg
  · rw [hv] at hg
    have e : g' = g := by simpa [Value.ownBlock] using hg
    subst e
    exact ⟨cur, hh⟩
theorem own_apart {w : World} {B : Nat} {e t : TypeId} {size : Nat} {v : Value} {n : Nat} {xs : List Value} (h : w.ownsRow B e size v n xs) {b : Nat} {cs : Array Value} (hb : w.heap[b]? = some (.cells cs t)) (hne : e ≠ t) : v.ownBlock ≠ some b := fun hg => by
  obtain ⟨cur, hc⟩ := own_cells h hg
  rw [hb] at hc
  simp only [Option.some.injEq, Obj.cells.injEq] at hc
  exact hne hc.2.1.symm
/-- A block of the function's own in memory. -/
structure Kp (w0 w : World) (P : Nat) (lv : Value) (z : Nat × Obj) : Prop where
  is : w.heap[z.1]? = some z.2
  ne : z.1 ≠ P
  far : lv.ownBlock ≠ some z.1
  new : w0.heap.size ≤ z.1
theorem Kp.lt {w0 w : World} {P : Nat} {lv : Value} {z : Nat × Obj} (h : Kp w0 w P lv z) : z.1 < w.heap.size := by
  rcases Nat.lt_or_ge z.1 w.heap.size with h1 | h1
  · exact h1
  · have := h.is; rw [Array.getElem?_eq_none h1] at this; cases this
theorem Kp.fr {w0 w w' : World} {P : Nat} {lv lv' : Value} {z : Nat × Obj} (h : Kp w0 w P lv z) (hf : FrN P w lv w' lv') : Kp w0 w' P lv' z := by
  refine ⟨(hf.block z.1 h.lt h.ne fun e => h.far e.symm).trans h.is, h.ne, fun e => ?_, h.new⟩
  rcases hf.own with h1 | h1
  · exact h.far (h1 ▸ e)
  · have := h1 _ e
    have := h.lt
    omega
/-- Kids of a node that is still to be made. -/
structure Kd (w0 w : World) (P : Nat) (lv : Value) (p : List Int × Value) : Prop where
  kd : KdAt w P lv (⟨0, 0, 0, [], p.1⟩, p.2)
  new : ∀ g, p.2.ownBlock = some g → w0.heap.size ≤ g
/-- What stays as it is while a function runs. -/
structure Cx9 where
  w0 : World
  lv0 : Value
  B : Nat
  P : Nat
  T : List Tok
  E : Int
  tv : Value
  K : Nat → Prop
/-- Kids lie in old blocks that are known, or in new ones, apart from those that are still being made. -/
def KB (C : Cx9) (ps : List (List Int × Value)) (ys : List (Row × Value)) : Prop := ∀ y, y ∈ ys → ∀ g, y.2.ownBlock = some g → (C.K g ∨ C.w0.heap.size ≤ g) ∧ ∀ p, p ∈ ps → p.2.ownBlock ≠ some g
section
variable {C : Cx9} {w w' : World} {d d' M : Nat} {lv : Value} {bx : Option (Nat × Obj)} {ps : List (List Int × Value)} {s : Except (Int × Int) (List Tok)} {rows : List Row}
end
end

section
open Go.RowKit

/-- A list of numbers lies in w. -/
def IIn (w : World) (a : Option Addr) (n : Nat) (X : Nat → Int) : Prop := ∀ i, i < n → ∃ b o, a = some ⟨b, o, none⟩ ∧ w.cell? ⟨b, o + i, none⟩ = some (.int .i64 (X i))
theorem IIn.below {w w' : World} {a : Option Addr} {n : Nat} {X : Nat → Int} (h : IIn w a n X) (hb : Below w.heap.size w w') : IIn w' a n X := fun i hi => by
  obtain ⟨b, o, hc, h1⟩ := h i hi
  exact ⟨b, o, hc, (hb.cell (lt_of_cell h1)).trans h1⟩
end

end Go.Proofs.YtclnjhffcfkihaeGreatDoor
