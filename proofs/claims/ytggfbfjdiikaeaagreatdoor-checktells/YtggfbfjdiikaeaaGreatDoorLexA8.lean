/-
  The document's parser: every global.
  The document's Parse: how it begins, its rounds, how it ends.
  Runs of the little language: a thread's orders, as two writings have them, and what they do.
  Kids of a tree among its rows.
  The program's tokens: signs.
  What a row's list of variables gives.
-/
import Derived.Test.YtggfbfjdiikaeaaGreatDoorSynH4
import Derived.Test.YtggfbfjdiikaeaaGreatDoorSynG
import Derived.Test.YtggfbfjdiikaeaaGreatDoorLexZ5
import Derived.Test.YtggfbfjdiikaeaaGreatDoorSynN
import Derived.Test.YtggfbfjdiikaeaaGreatDoorSynP
import Derived.WalkKit
import Derived.Test.YtggfbfjdiikaeaaGreatDoorLexA7
import Derived.Laws.Rows
import Derived.ProofKit
import Derived.OpenShut
import Derived.Lay
import Derived.Deep.DeepHandedRow
import Derived.Stop.LaidErr
import Derived.Lib.LaidTab
import Derived.Shelf.Vars
namespace Go.Proofs.YtggfbfjdiikaeaaGreatDoor
section
open Go.RowKit

section
variable {E : Int} {l : List Tok}
/-- Every global: the document's parser reads it. -/
theorem rglobal_all (hok : ToksOk l) (h : isTok wInt l = true ∨ isTok wLock l = true) : Ctr 27 [] E 0 l (globalT E l) 4010 := by
  rcases h with h | h
  · cases hn : nameT E l.tail with
    | error f => exact rglobal_int h (by simp only [namE, hn, isE])
    | ok y =>
      obtain ⟨s, r⟩ := y
      by_cases heq : isTok [61] r = true
      · have hr : r = l.tail.tail := (name_ok hok.tail hn).2
        cases hm : isTok [45] r.tail with
        | true =>
          have ht : ToksOk r.tail.tail := by rw [hr]; exact hok.tail.tail.tail.tail
          by_cases hk : ∃ tk r3, r.tail.tail = tk :: r3 ∧ tk.kind = 3
          · obtain ⟨tk, r3, h2, hk⟩ := hk
            refine rglobal_neg_num h hn heq hm h2 hk ?_
            have h5 := (tnum_ok (e := E) ht (show tnumT E r.tail.tail = .ok (tk.num, r3) by rw [h2, tnumT, if_pos hk]))
            exact ⟨h5.1, h5.2.1⟩
          · exact rglobal_neg_bad h hn heq hm fun tk r3 h2 hk2 => hk ⟨tk, r3, h2, hk2⟩
        | false =>
          by_cases hk : ∃ tk r3, r.tail = tk :: r3 ∧ tk.kind = 3
          · obtain ⟨tk, r3, h2, hk⟩ := hk
            exact rglobal_pos_num h hn heq hm h2 hk
          · exact rglobal_pos_bad h hn heq hm fun tk r3 h2 hk2 => hk ⟨tk, r3, h2, hk2⟩
      · exact rglobal_int h (by simp only [namE, hn, isE]; simpa using heq)
  · exact rglobal_lock h
end
end

section
open Go.RowKit

/-- Nodes in memory, with their kids. -/
def NodesIn (w : World) (B : Nat) (v : Value) (rows : List Row) : Prop := ∃ ys : List (Row × Value), OwnN w B v ys ∧ ys.map Prod.fst = rows ∧ ∀ y, y ∈ ys → w.ownsRow 0 3 1 y.2 y.1.kids.length (y.1.kids.map fun k => .int .i64 k)
/-- What Parse tells. -/
def ParseQ (B : Nat) (r : List Row × (Int × Int)) (e : Ending) (w' : World) : Prop :=
  ∃ v, e = .returned (.tuple #[v, .agg #[.int .i64 r.2.1, .int .i64 0, .int .i64 r.2.2]]) ∧ NodesIn w' B v r.1
theorem nodes_nil (w : World) (B : Nat) : NodesIn w B nilV [] := ⟨[], World.ownsRow_nil _ _ _ _, rfl, fun y hy => by simp at hy⟩

section
variable {C : Cx9} {w w' : World} {d M : Nat} {bx : Option (Nat × Obj)} {ps : List (List Int × Value)} {s : Except (Int × Int) (List Tok)} {rows : List Row}
theorem GoS.pslt (h : GoS C w d M bx ps s rows) : ∀ p, p ∈ ps → ∀ g, p.2.ownBlock = some g → g < w.heap.size := by
  obtain ⟨lv, h⟩ := h
  exact fun p hp g hg => ((h.ps p hp).kd.own.lt g hg).2
/-- The parser at its beginning. -/
theorem go_start (W : World) (P : Nat) (T : List Tok) (E : Int) (tv : Value) (hP : W.heap[P]? = some (.cells #[tv, .int .i64 E, .int .i64 0, .int .i64 0, nilV, .int .i64 0, .int .i64 0, .int .i64 0] 73)) (ht : OwnT W 0 tv T) (hap : tv.ownBlock ≠ some P) (hT : T.length ≤ 4000) (N : Nat) :
    GoS ⟨W, nilV, P, P, T, E, tv, fun _ => False⟩ W 0 N none [] (.ok T) [] := by
  have hPl : P < W.heap.size := by
    rcases Nat.lt_or_ge P W.heap.size with h1 | h1
    · exact h1
    · rw [Array.getElem?_eq_none h1] at hP; cases hP
  refine ⟨nilV, FrN.of (Only.refl _ _), fun z hz => (by cases hz), fun p hp => (by simp at hp), [], ⟨⟨0, rfl, ⟨hP, ht, hap, Nat.zero_le _, hT⟩⟩, ⟨World.ownsRow_nil _ _ _ _, Nat.le_of_lt hPl, by simp [Value.ownBlock], fun g hg => by simp [Value.ownBlock] at hg⟩, fun x hx => by simp at hx, by simp⟩, rfl, fun y hy => by simp at hy⟩
theorem GoS.frame (h : GoS C w d M bx ps s rows) (hl : C.lv0 = nilV) {B : Nat} (hB : B ≤ C.P) (hBw : B ≤ C.w0.heap.size) : Below B C.w0 w := by
  obtain ⟨lv, h⟩ := h
  exact ⟨h.fr.os, h.fr.tape, h.fr.output, h.fr.size, fun k hk => h.fr.block k (by omega) (by omega) (by rw [hl]; simp [Value.ownBlock])⟩
theorem GoS.keeps (h : GoS C w d M bx ps s rows) (hl : C.lv0 = nilV) {k : Nat} (hk : k < C.w0.heap.size) (hne : k ≠ C.P) : w.heap[k]? = C.w0.heap[k]? := by
  obtain ⟨lv, h⟩ := h
  exact h.fr.block k hk hne (by rw [hl]; simp [Value.ownBlock])
end

theorem GoS.errp {C : Cx9} {w : World} {d M : Nat} {bx : Option (Nat × Obj)} {ps : List (List Int × Value)} {f : Int × Int} {rows : List Row} (h : GoS C w d M bx ps (.error f) rows) : f.1 ≠ 0 ∧ ∃ i d1 lv, Ps w C.P C.T C.E i d1 C.tv lv f.1 f.2 := by
  obtain ⟨lv, h⟩ := h
  obtain ⟨d1, ys, h1, _⟩ := h.st
  exact ⟨h1.1, _, d1, lv, h1.2⟩
/-- All nodes are there. -/
structure FinS (C : Cx9) (w : World) (rows : List Row) (lv : Value) : Prop where
  ps : ∃ i d1, Ps w C.P C.T C.E i d1 C.tv lv 0 0
  nds : NodesIn w C.B lv rows
  apart : lv.ownBlock ≠ some C.P
  kid : ∃ ys : List (Row × Value), OwnN w C.B lv ys ∧ ys.map Prod.fst = rows ∧ ∀ y, y ∈ ys → y.2.ownBlock ≠ some C.P ∧ w.ownsRow 0 3 1 y.2 y.1.kids.length (y.1.kids.map fun k => .int .i64 k)
  low : ∀ k, k < C.w0.heap.size → k ≠ C.P → some k ≠ C.lv0.ownBlock → w.heap[k]? = C.w0.heap[k]?
  os : w.os = C.w0.os
  tape : w.tape = C.w0.tape
  output : w.output = C.w0.output
  size : C.w0.heap.size ≤ w.heap.size
/-- The last node. -/
theorem glast {C : Cx9} {w : World} {M : Nat} {ka : Option Addr} {kn kc : Nat} {ks : List Int} {l : List Tok} {rows : List Row} (h : GoS C w 0 M none [(ks, .slice ka kn kc)] (.ok l) rows) :
    Calls Tryz.prog 31 #[.pointer (some ⟨C.P, 0, none⟩), .agg #[.int .i64 1, .int .i64 0, .int .i64 0, .string ⟨#[]⟩, .slice ka kn kc]] w fun e w' => ∃ v, e = .returned (.int .i64 v) ∧ ∃ lv, FinS C w' (rows ++ [⟨1, 0, 0, [], ks⟩]) lv := by
  have hfew := h.few
  have hfw := h.fewR
  obtain ⟨lv, h⟩ := h
  obtain ⟨ys, hok, hr, hkb⟩ := h.st
  have hl : ys.length = rows.length := by rw [← hr, List.length_map]
  have hkd := (h.ps _ (List.mem_cons_self ..)).kd
  refine (rnode_lst hok.aft hok.lst (by omega) 1 0 0 [] ks ka kn kc).mono ?_
  rintro e w' ⟨rfl, lv', ha, hl', hfr⟩
  refine ⟨_, rfl, lv', ?_⟩
  have hf2 := h.fr.trans hfr
  obtain ⟨i, _, hp⟩ := ha
  have hk : ∀ y, y ∈ ys ++ [((⟨1, 0, 0, [], ks⟩ : Row), Value.slice ka kn kc)] → y.2.ownBlock ≠ some C.P ∧ w'.ownsRow 0 3 1 y.2 y.1.kids.length (y.1.kids.map fun k => .int .i64 k) := fun y hy => by
    rcases List.mem_append.1 hy with hy | hy
    · have := (hok.kid y hy).fr hfr
      exact ⟨this.apart, this.own⟩
    · obtain rfl : y = (⟨1, 0, 0, [], ks⟩, .slice ka kn kc) := by simpa using hy
      have := hkd.fr hfr
      exact ⟨this.apart, this.own⟩
  have hm : (ys ++ [((⟨1, 0, 0, [], ks⟩ : Row), Value.slice ka kn kc)]).map Prod.fst = rows ++ [⟨1, 0, 0, [], ks⟩] := by rw [List.map_append, hr]; rfl
  exact ⟨⟨i, _, hp⟩, ⟨_, hl'.own, hm, fun y hy => (hk y hy).2⟩, hl'.apart, ⟨_, hl'.own, hm, hk⟩, hf2.block, hf2.os, hf2.tape, hf2.output, hf2.size⟩

/-- A round of globals. -/
inductive GlI (C : Cx9) (M : Nat) (G : TRes (List Nd)) (g : Nat) (kv : Value) (wr : World) : Prop where
  | ok (xs : List Nd) (q : List Tok) (n : Nat) (hg : GoS C wr 0 M none [(idxs 0 xs, kv)] (.ok q) (flats 0 xs)) (hG : globalsT C.E n xs q = G) (hn : q.length ≤ n) (hs : ndsSize xs + q.length ≤ C.T.length) (hm : q.length + 2 ≤ g) (hq : ToksOk q)
  | err (f : Int × Int) (ks : List Int) (hg : GoS C wr 0 M none [(ks, kv)] (.error f) []) (hG : G = .error f) (hm : 1 ≤ g)
/-- A round of threads. -/
inductive ThI (C : Cx9) (M : Nat) (Z : TRes (List Nd)) (g : Nat) (kv : Value) (wr : World) : Prop where
  | ok (xs : List Nd) (q : List Tok) (hg : GoS C wr 0 M none [(idxs 0 xs, kv)] (.ok q) (flats 0 xs)) (hZ : threadsT C.E xs q = Z) (hs : ndsSize xs + q.length ≤ C.T.length) (hm : q.length + 2 ≤ g)
  | err (f : Int × Int) (ks : List Int) (hg : GoS C wr 0 M none [(ks, kv)] (.error f) []) (hZ : Z = .error f) (hm : 1 ≤ g)
theorem global_size {e : Int} {l r : List Tok} {x : Nd} (hl : ToksOk l) (h : globalT e l = .ok (x, r)) : ndSize x = 1 ∧ r.length < l.length ∧ ToksOk r := by
  have hw := global_wf hl h
  have key : ndSize x = 1 ∧ r.length < l.length := by
    unfold globalT at h
    split at h
    · cases hn : nameT e l.tail with
      | error f => rw [hn] at h; cases h
      | ok y =>
        obtain ⟨s, q⟩ := y
        rw [hn] at h
        simp only at h
        cases ht : takeT e [59] q with
        | error f => rw [ht] at h; cases h
        | ok p =>
          rw [ht] at h
          have h1 := Except.ok.inj h
          simp only [Prod.mk.injEq] at h1
          have h2 := name_len hn
          have h3 := take_len ht
          have h4 := tail_le l
          rw [← h1.1, ← h1.2]
          exact ⟨rfl, by omega⟩
    · cases ht0 : takeT e wInt l with
      | error f => rw [ht0] at h; cases h
      | ok l1 =>
        rw [ht0] at h
        simp only at h
        have h0 := take_len ht0
        cases hn : nameT e l1 with
        | error f => rw [hn] at h; cases h
        | ok y =>
          obtain ⟨s, q⟩ := y
          rw [hn] at h
          simp only at h
          have h2 := name_len hn
          split at h
          · split at h
            · cases h
            · rename_i v p hv
              have h5 := tnum_len hv
              cases ht : takeT e [59] p with
              | error f => rw [ht] at h; cases h
              | ok z =>
                rw [ht] at h
                have h1 := Except.ok.inj h
                simp only [Prod.mk.injEq] at h1
                have h3 := take_len ht
                have h4 := tail_le q
                have h6 := tail_le q.tail
                rw [← h1.1, ← h1.2]
                refine ⟨rfl, ?_⟩
                split at h5 <;> omega
          · cases ht : takeT e [59] q with
            | error f => rw [ht] at h; cases h
            | ok z =>
              rw [ht] at h
              have h1 := Except.ok.inj h
              simp only [Prod.mk.injEq] at h1
              have h3 := take_len ht
              rw [← h1.1, ← h1.2]
              exact ⟨rfl, by omega⟩
  exact ⟨key.1, key.2, hw.2⟩
end

section
/-- An order of a thread; nodes by their numbers. -/
inductive Od where
  | beg (i : Nat)
  | num (n : Int)
  | get (d : Nat)
  | put (d : Nat)
  | two (i : Nat) (t : List UInt8)
  | neg
  | not
  | tru
  | jmp (t : Nat)
  | zer (t : Nat)
  | lev (d : Nat)
  | rd (d : Nat)
  | wr (d : Nat)
  | cas (d : Nat)
  | pri
  | tak (d : Nat)
  | giv (d : Nat)
  | fen
deriving DecidableEq, Inhabited
/-- A thread: where it stands, what was evaluated (the last one first), of each node its variable. -/
structure Wth where
  at' : Nat
  st : List Int
  lo : List (Option Int)
deriving DecidableEq, Inhabited
/-- A number of 64 bits. -/
def inR (x : Int) : Prop := -9223372036854775808 ≤ x ∧ x ≤ 9223372036854775807
instance (x : Int) : Decidable (inR x) := inferInstanceAs (Decidable (_ ∧ _))
section
variable {X : List Od} {n c : Nat} {t t' : Wth} {x : Od} {r : Option Wth}
end

/-- A piece of code, as two writings have it, at an offset; and the places that are alike, with how many numbers there are. -/
structure Du where
  f : Nat → List Od
  g : Nat → List Od
  pr : Nat → Nat → Nat → List (Nat × Nat × Nat)
end

section
open Go.RowKit

theorem idxs_len9 : ∀ (ks : List Nd) (b : Nat), (idxs b ks).length = ks.length
  | [], _ => rfl
  | x :: r, b => by rw [idxs, List.length_cons, List.length_cons, idxs_len9 r]
theorem nds_len9 : ∀ ks : List Nd, ks.length ≤ ndsSize ks
  | [] => Nat.le_refl _
  | x :: r => by
    have := nds_len9 r
    have := size_pos x
    rw [ndsSize, List.length_cons]
    omega
theorem nds_take9 : ∀ {ks : List Nd} {j : Nat} {y : Nd}, ks[j]? = some y → ndsSize (ks.take j) + ndSize y ≤ ndsSize ks
  | [], _, _, h => by simp at h
  | x :: r, 0, y, h => by
    simp only [List.getElem?_cons_zero, Option.some.injEq] at h
    subst h
    rw [List.take_zero, ndsSize, ndsSize]
    omega
  | x :: r, j + 1, y, h => by
    simp only [List.getElem?_cons_succ] at h
    have := nds_take9 h
    rw [List.take_succ_cons, ndsSize, ndsSize]
    omega
section
variable {rows : List Row}
end
end

section
open Go.RowKit

theorem LEnv.row {w : World} (h : LEnv w) : ∃ t fr, w.heap[0]? = some (.cells (signsL.map Value.string).toArray t fr) := by
  have h1 := h.sg
  unfold World.var? at h1
  rw [signsName] at h1
  simp only [Option.bind_some] at h1
  split at h1
  · rename_i cs t fr hh
    simp only [Option.some.injEq] at h1
    exact ⟨t, fr, by rw [hh, h1]⟩
  · cases h1
theorem idx_sign (W : World) : ∀ k : Nat, k < 19 → (Instr.index 160 (.agg (signsL.map Value.string).toArray) (.int .i64 (k : Int))).run Tryz.prog W = .ok (.string (signsL.getD k ⟨#[]⟩)) W
  | 0, _ => by kernel_rfl
  | 1, _ => by kernel_rfl
  | 2, _ => by kernel_rfl
  | 3, _ => by kernel_rfl
  | 4, _ => by kernel_rfl
  | 5, _ => by kernel_rfl
  | 6, _ => by kernel_rfl
  | 7, _ => by kernel_rfl
  | 8, _ => by kernel_rfl
  | 9, _ => by kernel_rfl
  | 10, _ => by kernel_rfl
  | 11, _ => by kernel_rfl
  | 12, _ => by kernel_rfl
  | 13, _ => by kernel_rfl
  | 14, _ => by kernel_rfl
  | 15, _ => by kernel_rfl
  | 16, _ => by kernel_rfl
  | 17, _ => by kernel_rfl
  | 18, _ => by kernel_rfl
  | _ + 19, h => absurd h (by omega)

/-- The first sign that can stand. -/
def findS (l : List UInt8) (gs : List ByteArray) : Option ByteArray := gs.find? fun g => Lib.hasPrefix l g.data.toList
theorem has_two (l : List UInt8) (x y : UInt8) : Lib.hasPrefix l [x, y] = decide (l.take 2 = [x, y]) := by
  match l with
  | [] => simp [Lib.hasPrefix]
  | [a] => simp [Lib.hasPrefix, List.isPrefixOf]
  | a :: b :: r =>
    rw [Bool.eq_iff_iff]
    simp only [Lib.hasPrefix, List.isPrefixOf, Bool.and_true, Bool.and_eq_true, beq_iff_eq, decide_eq_true_eq, List.take_succ_cons, List.take_zero, List.cons.injEq, and_true]
    exact ⟨fun h => ⟨h.1.symm, h.2.symm⟩, fun h => ⟨h.1.symm, h.2.symm⟩⟩
theorem has_one (l : List UInt8) (x : UInt8) : Lib.hasPrefix l [x] = decide (l.head? = some x) := by
  match l with
  | [] => simp [Lib.hasPrefix]
  | a :: r =>
    rw [Bool.eq_iff_iff]
    simp only [Lib.hasPrefix, List.isPrefixOf, Bool.and_true, beq_iff_eq, decide_eq_true_eq, List.head?_cons, Option.some.injEq]
    exact ⟨fun h => h.symm, fun h => h.symm⟩
theorem findS_all (b : UInt8) (r : List UInt8) : findS (b :: r) signsL = if signN (b :: r) = 0 then none else some ⟨⟨(b :: r).take (signN (b :: r))⟩⟩ := by
  unfold findS signsL
  simp only [List.find?_cons, List.find?_nil, has_two, has_one, List.head?_cons, Option.some.injEq]
  by_cases h : (b :: r).take 2 ∈ twoL
  · rw [signN_two h, if_neg (by decide)]
    simp only [twoL, List.mem_cons, List.not_mem_nil, or_false] at h
    rcases h with h | h | h | h | h | h <;> simp only [h] <;> rfl
  · have hn : signN (b :: r) = if b ∈ oneS then 1 else 0 := by unfold signN; rw [if_neg h]
    simp only [twoL, List.mem_cons, List.not_mem_nil, or_false, not_or] at h
    obtain ⟨h1, h2, h3, h4, h5, h6⟩ := h
    simp only [h1, h2, h3, h4, h5, h6, decide_false]
    rw [hn]
    by_cases hb : b ∈ oneS
    · simp only [if_pos hb, List.take_succ_cons, List.take_zero]
      rw [if_neg (by decide)]
      simp only [oneS, List.mem_cons, List.not_mem_nil, or_false] at hb
      rcases hb with rfl | rfl | rfl | rfl | rfl | rfl | rfl | rfl | rfl | rfl | rfl | rfl | rfl <;> rfl
    · simp only [if_neg hb, if_true]
      simp only [oneS, List.mem_cons, List.not_mem_nil, or_false, not_or] at hb
      simp [hb]


theorem signs_len : signsL.length = 19 := rfl
theorem findS_step {l : List UInt8} {j : Nat} (h : j < 19) : findS l (signsL.drop j) = if Lib.hasPrefix l (signsL.getD j ⟨#[]⟩).data.toList = true then some (signsL.getD j ⟨#[]⟩) else findS l (signsL.drop (j + 1)) := by
  have hl : j < signsL.length := by rw [signs_len]; exact h
  rw [List.drop_eq_getElem_cons hl]
  have e : signsL.getD j ⟨#[]⟩ = signsL[j] := by simp [List.getD, List.getElem?_eq_getElem hl]
  rw [e, findS, List.find?_cons]
  split
  · rename_i h1; rw [if_pos h1]
  · rename_i h1; rw [if_neg (by simp [h1])]; rfl
theorem sign_hit {s : ByteArray} {i : Nat} (hi : i < s.size) (hl : isLet s[i] = false) (hd : isDig s[i] = false) {g : ByteArray} (h : findS (s.data.toList.drop i) signsL = some g) :
    oneL (s.data.toList.drop i) = some (4, 0, g.size) ∧ i + g.size ≤ s.size ∧ s.extract i (i + g.size) = g := by
  have h1 := findS_all s[i] (s.data.toList.drop (i + 1))
  rw [← drop_at s i hi, h] at h1
  have hle := signN_le (s.data.toList.drop i)
  have hsl : s.data.toList.length = s.size := by simp
  rw [List.length_drop, hsl] at hle
  split at h1
  · cases h1
  · rename_i h2
    have h3 : g.data.toList = (s.data.toList.drop i).take (signN (s.data.toList.drop i)) := by
      have := Option.some.inj h1
      rw [this]
    have h4 : g.size = signN (s.data.toList.drop i) := by
      rw [Lib.size_eq, h3, List.length_take, List.length_drop, hsl]; omega
    refine ⟨?_, by rw [h4]; omega, ?_⟩
    · rw [oneL_sign hi hl hd, if_neg h2, h4]
    · apply ByteArray.ext
      apply Array.toList_inj.mp
      rw [ext_list, Nat.add_sub_cancel_left, h4, h3]
theorem sign_miss {s : ByteArray} {i : Nat} (hi : i < s.size) (hl : isLet s[i] = false) (hd : isDig s[i] = false) (h : findS (s.data.toList.drop i) signsL = none) : oneL (s.data.toList.drop i) = none := by
  have h1 := findS_all s[i] (s.data.toList.drop (i + 1))
  rw [← drop_at s i hi, h] at h1
  rw [oneL_sign hi hl hd]
  split at h1
  · rename_i h2; rw [if_pos h2]
  · cases h1

set_option maxRecDepth 100000 in
set_option maxHeartbeats 1600000 in
theorem lexSign_any (sb : Nat) (s : ByteArray) (hs : s.size ≤ 4000) (i : Nat) (hi : i < s.size) (hl : isLet s[i] = false) (hd : isDig s[i] = false) (w : World) (h : Sc w sb s i) (hE : LEnv w) :
    Calls Tryz.prog 109 #[.pointer (some ⟨sb, 0, none⟩)] w fun e w' => TokQ w sb s i e w' := by
  have hA : Below w.heap.size w (w.alloc (.cells #[.int .i64 0, .int .i64 0, .int .i64 0, .string ⟨#[]⟩] 98)) := (Below.refl _ _).alloc (Nat.le_refl _) _
  obtain ⟨gt, gf, hrow⟩ := (hE.below hA).row
  obtain ⟨V, hV⟩ : ∃ V, w.alloc (.cells #[.int .i64 0, .int .i64 0, .int .i64 0, .string ⟨#[]⟩] 98) = V := ⟨_, rfl⟩
  obtain ⟨A, hAe⟩ : ∃ A, (signsL.map Value.string).toArray = A := ⟨_, rfl⟩
  have hsz : A.size = 19 := by rw [← hAe]; rfl
  have hidx := idx_sign
  rw [hAe] at hrow hidx
  have hxV : V.heap[w.heap.size]? = some (.cells #[.int .i64 0, .int .i64 0, .int .i64 0, .string ⟨#[]⟩] 98) := by rw [← hV]; exact heap_alloc_new _ _
  have hSV : Sc V sb s i := by rw [← hV]; exact h.below hA
  rw [hV] at hA
  have HV : Hid (Below w.heap.size w V ∧ Sc V sb s i ∧ V.heap[w.heap.size]? = some (.cells #[.int .i64 0, .int .i64 0, .int .i64 0, .string ⟨#[]⟩] 98)) := ⟨hA, hSV, hxV⟩
  have HVE := Hid.out (p := Hid _) hV
  clear hA hSV hxV hV hAe
  go_enter Tryz.func109, Tryz.ntmps109
  go_wp2_with (refine wpList_load_row rfl 160 _ rfl 0 rfl gt _ gf _ hrow Tryz.underlying160 rfl (by rw [hsz]; kernel_rfl) ?_)
  rw [HVE.out]
  clear hrow
  go_loopw [6] (fun k wr => ∃ j : Nat, j ≤ 19 ∧ k = .int .i64 (j : Int) ∧ Hid (findS (s.data.toList.drop i) (signsL.drop j) = findS (s.data.toList.drop i) signsL) ∧ Hid (Below V.heap.size V wr)) (fun k _ => 19 - (intOf k).toNat)
  case atStart => exact ⟨0, by omega, rfl, (rfl : _ = _), Below.refl _ _⟩
  case round =>
    obtain ⟨j, hj, rfl, HF, HW⟩ := hrel
    have hSw : Sc wr sb s i := HV.out.2.1.below HW.out
    have h0 := hSw.c0
    have h1 := hSw.c1
    have hf := hSw.fr
    have HS : Hid (Sc wr sb s i) := hSw
    have hi' : (i : Int) ≤ (s.size : Int) := by omega
    have hi2 : i ≤ s.size := by omega
    clear hSw
    by_cases hlt : j < 19
    · have hlt' : (j : Int) < 19 := by omega
      have hix := fun W => hidx W j hlt
      obtain ⟨g, hg⟩ : ∃ g, signsL.getD j ⟨#[]⟩ = g := ⟨_, rfl⟩
      rw [hg] at hix
      have HST := Hid.out (p := Hid _) (findS_step (l := s.data.toList.drop i) hlt)
      rw [hg] at HST
      clear hidx hg
      cases hp : Lib.hasPrefix (s.extract i s.size).data.toList g.data.toList with
      | true =>
        obtain ⟨hq1, hq2, hq3⟩ := sign_hit hi hl hd (g := g) (by
          have h2 := HF.out
          rw [HST.out, ← rest_list, if_pos hp] at h2
          rw [← rest_list]; exact h2.symm)
        have HQ : Hid (∀ e w', w.grownBy w' (some sb) → e = .returned (.agg #[.int .i64 4, .int .i64 0, .int .i64 i, .string g]) → Sc w' sb s (i + g.size) → TokQ w sb s i e w') := fun e w' hg he hc => by
          unfold TokQ
          rw [hq1]
          refine ⟨hg, ?_, hc⟩
          rw [hq3]
          exact he
        have HS2 : Hid (Sc (wr.setCell ⟨sb, 1, none⟩ (.int .i64 ((i : Int) + (g.size : Int)))).drew sb s (i + g.size) ∧ w.grownBy (wr.setCell ⟨sb, 1, none⟩ (.int .i64 ((i : Int) + (g.size : Int)))).drew (some sb) ∧ (wr.setCell ⟨sb, 1, none⟩ (.int .i64 ((i : Int) + (g.size : Int)))).drew.heap[w.heap.size]? = some (.cells #[.int .i64 0, .int .i64 0, .int .i64 0, .string ⟨#[]⟩] 98) ∧ w.heap.size < (wr.setCell ⟨sb, 1, none⟩ (.int .i64 ((i : Int) + (g.size : Int)))).drew.heap.size) := by
          have e : ((i + g.size : Nat) : Int) = (i : Int) + (g.size : Int) := by omega
          have hS3 := HS.out.set (i + g.size)
          rw [e] at hS3
          have hlt2 : w.heap.size < V.heap.size := by
            rw [← HVE.out]; simp
          have hne : w.heap.size ≠ sb := by have := h.lt; omega
          refine ⟨hS3.below (Below.refl _ _).drew, ?_, ?_, ?_⟩
          · exact grown_then (grown_of_below HV.out.1 _) (grown_then (grown_of_below HW.out _) (grown_then (grown_set _ _ _ _) (grown_of_below (Below.refl _ _).drew _)))
          · exact (Below.heap_setCell _ _ _ _ hne).trans ((HW.out.block _ hlt2).trans HV.out.2.2)
          · have := HW.out.size
            show _ < (wr.setCell _ _).heap.size
            simp only [World.setCell, Array.size_modify]
            omega
        clear hq1 hq3
        go_wp2_with fail
        refine region_tail 10 (by kernel_rfl) (by kernel_rfl) ?_
        simp only [List.take_succ_cons, List.take_zero, List.drop_succ_cons, List.drop_zero]
        repeat still_step
        refine wpStill_nil ?_
        go_wp2_with fail
        refine Calls.mono (Tryz.strings_HasPrefix _ _ _) ?_
        rintro e w' ⟨rfl, rfl⟩
        rw [hp]
        go_wp2_with (first | (go_at_call 133; refine (taken_any sb s (i + g.size) (by omega) _ g (by omega) _ HS2.out.1).mono ?_; rintro e w2 ⟨rfl, hb2⟩; have hx2 := (hb2.block _ HS2.out.2.2.2).trans HS2.out.2.2.1; have p0 := box_cell (i := 0) hx2 rfl; have p1 := box_cell (i := 1) hx2 rfl; have p2 := box_cell (i := 2) hx2 rfl; have p3 := box_cell (i := 3) hx2 rfl; have pf := fun j => box_free (i := j) hx2; clear hx2))
        have hne : w.heap.size ≠ sb := by have := h.lt; omega
        have hg2 : w.grownBy w2 (some sb) := grown_then HS2.out.2.1 (grown_of_below hb2 _)
        refine bodyPost_ret (v := .agg #[.int .i64 4, .int .i64 0, .int .i64 i, .string g]) (by simp [results, Tryz.results109, go_sem, p0, p1, p2, p3]) rfl (HQ.out _ _ ?_ rfl ?_)
        · exact grown_high (grown_high (grown_high (grown_high hg2 (Nat.le_refl _) _) (Nat.le_refl _) _) (Nat.le_refl _) _) (Nat.le_refl _) _
        · exact ((((HS2.out.1.below hb2).far hne _).far hne _).far hne _).far hne _
      | false =>
        have HF2 : Hid (findS (s.data.toList.drop i) (signsL.drop (j + 1)) = findS (s.data.toList.drop i) signsL) := by
          show _ = _
          rw [← HF.out, HST.out, if_neg (by rw [← rest_list, hp]; simp)]
        go_wp2_with fail
        refine region_tail 10 (by kernel_rfl) (by kernel_rfl) ?_
        simp only [List.take_succ_cons, List.take_zero, List.drop_succ_cons, List.drop_zero]
        repeat still_step
        refine wpStill_nil ?_
        go_wp2_with fail
        refine Calls.mono (Tryz.strings_HasPrefix _ _ _) ?_
        rintro e w' ⟨rfl, rfl⟩
        rw [hp]
        go_wp2_with fail
        go_roundw
        case rel => exact ⟨j + 1, by omega, by go_num, HF2, HW.out.drew⟩
        case measure => simp [intOf]; omega
    · have hlt' : ¬ (j : Int) < 19 := by omega
      have hq1 := sign_miss hi hl hd (by
        have h2 := HF.out
        rw [show j = 19 by omega] at h2
        exact h2.symm)
      clear hidx
      go_wp2_with fail
      refine ⟨rfl, grown_then (grown_of_below HV.out.1 _) (grown_of_below HW.out _), ?_⟩
      rw [hq1]
      rfl
end

section
open Go.ChangeShapes Go.WideShapes Go.ChangeAt Go.RowKit
open Go.ChangeMaps (open_string shut_string)

theorem Tryz.own : ownKnob Tryz.prog.godebug = none := by kernel_rfl
theorem gRange : Tryz.prog.globalNamed "strconv.ErrRange" = some 2 := by kernel_rfl
theorem gRangeType : (Tryz.prog.globals[2]?).map (·.type) = some 157 := by kernel_rfl
theorem cellsErr : Tryz.prog.cellsOf 189 = 1 := by kernel_rfl
theorem cellsStr : Tryz.prog.cellsOf 9 = 1 := by kernel_rfl
theorem starErr : "*" ++ "errors.errorString" = "*errors.errorString" := by decide
theorem rowErr (u : TypeId) (h : Tryz.prog.typeName? 3 u = some "*errors.errorString") : u = 187 :=
  typeName_ptr_named (nm := "errors.errorString") (by rw [starErr]; kernel_rfl) (by kernel_rfl) (by decide) u (by rw [starErr]; exact h)

theorem gSignsType : (Tryz.prog.globals[0]?).map (·.type) = some 160 := by kernel_rfl
theorem cellsSigns : Tryz.prog.cellsOf 160 = 19 := by kernel_rfl

/-- An array of strings that reads as a list of texts holds just these. -/
theorem cells_of_strs {H : Type} {enc : TypeId × Value → H} {P : Program} {w : World} {base : Nat} {sp : Nat → Bool} {held : Bool} {fuel : Nat} {t e : TypeId} {n : Nat} {cs : List Value} {zs : List ByteArray} {p : List MemPlace}
    (ht : P.underlying t = some (.array n e)) (he : P.underlying e = some .string) (hce : P.cellsOf e = 1) (hct : P.cellsOf t = n)
    (h : DataW.trod enc P w base sp held fuel t cs = some (.agg (zs.map fun z => .lit (.string z.data.toList)), p)) : cs = zs.map Value.string := by
  cases fuel with
  | zero => simp [DataW.trod] at h
  | succ fuel =>
    simp only [DataW.trod, ht, hce, hct, Nat.mul_one] at h
    split at h
    · rename_i hl
      obtain ⟨xs, hm, hx⟩ := Option.map_eq_some_iff.1 h
      have hxs : xs.map (·.1) = zs.map fun z => (DataW.lit (.string z.data.toList) : DataW H) := by
        have := congrArg Prod.fst hx
        simpa using this
      have hxl : xs.length = n := by simpa using Lib.mapM_length hm
      have hzl : zs.length = n := by
        have := congrArg List.length hxs
        simp at this
        omega
      apply List.ext_getElem?
      intro i
      by_cases hi : i < n
      · obtain ⟨b, hb, hf⟩ := Lib.mapM_at hm i i (by simp [hi])
        obtain ⟨z, hc, rfl, _⟩ := DataW.trod_string he hf
        have h1 : cs[i]? = some (.string z) := by
          have := congrArg (·[0]?) hc
          simpa [List.getElem?_take, List.getElem?_drop] using this
        have h2 : (xs.map (·.1))[i]? = some (DataW.lit (.string z.data.toList) : DataW H) := by simp [hb]
        rw [hxs] at h2
        simp only [List.getElem?_map, Option.map_eq_some_iff, DataW.lit.injEq, Lit.string.injEq] at h2
        obtain ⟨z', hz', e⟩ := h2
        have : z' = z := by
          apply ByteArray.ext
          exact Array.toList_inj.mp e
        subst this
        simp [h1, hz']
      · rw [List.getElem?_eq_none (by omega), List.getElem?_eq_none (by simp; omega)]
    · cases h
theorem strs_of_head {P : Program} {W : World} {name : String} {zs : List ByteArray} {rest : List (String × DataW Unit)} {g : Nat} {t e : TypeId} {n : Nat}
    (hg : P.globalNamed name = some g) (hty : (P.globals[g]?).map (·.type) = some t) (ht : P.underlying t = some (.array n e)) (he : P.underlying e = some .string) (hce : P.cellsOf e = 1) (hct : P.cellsOf t = n)
    (h : laidMet P ((name, .agg (zs.map fun z => .lit (.string z.data.toList))) :: rest) W) : W.var? P name = some (zs.map Value.string).toArray := by
  obtain ⟨ps, ⟨g', t', cs, fuel, p, q, hg', ht', hvar, hd, _, _⟩, _⟩ := h
  obtain rfl := Option.some.inj (hg.symm.trans hg')
  obtain rfl := Option.some.inj (hty.symm.trans ht')
  rw [hvar, ← cells_of_strs ht he hce hct hd]

theorem shaped_size {P : Program} {W : World} (h : W.ShapedOpen P) (g : Nat) (hg : g < P.globals.size) (hs : (((begin P (fun _ _ => 0) default).world.heap[g]?).bind Obj.row?).isSome = true) : g < W.heap.size := by
  obtain ⟨⟨zero, t⟩, hz⟩ := Option.isSome_iff_exists.1 hs
  obtain ⟨cs, h1, _⟩ := h.1 g zero t hg hz
  rcases Nat.lt_or_ge g W.heap.size with h2 | h2
  · exact h2
  · rw [Array.getElem?_eq_none h2] at h1; cases h1
end

end Go.Proofs.YtggfbfjdiikaeaaGreatDoor
