/-
  Whole programs: what is printed is read as it was, what is read is one.
  The document's parser: every global.
  The document's Parse: how it begins, its rounds, how it ends.
  Texts made of tokens and blanks: their tokens are found again; and what is found are tokens.
  What is found in a text are tokens; expressions as pieces of a text.
-/
import Derived.Test.YtclnjhffcfkihaeGreatDoorSynM
import Derived.Test.YtclnjhffcfkihaeGreatDoorSynH4
import Derived.Test.YtclnjhffcfkihaeGreatDoorLexZ6
import Derived.Test.YtclnjhffcfkihaeGreatDoorLexP
import Derived.Test.YtclnjhffcfkihaeGreatDoorBase
namespace Go.Proofs.YtclnjhffcfkihaeGreatDoor
section
/-- The tokens of a global, of a thread. -/
def toksG : Nd → List Tk
  | .mk k n _ t ks =>
    if k = 2 then (2, 0, wInt) :: (1, 0, t) :: ((if n = 0 then [] else (4, 0, [61]) :: ((if n < 0 then [(4, 0, [45])] else []) ++ [(3, (n.natAbs : Int), Lib.decDigits n.natAbs)])) ++ [(4, 0, [59])])
    else if k = 3 then [(2, 0, wLock), (1, 0, t), (4, 0, [59])]
    else (2, 0, wThread) :: (toksNs ks).flatten
/-- What is a global. -/
def WfG : Nd → Prop
  | .mk k n _ t ks => (k = 2 ∧ NameOk t ∧ n.natAbs ≤ 999999999 ∧ ks = []) ∨ (k = 3 ∧ n = 0 ∧ NameOk t ∧ ks = [])
section
variable {e : Int}
end

section
variable {e : Int}
theorem tnum_ok {v : Int} {l r : List Tok} (hl : ToksOk l) (h : tnumT e l = .ok (v, r)) : 0 ≤ v ∧ v ≤ 999999999 ∧ r = l.tail := by
  match l, h with
  | t :: q, h =>
    rw [tnumT] at h
    split at h
    · rename_i h1
      have h2 : (t.num, q) = (v, r) := Except.ok.inj h
      simp only [Prod.mk.injEq] at h2
      obtain ⟨rfl, rfl⟩ := h2
      rcases hl t (by simp) with h3 | h3 | h3 | h3
      · omega
      · omega
      · exact ⟨h3.2.1, h3.2.2.1, rfl⟩
      · omega
    · cases h
theorem global_wf {x : Nd} {l r : List Tok} (hl : ToksOk l) (h : globalT e l = .ok (x, r)) : WfG x ∧ ToksOk r := by
  unfold globalT at h
  split at h
  · split at h
    · cases h
    · rename_i s q hs
      obtain ⟨h1, rfl⟩ := name_ok hl.tail hs
      split at h
      · cases h
      · rename_i q2 hq
        obtain ⟨_, rfl⟩ := take_ok hq
        have h2 := Except.ok.inj h
        simp only [Prod.mk.injEq] at h2
        obtain ⟨rfl, rfl⟩ := h2
        exact ⟨Or.inr ⟨rfl, rfl, h1, rfl⟩, hl.tail.tail.tail⟩
  · split at h
    · cases h
    · rename_i l1 hl1
      obtain ⟨_, rfl⟩ := take_ok hl1
      split at h
      · cases h
      · rename_i s q hs
        obtain ⟨h1, rfl⟩ := name_ok hl.tail hs
        split at h
        · split at h
          · cases h
          · rename_i v q hv
            have hok : ToksOk (if isTok [45] l.tail.tail.tail = true then l.tail.tail.tail.tail else l.tail.tail.tail) := by
              split
              · exact hl.tail.tail.tail.tail
              · exact hl.tail.tail.tail
            obtain ⟨v1, v2, rfl⟩ := tnum_ok hok hv
            split at h
            · cases h
            · rename_i q2 hq
              obtain ⟨_, rfl⟩ := take_ok hq
              have h2 := Except.ok.inj h
              simp only [Prod.mk.injEq] at h2
              obtain ⟨rfl, rfl⟩ := h2
              exact ⟨Or.inl ⟨rfl, h1, by split <;> omega, rfl⟩, hok.tail.tail⟩
        · split at h
          · cases h
          · rename_i q2 hq
            obtain ⟨_, rfl⟩ := take_ok hq
            have h2 := Except.ok.inj h
            simp only [Prod.mk.injEq] at h2
            obtain ⟨rfl, rfl⟩ := h2
            exact ⟨Or.inl ⟨rfl, h1, by decide, rfl⟩, hl.tail.tail.tail⟩
end
end

section
open Go.RowKit

section
variable {E : Int} {l : List Tok}
/-- Every global: the document's parser reads it. -/
theorem rglobal_all (hok : ToksOk l) (h : isTok wInt l = true ∨ isTok wLock l = true) : Ctr 19 [] E 0 l (globalT E l) 4010 := by
  rcases h with h | h
  · cases hn : nameT E l.tail with
    | error f => exact rglobal_int h (by simp only [namE, hn, isE])
    | ok y =>
      obtain ⟨s, r⟩ := y
      by_cases heq : isTok [61] r = true
      · have hr : r = l.tail.tail := (name_ok hok.tail hn).2
        cases hm : isTok [45] r.tail with
        | true =>
          have ht : ToksOk r.tail.tail := by rw [hr]; exact hok.tail.tail.tail.tail
          by_cases hk : ∃ tk r3, r.tail.tail = tk :: r3 ∧ tk.kind = 3
          · obtain ⟨tk, r3, h2, hk⟩ := hk
            refine rglobal_neg_num h hn heq hm h2 hk ?_
            have h5 := (tnum_ok (e := E) ht (show tnumT E r.tail.tail = .ok (tk.num, r3) by rw [h2, tnumT, if_pos hk]))
            exact ⟨h5.1, h5.2.1⟩
          · exact rglobal_neg_bad h hn heq hm fun tk r3 h2 hk2 => hk ⟨tk, r3, h2, hk2⟩
        | false =>
          by_cases hk : ∃ tk r3, r.tail = tk :: r3 ∧ tk.kind = 3
          · obtain ⟨tk, r3, h2, hk⟩ := hk
            exact rglobal_pos_num h hn heq hm h2 hk
          · exact rglobal_pos_bad h hn heq hm fun tk r3 h2 hk2 => hk ⟨tk, r3, h2, hk2⟩
      · exact rglobal_int h (by simp only [namE, hn, isE]; simpa using heq)
  · exact rglobal_lock h
end
end

section
open Go.RowKit

/-- Nodes in memory, with their kids. -/
def NodesIn (w : World) (B : Nat) (v : Value) (rows : List Row) : Prop := ∃ ys : List (Row × Value), OwnN w B v ys ∧ ys.map Prod.fst = rows ∧ ∀ y, y ∈ ys → w.ownsRow 0 3 1 y.2 y.1.kids.length (y.1.kids.map fun k => .int .i64 k)
/-- What Parse tells. -/
def ParseQ (B : Nat) (r : List Row × (Int × Int)) (e : Ending) (w' : World) : Prop :=
  ∃ v, e = .returned (.tuple #[v, .agg #[.int .i64 r.2.1, .int .i64 0, .int .i64 r.2.2]]) ∧ NodesIn w' B v r.1
theorem nodes_nil (w : World) (B : Nat) : NodesIn w B nilV [] := ⟨[], World.ownsRow_nil _ _ _ _, rfl, fun y hy => by simp at hy⟩

section
variable {C : Cx9} {w w' : World} {d M : Nat} {bx : Option (Nat × Obj)} {ps : List (List Int × Value)} {s : Except (Int × Int) (List Tok)} {rows : List Row}
theorem GoS.pslt (h : GoS C w d M bx ps s rows) : ∀ p, p ∈ ps → ∀ g, p.2.ownBlock = some g → g < w.heap.size := by
  obtain ⟨lv, h⟩ := h
  exact fun p hp g hg => ((h.ps p hp).kd.own.lt g hg).2
/-- The parser at its beginning. -/
theorem go_start (W : World) (P : Nat) (T : List Tok) (E : Int) (tv : Value) (hP : W.heap[P]? = some (.cells #[tv, .int .i64 E, .int .i64 0, .int .i64 0, nilV, .int .i64 0, .int .i64 0, .int .i64 0] 48)) (ht : OwnT W 0 tv T) (hap : tv.ownBlock ≠ some P) (hT : T.length ≤ 4000) (N : Nat) :
    GoS ⟨W, nilV, P, P, T, E, tv, fun _ => False⟩ W 0 N none [] (.ok T) [] := by
  have hPl : P < W.heap.size := by
    rcases Nat.lt_or_ge P W.heap.size with h1 | h1
    · exact h1
    · rw [Array.getElem?_eq_none h1] at hP; cases hP
  refine ⟨nilV, FrN.of (Only.refl _ _), fun z hz => (by cases hz), fun p hp => (by simp at hp), [], ⟨⟨0, rfl, ⟨hP, ht, hap, Nat.zero_le _, hT⟩⟩, ⟨World.ownsRow_nil _ _ _ _, Nat.le_of_lt hPl, by simp [Value.ownBlock], fun g hg => by simp [Value.ownBlock] at hg⟩, fun x hx => by simp at hx, by simp⟩, rfl, fun y hy => by simp at hy⟩
theorem GoS.frame (h : GoS C w d M bx ps s rows) (hl : C.lv0 = nilV) {B : Nat} (hB : B ≤ C.P) (hBw : B ≤ C.w0.heap.size) : Below B C.w0 w := by
  obtain ⟨lv, h⟩ := h
  exact ⟨h.fr.os, h.fr.tape, h.fr.output, h.fr.size, fun k hk => h.fr.block k (by omega) (by omega) (by rw [hl]; simp [Value.ownBlock])⟩
theorem GoS.keeps (h : GoS C w d M bx ps s rows) (hl : C.lv0 = nilV) {k : Nat} (hk : k < C.w0.heap.size) (hne : k ≠ C.P) : w.heap[k]? = C.w0.heap[k]? := by
  obtain ⟨lv, h⟩ := h
  exact h.fr.block k hk hne (by rw [hl]; simp [Value.ownBlock])
end

theorem GoS.errp {C : Cx9} {w : World} {d M : Nat} {bx : Option (Nat × Obj)} {ps : List (List Int × Value)} {f : Int × Int} {rows : List Row} (h : GoS C w d M bx ps (.error f) rows) : f.1 ≠ 0 ∧ ∃ i d1 lv, Ps w C.P C.T C.E i d1 C.tv lv f.1 f.2 := by
  obtain ⟨lv, h⟩ := h
  obtain ⟨d1, ys, h1, _⟩ := h.st
  exact ⟨h1.1, _, d1, lv, h1.2⟩
/-- All nodes are there. -/
structure FinS (C : Cx9) (w : World) (rows : List Row) (lv : Value) : Prop where
  ps : ∃ i d1, Ps w C.P C.T C.E i d1 C.tv lv 0 0
  nds : NodesIn w C.B lv rows
  apart : lv.ownBlock ≠ some C.P
  kid : ∃ ys : List (Row × Value), OwnN w C.B lv ys ∧ ys.map Prod.fst = rows ∧ ∀ y, y ∈ ys → y.2.ownBlock ≠ some C.P ∧ w.ownsRow 0 3 1 y.2 y.1.kids.length (y.1.kids.map fun k => .int .i64 k)
  low : ∀ k, k < C.w0.heap.size → k ≠ C.P → some k ≠ C.lv0.ownBlock → w.heap[k]? = C.w0.heap[k]?
  os : w.os = C.w0.os
  tape : w.tape = C.w0.tape
  output : w.output = C.w0.output
  size : C.w0.heap.size ≤ w.heap.size
/-- The last node. -/
theorem glast {C : Cx9} {w : World} {M : Nat} {ka : Option Addr} {kn kc : Nat} {ks : List Int} {l : List Tok} {rows : List Row} (h : GoS C w 0 M none [(ks, .slice ka kn kc)] (.ok l) rows) :
    Calls Tryz.prog 23 #[.pointer (some ⟨C.P, 0, none⟩), .agg #[.int .i64 1, .int .i64 0, .int .i64 0, .string ⟨#[]⟩, .slice ka kn kc]] w fun e w' => ∃ v, e = .returned (.int .i64 v) ∧ ∃ lv, FinS C w' (rows ++ [⟨1, 0, 0, [], ks⟩]) lv := by
  have hfew := h.few
  have hfw := h.fewR
  obtain ⟨lv, h⟩ := h
  obtain ⟨ys, hok, hr, hkb⟩ := h.st
  have hl : ys.length = rows.length := by rw [← hr, List.length_map]
  have hkd := (h.ps _ (List.mem_cons_self ..)).kd
  refine (rnode_lst hok.aft hok.lst (by omega) 1 0 0 [] ks ka kn kc).mono ?_
  rintro e w' ⟨rfl, lv', ha, hl', hfr⟩
  refine ⟨_, rfl, lv', ?_⟩
  have hf2 := h.fr.trans hfr
  obtain ⟨i, _, hp⟩ := ha
  have hk : ∀ y, y ∈ ys ++ [((⟨1, 0, 0, [], ks⟩ : Row), Value.slice ka kn kc)] → y.2.ownBlock ≠ some C.P ∧ w'.ownsRow 0 3 1 y.2 y.1.kids.length (y.1.kids.map fun k => .int .i64 k) := fun y hy => by
    rcases List.mem_append.1 hy with hy | hy
    · have := (hok.kid y hy).fr hfr
      exact ⟨this.apart, this.own⟩
    · obtain rfl : y = (⟨1, 0, 0, [], ks⟩, .slice ka kn kc) := by simpa using hy
      have := hkd.fr hfr
      exact ⟨this.apart, this.own⟩
  have hm : (ys ++ [((⟨1, 0, 0, [], ks⟩ : Row), Value.slice ka kn kc)]).map Prod.fst = rows ++ [⟨1, 0, 0, [], ks⟩] := by rw [List.map_append, hr]; rfl
  exact ⟨⟨i, _, hp⟩, ⟨_, hl'.own, hm, fun y hy => (hk y hy).2⟩, hl'.apart, ⟨_, hl'.own, hm, hk⟩, hf2.block, hf2.os, hf2.tape, hf2.output, hf2.size⟩

/-- A round of globals. -/
inductive GlI (C : Cx9) (M : Nat) (G : TRes (List Nd)) (g : Nat) (kv : Value) (wr : World) : Prop where
  | ok (xs : List Nd) (q : List Tok) (n : Nat) (hg : GoS C wr 0 M none [(idxs 0 xs, kv)] (.ok q) (flats 0 xs)) (hG : globalsT C.E n xs q = G) (hn : q.length ≤ n) (hs : ndsSize xs + q.length ≤ C.T.length) (hm : q.length + 2 ≤ g) (hq : ToksOk q)
  | err (f : Int × Int) (ks : List Int) (hg : GoS C wr 0 M none [(ks, kv)] (.error f) []) (hG : G = .error f) (hm : 1 ≤ g)
/-- A round of threads. -/
inductive ThI (C : Cx9) (M : Nat) (Z : TRes (List Nd)) (g : Nat) (kv : Value) (wr : World) : Prop where
  | ok (xs : List Nd) (q : List Tok) (hg : GoS C wr 0 M none [(idxs 0 xs, kv)] (.ok q) (flats 0 xs)) (hZ : threadsT C.E xs q = Z) (hs : ndsSize xs + q.length ≤ C.T.length) (hm : q.length + 2 ≤ g)
  | err (f : Int × Int) (ks : List Int) (hg : GoS C wr 0 M none [(ks, kv)] (.error f) []) (hZ : Z = .error f) (hm : 1 ≤ g)
theorem global_size {e : Int} {l r : List Tok} {x : Nd} (hl : ToksOk l) (h : globalT e l = .ok (x, r)) : ndSize x = 1 ∧ r.length < l.length ∧ ToksOk r := by
  have hw := global_wf hl h
  have key : ndSize x = 1 ∧ r.length < l.length := by
    unfold globalT at h
    split at h
    · cases hn : nameT e l.tail with
      | error f => rw [hn] at h; cases h
      | ok y =>
        obtain ⟨s, q⟩ := y
        rw [hn] at h
        simp only at h
        cases ht : takeT e [59] q with
        | error f => rw [ht] at h; cases h
        | ok p =>
          rw [ht] at h
          have h1 := Except.ok.inj h
          simp only [Prod.mk.injEq] at h1
          have h2 := name_len hn
          have h3 := take_len ht
          have h4 := tail_le l
          rw [← h1.1, ← h1.2]
          exact ⟨rfl, by omega⟩
    · cases ht0 : takeT e wInt l with
      | error f => rw [ht0] at h; cases h
      | ok l1 =>
        rw [ht0] at h
        simp only at h
        have h0 := take_len ht0
        cases hn : nameT e l1 with
        | error f => rw [hn] at h; cases h
        | ok y =>
          obtain ⟨s, q⟩ := y
          rw [hn] at h
          simp only at h
          have h2 := name_len hn
          split at h
          · split at h
            · cases h
            · rename_i v p hv
              have h5 := tnum_len hv
              cases ht : takeT e [59] p with
              | error f => rw [ht] at h; cases h
              | ok z =>
                rw [ht] at h
                have h1 := Except.ok.inj h
                simp only [Prod.mk.injEq] at h1
                have h3 := take_len ht
                have h4 := tail_le q
                have h6 := tail_le q.tail
                rw [← h1.1, ← h1.2]
                refine ⟨rfl, ?_⟩
                split at h5 <;> omega
          · cases ht : takeT e [59] q with
            | error f => rw [ht] at h; cases h
            | ok z =>
              rw [ht] at h
              have h1 := Except.ok.inj h
              simp only [Prod.mk.injEq] at h1
              have h3 := take_len ht
              rw [← h1.1, ← h1.2]
              exact ⟨rfl, by omega⟩
  exact ⟨key.1, key.2, hw.2⟩
end

section
/-- What is a token, without its byte. -/
def TkOk (a : Tk) : Prop := (a.1 = 1 ∧ a.2.1 = 0 ∧ NameOk a.2.2) ∨ (a.1 = 2 ∧ a.2.1 = 0 ∧ isWord a.2.2 = true) ∨ (a.1 = 3 ∧ 0 ≤ a.2.1 ∧ a.2.1 ≤ 999999999 ∧ a.2.2 = Lib.decDigits a.2.1.toNat) ∨ (a.1 = 4 ∧ a.2.1 = 0 ∧ (a.2.2 ∈ twoL ∨ ∃ b, a.2.2 = [b] ∧ b ∈ oneS))
theorem word_letters {l : List UInt8} (h : isWord l = true) : ∃ b r, l = b :: r ∧ isLet b = true ∧ r.all isNam = true := by
  simp only [isWord, decide_eq_true_eq, wordsL, List.mem_cons, List.not_mem_nil, or_false] at h
  rcases h with rfl | rfl | rfl | rfl | rfl | rfl | rfl | rfl | rfl | rfl <;> exact ⟨_, _, rfl, by decide, by decide⟩
end

section
theorem sign_two {l : List UInt8} (h : l.take 2 ∈ twoL) : signN l = 2 := by unfold signN; rw [if_pos h]
theorem take_all2 (p : UInt8 → Bool) : ∀ l : List UInt8, (l.takeWhile p).all p = true
  | [] => rfl
  | b :: r => by
    by_cases h : p b = true
    · simp [List.takeWhile_cons_of_pos h, h, take_all2 p r]
    · simp [List.takeWhile_cons_of_neg h]
/-- What is found is a token. -/
theorem one_ok {l : List UInt8} {k v : Int} {m : Nat} (h : oneL l = some (k, v, m)) : TkOk (k, v, l.take m) := by
  match l, h with
  | b :: r, h =>
    rw [oneL] at h
    have tk : ∀ p : UInt8 → Bool, (b :: r).take (1 + (r.takeWhile p).length) = b :: r.takeWhile p := fun p => by
      rw [Nat.add_comm, List.take_succ_cons, takeWhile_take]
    split at h
    · rename_i hb
      split at h
      · cases h
      · rename_i h12
        simp only [Option.some.injEq, Prod.mk.injEq] at h
        obtain ⟨rfl, rfl, rfl⟩ := h
        rw [tk]
        by_cases hw : isWord (b :: r.takeWhile isNam) = true
        · exact Or.inr (Or.inl ⟨by unfold kindW; rw [if_pos hw], rfl, hw⟩)
        · exact Or.inl ⟨by unfold kindW; rw [if_neg hw], rfl, ⟨b, _, rfl, hb, take_all2 _ _⟩, by simp only [List.length_cons]; omega, by simpa using hw⟩
    · split at h
      · rename_i hl hd
        split at h
        · cases h
        · rename_i h9
          simp only [Option.some.injEq, Prod.mk.injEq] at h
          obtain ⟨rfl, rfl, rfl⟩ := h
          rw [tk]
          have hall : (b :: r.takeWhile isDig).all isDig = true := by simp only [List.all_cons, hd, Bool.true_and]; exact take_all2 _ _
          have hlen : (b :: r.takeWhile isDig).length ≤ 9 := by simp only [List.length_cons]; omega
          have hm := magFrom_lt (b :: r.takeWhile isDig) 0 hall
          have hp : 10 ^ (b :: r.takeWhile isDig).length ≤ 10 ^ 9 := Nat.pow_le_pow_right (by omega) hlen
          have hm2 : magFrom 0 (b :: r.takeWhile isDig) = mag (b :: r.takeWhile isDig) := rfl
          have v0 : (0 : Int) ≤ (mag (b :: r.takeWhile isDig) : Int) := by omega
          have v9 : (mag (b :: r.takeWhile isDig) : Int) ≤ 999999999 := by omega
          refine Or.inr (Or.inr (Or.inl ⟨rfl, v0, v9, ?_⟩))
          show b :: r.takeWhile isDig = Lib.decDigits ((mag (b :: r.takeWhile isDig) : Int)).toNat
          rw [Int.toNat_natCast, dec_mag _ _ rfl hall (by simp) (fun h48 => ?_)]
          have hb48 : b = 48 := by simpa using h48
          have : (r.takeWhile isDig).length = 0 := by
            rcases Nat.eq_zero_or_pos (r.takeWhile isDig).length with h0 | h0
            · exact h0
            · exact absurd (Or.inr ⟨by omega, by rw [hb48]; rfl⟩) h9
          rw [hb48, List.eq_nil_of_length_eq_zero this]
      · split at h
        · cases h
        · rename_i hs
          simp only [Option.some.injEq, Prod.mk.injEq] at h
          obtain ⟨rfl, rfl, rfl⟩ := h
          refine Or.inr (Or.inr (Or.inr ⟨rfl, rfl, ?_⟩))
          show (b :: r).take (signN (b :: r)) ∈ twoL ∨ ∃ c, (b :: r).take (signN (b :: r)) = [c] ∧ c ∈ oneS
          by_cases h2 : (b :: r).take 2 ∈ twoL
          · rw [sign_two h2]; exact Or.inl h2
          · have hn : signN (b :: r) = if b ∈ oneS then 1 else 0 := by unfold signN; rw [if_neg h2]
            by_cases hb1 : b ∈ oneS
            · rw [hn, if_pos hb1]
              exact Or.inr ⟨b, by simp, hb1⟩
            · rw [hn, if_neg hb1] at hs
              exact absurd rfl hs
theorem scan_ok : ∀ (f i : Nat) (l : List UInt8) (acc : List Tok), ToksOk acc → ToksOk (scanF f i l acc).1
  | 0, _, _, acc, h => by rw [scanF]; exact h
  | f + 1, i, l, acc, h => by
    rw [scanF]
    split
    · intro t ht; cases ht
    · split
      · exact h
      · split
        · intro t ht; cases ht
        · rename_i k v m ho
          refine scan_ok f _ _ _ fun t ht => ?_
          rcases List.mem_append.1 ht with ht | ht
          · exact h t ht
          · obtain rfl : t = _ := by simpa using ht
            exact one_ok ho
/-- WHAT IS FOUND IN A TEXT ARE TOKENS. -/
theorem scanL_ok (l : List UInt8) : ToksOk (scanL l).1 := by
  unfold scanL
  split
  · intro t ht; cases ht
  · exact scan_ok _ _ _ _ fun t ht => by cases ht
end

end Go.Proofs.YtclnjhffcfkihaeGreatDoor
