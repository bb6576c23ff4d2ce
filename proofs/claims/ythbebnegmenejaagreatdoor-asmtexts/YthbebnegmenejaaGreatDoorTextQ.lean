/-
  What a program that may be is written as is read as that program: as plain bytes.
-/
import Derived.Test.YthbebnegmenejaaGreatDoorFit
namespace Go.Proofs.YthbebnegmenejaaGreatDoor
open Go.RowKit

theorem dec_zero : Lib.decDigits 0 = [48] := by rw [Lib.decDigits, dif_pos (by omega)]; rfl
theorem dec_digs : ∀ (n u : Nat), u ≤ n → (Lib.decDigits u).all isDig = true ∧ Lib.decDigits u ≠ [] ∧ mag (Lib.decDigits u) = u ∧ ((Lib.decDigits u).head? = some 48 → u = 0) := by
  intro n
  induction n with
  | zero =>
    intro u h
    obtain rfl : u = 0 := by omega
    rw [dec_zero]
    decide
  | succ n ih =>
    intro u h
    have hd : ∀ d : Nat, d < 10 → isDig (UInt8.ofNat (48 + d)) = true ∧ (UInt8.ofNat (48 + d)).toNat = 48 + d := by decide
    rw [Lib.decDigits]
    split
    · rename_i h1
      have h2 := hd u h1
      refine ⟨by simp only [List.all_cons, List.all_nil, Bool.and_true]; exact h2.1, by simp, ?_, ?_⟩
      · show 0 * 10 + ((UInt8.ofNat (48 + u)).toNat - 48) = u
        omega
      · intro e
        simp only [List.head?_cons, Option.some.injEq] at e
        have : (UInt8.ofNat (48 + u)).toNat = 48 := by rw [e]; rfl
        omega
    · rename_i h1
      obtain ⟨a1, a2, a3, a4⟩ := ih (u / 10) (by omega)
      have h2 := hd (u % 10) (by omega)
      refine ⟨by simp only [List.all_append, List.all_cons, List.all_nil, Bool.and_true, a1, h2.1], by simp, ?_, ?_⟩
      · rw [mag_snoc, a3, h2.2]; omega
      · intro e
        cases hc : Lib.decDigits (u / 10) with
        | nil => exact absurd hc a2
        | cons x r =>
          rw [hc] at e a4
          have := a4 (by simpa using e)
          omega
theorem dec_len : ∀ (k u : Nat), u < 10 ^ (k + 1) → (Lib.decDigits u).length ≤ k + 1
  | 0, u, h => by
    rw [Lib.decDigits, dif_pos (by simpa using h)]
    simp
  | k + 1, u, h => by
    rw [Lib.decDigits]
    split
    · simp
    · have := dec_len k (u / 10) (by rw [Nat.pow_succ] at h; omega)
      simp only [List.length_append, List.length_cons, List.length_nil]
      omega
theorem num_there {v : Int} (h : I64 v) : numB (Lib.itoa v) = some v := by
  unfold Lib.itoa
  split
  · rename_i hn
    obtain ⟨a1, a2, a3, a4⟩ := dec_digs _ v.natAbs (Nat.le_refl _)
    have hl := dec_len 18 v.natAbs (by have := h.1; omega)
    have hp : 1 ≤ (Lib.decDigits v.natAbs).length := by
      cases hc : Lib.decDigits v.natAbs with
      | nil => exact absurd hc a2
      | cons x r => simp
    have e1 : isNeg (45 :: Lib.decDigits v.natAbs) = true := by simp [isNeg]
    have e2 : digs (45 :: Lib.decDigits v.natAbs) = Lib.decDigits v.natAbs := by simp [digs, isNeg]
    have e3 : ((Lib.decDigits v.natAbs).head? == some 48) = false := by
      rw [beq_eq_false_iff_ne]
      intro e
      have := a4 e
      omega
    unfold numB
    rw [e1, e2, e3, a3]
    have e4 : formed (Lib.decDigits v.natAbs) = true := by simp [formed, a1, hp, hl]
    have h1 := h.1
    simp only [e4, Bool.false_and, Bool.not_false, Bool.and_self, if_true, if_pos (show v.natAbs ≤ 9223372036854775808 by omega), Option.some.injEq]
    omega
  · rename_i hn
    obtain ⟨a1, a2, a3, a4⟩ := dec_digs _ v.toNat (Nat.le_refl _)
    have hl := dec_len 18 v.toNat (by have := h.2; omega)
    have hp : 1 ≤ (Lib.decDigits v.toNat).length := by
      cases hc : Lib.decDigits v.toNat with
      | nil => exact absurd hc a2
      | cons x r => simp
    have e1 : isNeg (Lib.decDigits v.toNat) = false := by
      unfold isNeg
      rw [beq_eq_false_iff_ne]
      intro e
      cases hc : Lib.decDigits v.toNat with
      | nil => exact absurd hc a2
      | cons x r =>
        rw [hc] at e a1
        simp only [List.head?_cons, Option.some.injEq] at e
        subst e
        simp [isDig] at a1
    have e2 : digs (Lib.decDigits v.toNat) = Lib.decDigits v.toNat := by simp [digs, e1]
    have e3 : ((Lib.decDigits v.toNat).head? == some 48 && !(Lib.decDigits v.toNat == [48])) = false := by
      cases hh : (Lib.decDigits v.toNat).head? == some 48 with
      | false => rfl
      | true =>
        have := a4 (by simpa using hh)
        rw [this, dec_zero]
        decide
    have e4 : formed (Lib.decDigits v.toNat) = true := by simp [formed, a1, hp, hl]
    have h2 := h.2
    unfold numB
    rw [e2, e3, e4, e1, a3]
    simp only [Bool.not_false, Bool.and_self, if_true, Bool.false_eq_true, if_false, if_pos (show v.toNat ≤ 9223372036854775807 by omega), Option.some.injEq]
    omega

theorem itoa_no {c : UInt8} (h1 : isDig c = false) (h2 : c ≠ 45) (v : Int) : c ∉ Lib.itoa v := by
  have key : ∀ u, c ∉ Lib.decDigits u := fun u hc => by
    have := List.all_eq_true.1 (dec_digs _ u (Nat.le_refl _)).1 c hc
    rw [h1] at this
    cases this
  unfold Lib.itoa
  split
  · intro hc
    rcases List.mem_cons.1 hc with e | e
    · exact h2 e
    · exact key _ e
  · exact key _
theorem cut_nums {N : List UInt8} (hN : (32 : UInt8) ∉ N) : ∀ vs : List Int, cutL 32 (N ++ numsT vs) = N :: vs.map Lib.itoa := by
  intro vs
  induction vs generalizing N with
  | nil => simp only [numsT, List.flatMap_nil, List.append_nil, List.map_nil]; exact cutL_none 32 N hN
  | cons v r ih =>
    have e : N ++ numsT (v :: r) = N ++ 32 :: (Lib.itoa v ++ numsT r) := by simp [numsT]
    rw [e, cutL_at 32 _ _ hN, ih (itoa_no (by decide) (by decide) v)]
    rfl
theorem nums_there : ∀ vs : List Int, (∀ v ∈ vs, I64 v) → numsL (vs.map Lib.itoa) = some vs
  | [], _ => rfl
  | v :: r, h => by
    rw [List.map_cons, numsL, num_there (h v (by simp)), nums_there r (fun x hx => h x (by simp [hx]))]
/-- A line, without its end. -/
def lineN (N : List UInt8) (vs : List Int) : List UInt8 := N ++ numsT vs
theorem line_there {N : List UInt8} {vs : List Int} (hN : (32 : UInt8) ∉ N) (h : ∀ v ∈ vs, I64 v) : numsOf (lineN N vs) = some vs ∧ nameL (lineN N vs) = N := by
  unfold numsOf nameL lineN
  rw [cut_nums hN]
  exact ⟨nums_there vs h, rfl⟩
theorem nums_no {c : UInt8} (h1 : isDig c = false) (h2 : c ≠ 45) (h3 : c ≠ 32) (vs : List Int) : c ∉ numsT vs := by
  unfold numsT
  intro hc
  obtain ⟨v, _, hv⟩ := List.mem_flatMap.1 hc
  rcases List.mem_cons.1 hv with e | e
  · exact h3 e
  · exact itoa_no h1 h2 v e
theorem line_no {N : List UInt8} (h : (10 : UInt8) ∉ N) (vs : List Int) : (10 : UInt8) ∉ lineN N vs := by
  unfold lineN
  intro hc
  rcases List.mem_append.1 hc with e | e
  · exact h e
  · exact nums_no (by decide) (by decide) (by decide) vs e
theorem cut_lines : ∀ ls : List (List UInt8), (∀ l ∈ ls, (10 : UInt8) ∉ l) → cutL 10 (ls.flatMap fun l => l ++ [10]) = ls ++ [[]]
  | [], _ => rfl
  | l :: r, h => by
    have e : (l :: r).flatMap (fun l => l ++ [10]) = l ++ 10 :: (r.flatMap fun l => l ++ [10]) := by simp
    rw [e, cutL_at 10 _ _ (h l (by simp)), cut_lines r (fun x hx => h x (by simp [hx]))]
    rfl

/-- An order that may be: what it does is one of eighteen, its numbers fit, those that it has not are 0. -/
structure OrdOk (x : I4) : Prop where
  op : 1 ≤ x.1 ∧ x.1 ≤ 18
  fit : I64 x.2.1 ∧ I64 x.2.2.1 ∧ I64 x.2.2.2
  z : ∀ q, (ks x.1).size ≤ q → q < 3 → ord4 x (q + 1) = 0
theorem nm_no {op : Int} : (32 : UInt8) ∉ (nm op).data.toList ∧ (10 : UInt8) ∉ (nm op).data.toList ∧ (nm op).data.toList ≠ [116, 104, 114, 101, 97, 100] := by
  rcases op_cases op with h1 | rfl | rfl | rfl | rfl | rfl | rfl | rfl | rfl | rfl | rfl | rfl | rfl | rfl | rfl | rfl | rfl | rfl | rfl
  · rw [nm_out h1]; decide
  all_goals decide
theorem op_there {q : Nat} (h : 1 ≤ q ∧ q ≤ 18) : opOf (nm (q : Int)).data.toList = some q := by
  have key : ∀ j : Nat, j < 18 → opOf (nm ((j : Int) + 1)).data.toList = some (j + 1) := by decide
  have := key (q - 1) (by omega)
  rw [show (((q - 1 : Nat) : Int) + 1) = (q : Int) by omega, show q - 1 + 1 = q by omega] at this
  exact this
def ordN (x : I4) : List UInt8 := lineN (nm x.1).data.toList ([x.2.1, x.2.2.1, x.2.2.2].take (ks x.1).size)
theorem OrdOk.step {x : I4} (h : OrdOk x) {k : Nat} (hk : 3 ≤ k) (w : List Int) (lk rg : Int) (a : List (List I4)) (th : List I4) : stepL k (ordN x) ⟨w, lk, rg, a ++ [th]⟩ = some ⟨w, lk, rg, a ++ [th ++ [x]]⟩ := by
  obtain ⟨op, v1, v2, v3⟩ := x
  obtain ⟨q, rfl⟩ : ∃ q : Nat, op = q := ⟨op.toNat, by have := h.op; simp at this; omega⟩
  have hq : 1 ≤ q ∧ q ≤ 18 := by have := h.op; simp at this; omega
  have hfit : ∀ v ∈ [v1, v2, v3].take (ks (q : Int)).size, I64 v := fun v hv => by
    have := List.mem_of_mem_take hv
    simp at this
    rcases this with rfl | rfl | rfl
    · exact h.fit.1
    · exact h.fit.2.1
    · exact h.fit.2.2
  obtain ⟨n1, n2⟩ := line_there (N := (nm (q : Int)).data.toList) nm_no.1 hfit
  have hl : ([v1, v2, v3].take (ks (q : Int)).size).length = cntOf q := by
    have := ks_nat3 (q : Int)
    rw [List.length_take]; simp [cntOf]; omega
  have e0 : ∀ j, j < 3 → ([v1, v2, v3].take (ks (q : Int)).size).getD j 0 = [v1, v2, v3].getD j 0 := fun j hj => by
    rcases Nat.lt_or_ge j (ks (q : Int)).size with h1 | h1
    · simp only [List.getD, List.getElem?_take, if_pos h1]
    · have := h.z j h1 hj
      simp only [List.getD, List.getElem?_take, if_neg (show ¬ j < (ks (q : Int)).size by omega), Option.getD_none]
      rcases (by omega : j = 0 ∨ j = 1 ∨ j = 2) with rfl | rfl | rfl <;> exact this.symm
  have k0 : ¬ k = 0 := by omega
  have k1 : ¬ k = 1 := by omega
  have k2 : ¬ k = 2 := by omega
  unfold stepL ordN
  rw [n1, n2]
  simp only [if_neg k0, if_neg k1, if_neg k2]
  rw [if_neg (fun e => nm_no.2.2 e.1), if_neg (by simp), op_there hq]
  simp only [if_pos hl, e0 0 (by omega), e0 1 (by omega), e0 2 (by omega)]
  simp [List.getD]
theorem thread_step {k : Nat} (hk : 3 ≤ k) (st : St) : stepL k [116, 104, 114, 101, 97, 100] st = some { st with ths := st.ths ++ [[]] } := by
  have k0 : ¬ k = 0 := by omega
  have k1 : ¬ k = 1 := by omega
  have k2 : ¬ k = 2 := by omega
  have n1 : numsOf [116, 104, 114, 101, 97, 100] = some [] := by decide
  have n2 : nameL [116, 104, 114, 101, 97, 100] = [116, 104, 114, 101, 97, 100] := by decide
  unfold stepL
  rw [n1, n2]
  simp only [if_neg k0, if_neg k1, if_neg k2, and_self, if_true]
theorem run_app : ∀ (a b : List (List UInt8)) (k : Nat) (st st' : St), runL k a st = .inr st' → runL k (a ++ b) st = runL (k + a.length) b st'
  | [], b, k, st, st', h => by
    simp only [runL, Sum.inr.injEq] at h
    subst h
    rfl
  | l :: r, b, k, st, st', h => by
    rw [List.cons_append, runL]
    rw [runL] at h
    cases hs : stepL k l st with
    | none => rw [hs] at h; cases h
    | some s1 =>
      rw [hs] at h
      have := run_app r b (k + 1) s1 st' h
      rw [List.length_cons, show k + (r.length + 1) = k + 1 + r.length by omega]
      exact this
theorem run_ords (w : List Int) (lk rg : Int) (a : List (List I4)) : ∀ (xs : List I4) (k : Nat) (th : List I4), 3 ≤ k → (∀ x ∈ xs, OrdOk x) → runL k (xs.map ordN) ⟨w, lk, rg, a ++ [th]⟩ = .inr ⟨w, lk, rg, a ++ [th ++ xs]⟩
  | [], k, th, _, _ => by simp [runL]
  | x :: r, k, th, hk, h => by
    rw [List.map_cons, runL, (h x (by simp)).step hk]
    show runL (k + 1) (r.map ordN) ⟨w, lk, rg, a ++ [th ++ [x]]⟩ = _
    rw [run_ords w lk rg a r (k + 1) (th ++ [x]) (by omega) (fun y hy => h y (by simp [hy]))]
    simp
def thsN (ths : List (List I4)) : List (List UInt8) := ths.flatMap fun th => [116, 104, 114, 101, 97, 100] :: th.map ordN
theorem run_ths (w : List Int) (lk rg : Int) : ∀ (ths a : List (List I4)) (k : Nat), 3 ≤ k → (∀ th ∈ ths, ∀ x ∈ th, OrdOk x) → runL k (thsN ths) ⟨w, lk, rg, a⟩ = .inr ⟨w, lk, rg, a ++ ths⟩
  | [], a, k, _, _ => by simp [thsN, runL]
  | th :: r, a, k, hk, h => by
    have e : thsN (th :: r) = ([116, 104, 114, 101, 97, 100] :: th.map ordN) ++ thsN r := by simp [thsN]
    have h1 : runL k ([116, 104, 114, 101, 97, 100] :: th.map ordN) ⟨w, lk, rg, a⟩ = .inr ⟨w, lk, rg, a ++ [th]⟩ := by
      rw [runL, thread_step hk]
      show runL (k + 1) (th.map ordN) ⟨w, lk, rg, a ++ [[]]⟩ = _
      rw [run_ords w lk rg a th (k + 1) [] (by omega) (h th (by simp))]
      simp
    rw [e, run_app _ _ _ _ _ h1, run_ths w lk rg r (a ++ [th]) _ (by omega) (fun t ht => h t (by simp [ht]))]
    simp
/-- A program that may be written. -/
structure StOk (st : St) : Prop where
  ne : st.ths ≠ []
  w : ∀ v ∈ st.words, I64 v
  lk : I64 st.lk
  rg : I64 st.rg
  x : ∀ th ∈ st.ths, ∀ x ∈ th, OrdOk x
def linesN (st : St) : List (List UInt8) := lineN [119, 111, 114, 100, 115] st.words :: lineN [108, 111, 99, 107, 115] [st.lk] :: lineN [114, 101, 103, 115] [st.rg] :: thsN st.ths
theorem text_lines (st : St) : textS st = (linesN st).flatMap fun l => l ++ [10] := by
  have e1 : ∀ xs : List I4, xs.flatMap ordT = (xs.map ordN).flatMap fun l => l ++ [10] := fun xs => by
    rw [List.flatMap_map]; rfl
  have e2 : thsT st.ths = (thsN st.ths).flatMap fun l => l ++ [10] := by
    unfold thsT thsN
    rw [List.flatMap_assoc]
    congr 1
    funext th
    rw [List.flatMap_cons, ← e1]
    rfl
  unfold textS headT linesN
  rw [e2]
  simp [lineT, lineN]
/-- What is written is read as it was. -/
theorem read_text {st : St} (h : StOk st) : readL (textS st) = .inr st := by
  have hno : ∀ l ∈ linesN st, (10 : UInt8) ∉ l := fun l hl => by
    unfold linesN at hl
    simp only [List.mem_cons] at hl
    rcases hl with rfl | rfl | rfl | hl
    · exact line_no (by decide) _
    · exact line_no (by decide) _
    · exact line_no (by decide) _
    · unfold thsN at hl
      obtain ⟨th, _, ht⟩ := List.mem_flatMap.1 hl
      rcases List.mem_cons.1 ht with rfl | ht
      · decide
      · obtain ⟨x, _, rfl⟩ := List.mem_map.1 ht
        exact line_no nm_no.2.1 _
  have hcut : cutL 10 (textS st) = linesN st ++ [[]] := by rw [text_lines, cut_lines _ hno]
  have hrun : runL 0 (linesN st) st0 = .inr st := by
    have a0 := line_there (N := [119, 111, 114, 100, 115]) (by decide) h.w
    have a1 := line_there (N := [108, 111, 99, 107, 115]) (vs := [st.lk]) (by decide) (fun v hv => by simp at hv; subst hv; exact h.lk)
    have a2 := line_there (N := [114, 101, 103, 115]) (vs := [st.rg]) (by decide) (fun v hv => by simp at hv; subst hv; exact h.rg)
    have s0 : stepL 0 (lineN [119, 111, 114, 100, 115] st.words) st0 = some ⟨st.words, 0, 0, []⟩ := by unfold stepL; rw [a0.1, a0.2]; rfl
    have s1 : stepL 1 (lineN [108, 111, 99, 107, 115] [st.lk]) ⟨st.words, 0, 0, []⟩ = some ⟨st.words, st.lk, 0, []⟩ := by unfold stepL; rw [a1.1, a1.2]; rfl
    have s2 : stepL 2 (lineN [114, 101, 103, 115] [st.rg]) ⟨st.words, st.lk, 0, []⟩ = some ⟨st.words, st.lk, st.rg, []⟩ := by unfold stepL; rw [a2.1, a2.2]; rfl
    unfold linesN
    rw [runL, s0]
    show runL 1 _ _ = _
    rw [runL, s1]
    show runL 2 _ _ = _
    rw [runL, s2]
    show runL 3 _ _ = _
    rw [run_ths st.words st.lk st.rg st.ths [] 3 (by omega) h.x]
    rfl
  have hlen : ¬ ((linesN st ++ [[]]).length - 1 < 4 ∨ (linesN st ++ [[]]).getLast? ≠ some []) := by
    obtain ⟨th, r, e⟩ : ∃ th r, st.ths = th :: r := by
      cases hc : st.ths with
      | nil => exact absurd hc h.ne
      | cons a b => exact ⟨a, b, rfl⟩
    intro hc
    rcases hc with hc | hc
    · unfold linesN thsN at hc
      rw [e] at hc
      simp at hc
      omega
    · simp at hc
  unfold readL
  rw [hcut, List.dropLast_concat, hrun]
  simp only [if_neg hlen]

end Go.Proofs.YthbebnegmenejaaGreatDoor
