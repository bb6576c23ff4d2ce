/-
  What is read from a text is written as that text: as plain bytes.
-/
import Derived.Test.YthbebnegmenejaaGreatDoorTextL
import Derived.Test.YthbebnegmenejaaGreatDoorParseA
namespace Go.Proofs.YthbebnegmenejaaGreatDoor
open Go.RowKit

/-- Digits that tell a number are that number's digits. -/
theorem mag_pos : ∀ (l : List UInt8) (a : Nat), 1 ≤ a → 1 ≤ magFrom a l
  | [], a, h => h
  | c :: r, a, h => mag_pos r (a * 10 + (c.toNat - 48)) (by omega)
theorem mag_head {c : UInt8} {r : List UInt8} (hc : isDig c = true) (h : c ≠ 48) : 1 ≤ mag (c :: r) := by
  have h1 : 48 ≤ c.toNat ∧ c.toNat ≤ 57 := by simp [isDig] at hc; exact hc
  have h2 : c.toNat ≠ 48 := fun e => h (UInt8.toNat_inj.1 (by simpa using e))
  exact mag_pos r (0 * 10 + (c.toNat - 48)) (by omega)
theorem dec_mag (n : Nat) : ∀ l : List UInt8, l.length = n → l.all isDig = true → l ≠ [] → (l.head? = some 48 → l = [48]) → Lib.decDigits (mag l) = l := by
  induction n with
  | zero => intro l hl _ hne _; exact absurd (List.eq_nil_of_length_eq_zero hl) hne
  | succ n ih =>
    intro l hl hd hne h0
    obtain ⟨t, c, rfl⟩ : ∃ t c, l = t ++ [c] := ⟨l.dropLast, l.getLast hne, (List.dropLast_concat_getLast hne).symm⟩
    simp only [List.all_append, List.all_cons, List.all_nil, Bool.and_true, Bool.and_eq_true] at hd
    have hc : 48 ≤ c.toNat ∧ c.toNat ≤ 57 := by have := hd.2; simp [isDig] at this; exact this
    have ec : UInt8.ofNat (48 + (c.toNat - 48)) = c := by rw [show 48 + (c.toNat - 48) = c.toNat by omega]; exact UInt8.ofNat_toNat
    rw [mag_snoc, Lib.decDigits]
    cases t with
    | nil =>
      have e : mag [] = 0 := rfl
      rw [e, dif_pos (by omega)]
      simp [ec]
    | cons a r =>
      have ha : a ≠ 48 := fun e => by
        have := h0 (by simp [e])
        simp at this
      have hp := mag_head (r := r) (by have := hd.1; simp at this; exact this.1) ha
      rw [dif_neg (by omega), show (mag (a :: r) * 10 + (c.toNat - 48)) / 10 = mag (a :: r) by omega, show (mag (a :: r) * 10 + (c.toNat - 48)) % 10 = c.toNat - 48 by omega, ec]
      rw [ih (a :: r) (by simpa using hl) hd.1 (by simp) (fun e => absurd (by simpa using e) ha)]
theorem num_back {l : List UInt8} {v : Int} (h : numB l = some v) : Lib.itoa v = l := by
  unfold numB at h
  split at h
  · rename_i hc
    simp only [Bool.and_eq_true, formed, decide_eq_true_eq, Bool.not_eq_true', Bool.and_eq_false_imp] at hc
    obtain ⟨⟨⟨hd, hl1⟩, hl2⟩, hz⟩ := hc
    split at h
    · rename_i hn
      split at h
      · simp only [Option.some.injEq] at h
        obtain ⟨t, rfl⟩ : ∃ t, l = 45 :: t := by
          cases l with
          | nil => simp [isNeg] at hn
          | cons a t => exact ⟨t, by simp [isNeg] at hn; rw [hn]⟩
        have e : digs (45 :: t) = t := by simp [digs, isNeg]
        rw [e] at hd hl1 hl2 hz h
        cases t with
        | nil => simp at hl1
        | cons a r =>
          have ha : a ≠ 48 := fun e => by
            have := hz (by simp [e])
            simp at this
          have hp := mag_head (r := r) (by simp at hd; exact hd.1) ha
          unfold Lib.itoa
          rw [if_pos (by omega), ← h]
          congr 1
          rw [show (-(mag (a :: r) : Int)).natAbs = mag (a :: r) by omega]
          exact dec_mag _ _ rfl hd (by simp) (fun e => absurd (by simpa using e) ha)
      · cases h
    · rename_i hn
      split at h
      · simp only [Option.some.injEq] at h
        have e : digs l = l := by simp [digs, hn]
        rw [e] at hd hl1 hl2 hz h
        unfold Lib.itoa
        rw [if_neg (by omega), ← h, Int.toNat_natCast]
        refine dec_mag _ _ rfl hd (fun e => by rw [e] at hl1; simp at hl1) (fun e => ?_)
        have := hz (by simpa using e)
        simpa using this
      · cases h
  · cases h

/-- What was cut, joined again. -/
def joinL (c : UInt8) : List (List UInt8) → List UInt8
  | [] => []
  | [a] => a
  | a :: b :: r => a ++ c :: joinL c (b :: r)
theorem join_cut (c : UInt8) : ∀ l : List UInt8, joinL c (cutL c l) = l
  | [] => rfl
  | x :: r => by
    have ih := join_cut c r
    unfold cutL
    split
    · rename_i e
      subst e
      cases hc : cutL x r with
      | nil => exact absurd hc (cutL_ne x r)
      | cons h t => rw [hc] at ih; simp [joinL, ih]
    · split
      · rename_i h t hc
        rw [hc] at ih
        cases t with
        | nil => simp only [joinL] at ih ⊢; rw [ih]
        | cons b q => simp only [joinL, List.cons_append] at ih ⊢; rw [ih]
      · rename_i hc
        exact absurd hc (cutL_ne c r)
theorem join_nums (N : List UInt8) : ∀ vs : List Int, joinL 32 (N :: vs.map Lib.itoa) = N ++ numsT vs
  | [] => by simp [joinL, numsT]
  | v :: r => by
    have ih := join_nums (Lib.itoa v) r
    simp only [List.map_cons, joinL] at ih ⊢
    rw [ih]
    simp [numsT]
theorem nums_back : ∀ (a : List (List UInt8)) (vs : List Int), numsL a = some vs → vs.map Lib.itoa = a
  | [], vs, h => by simp [numsL] at h; subst h; rfl
  | x :: r, vs, h => by
    rw [numsL] at h
    split at h
    · rename_i v us h1 h2
      simp only [Option.some.injEq] at h
      subst h
      rw [List.map_cons, num_back h1, nums_back r us h2]
    · cases h
theorem line_back {l : List UInt8} {vs : List Int} (h : numsOf l = some vs) : l ++ [10] = lineT (nameL l) vs := by
  have h1 := nums_back _ _ h
  have h2 := join_cut 32 l
  unfold nameL lineT
  cases hc : cutL 32 l with
  | nil => exact absurd hc (cutL_ne 32 l)
  | cons a t =>
    rw [hc] at h1 h2
    simp only [List.tail_cons] at h1
    simp only [List.headD_cons]
    rw [← join_nums, h1, h2]
theorem join_lines : ∀ a : List (List UInt8), a ≠ [] → joinL 10 a = a.dropLast.flatMap (fun l => l ++ [10]) ++ a.getLast?.getD []
  | [], h => absurd rfl h
  | [a], _ => by simp [joinL]
  | a :: b :: r, _ => by
    rw [joinL, join_lines (b :: r) (by simp)]
    simp

/-- A program's text. -/
def thsT (ths : List (List I4)) : List UInt8 := ths.flatMap fun th => lineT [116, 104, 114, 101, 97, 100] [] ++ th.flatMap ordT
def textS (st : St) : List UInt8 := headT st.words st.lk st.rg ++ thsT st.ths
/-- .. behind its first k lines. -/
def textP (k : Nat) (st : St) : List UInt8 :=
  (if 1 ≤ k then lineT [119, 111, 114, 100, 115] st.words else []) ++ (if 2 ≤ k then lineT [108, 111, 99, 107, 115] [st.lk] else []) ++ (if 3 ≤ k then lineT [114, 101, 103, 115] [st.rg] else []) ++ thsT st.ths

theorem take_getD (vs : List Int) (h : vs.length ≤ 3) : [vs.getD 0 0, vs.getD 1 0, vs.getD 2 0].take vs.length = vs := by
  match vs, h with
  | [], _ => rfl
  | [a], _ => rfl
  | [a, b], _ => rfl
  | [a, b, c], _ => rfl
  | _ :: _ :: _ :: _ :: _, h => simp at h
theorem thsT_last (ths : List (List I4)) (h : ths ≠ []) (x : I4) : thsT (ths.set (ths.length - 1) (ths.getD (ths.length - 1) [] ++ [x])) = thsT ths ++ ordT x := by
  obtain ⟨a, b, rfl⟩ : ∃ a b, ths = a ++ [b] := ⟨ths.dropLast, ths.getLast h, (List.dropLast_concat_getLast h).symm⟩
  simp [thsT, List.getD]
theorem one_of {vs : List Int} (h : vs.length = 1) : vs = [vs.getD 0 0] := by
  match vs, h with
  | [a], _ => rfl
theorem ks_nat3 (op : Int) : (ks op).size ≤ 3 := by
  rcases op_cases op with h1 | rfl | rfl | rfl | rfl | rfl | rfl | rfl | rfl | rfl | rfl | rfl | rfl | rfl | rfl | rfl | rfl | rfl | rfl
  · rw [ks_out h1]; decide
  all_goals decide
theorem step_back {k : Nat} {l : List UInt8} {st st' : St} (h0 : k < 3 → st.ths = []) (hs : stepL k l st = some st') : textP (k + 1) st' = textP k st ++ (l ++ [10]) ∧ (k + 1 < 3 → st'.ths = []) := by
  unfold stepL at hs
  split at hs
  · cases hs
  · rename_i vs hn
    rw [line_back hn]
    split at hs
    · rename_i hk
      subst hk
      split at hs
      · rename_i hm
        simp only [Option.some.injEq] at hs
        subst hs
        have e := h0 (by omega)
        exact ⟨by simp [textP, thsT, e, hm], fun _ => e⟩
      · cases hs
    · split at hs
      · rename_i hk
        subst hk
        split at hs
        · rename_i hm
          simp only [Option.some.injEq] at hs
          subst hs
          have e := h0 (by omega)
          refine ⟨?_, fun _ => e⟩
          simp [textP, thsT, e]
          rw [hm.1, ← List.getD, ← one_of hm.2]
        · cases hs
      · split at hs
        · rename_i hk
          subst hk
          split at hs
          · rename_i hm
            simp only [Option.some.injEq] at hs
            subst hs
            have e := h0 (by omega)
            refine ⟨?_, fun _ => e⟩
            simp [textP, thsT, e]
            rw [hm.1, ← List.getD, ← one_of hm.2]
          · cases hs
        · rename_i k0 k1 k2
          have g1 : 1 ≤ k := by omega
          have g2 : 2 ≤ k := by omega
          have g3 : 3 ≤ k := by omega
          have f1 : 1 ≤ k + 1 := by omega
          have f2 : 2 ≤ k + 1 := by omega
          have f3 : 3 ≤ k + 1 := by omega
          split at hs
          · rename_i hm
            simp only [Option.some.injEq] at hs
            subst hs
            refine ⟨?_, fun h => by omega⟩
            simp only [textP, if_pos g1, if_pos g2, if_pos g3, if_pos f1, if_pos f2, if_pos f3, List.append_assoc]
            rw [hm.1, hm.2]
            simp [thsT]
          · split at hs
            · cases hs
            · rename_i hne
              split at hs
              · cases hs
              · rename_i op ho
                split at hs
                · rename_i hl
                  simp only [Option.some.injEq] at hs
                  subst hs
                  refine ⟨?_, fun h => by omega⟩
                  simp only [textP, if_pos g1, if_pos g2, if_pos g3, if_pos f1, if_pos f2, if_pos f3, List.append_assoc]
                  rw [thsT_last _ hne]
                  have e : ordT ((op : Int), vs.getD 0 0, vs.getD 1 0, vs.getD 2 0) = lineT (nameL l) vs := by
                    unfold ordT
                    show lineT (nm (op : Int)).data.toList ([vs.getD 0 0, vs.getD 1 0, vs.getD 2 0].take (ks (op : Int)).size) = _
                    have hk3 : vs.length ≤ 3 := by rw [hl]; exact ks_nat3 _
                    rw [(opOf_some ho).2.2, show (ks (op : Int)).size = vs.length from hl.symm, take_getD vs hk3]
                  rw [e]
                · cases hs
theorem run_back : ∀ (ls : List (List UInt8)) (k : Nat) (st st' : St), (k < 3 → st.ths = []) → runL k ls st = .inr st' → textP (k + ls.length) st' = textP k st ++ ls.flatMap (fun l => l ++ [10])
  | [], k, st, st', _, h => by
    simp only [runL, Sum.inr.injEq] at h
    subst h
    simp
  | l :: r, k, st, st', h0, h => by
    rw [runL] at h
    split at h
    · cases h
    · rename_i s1 h1
      have h2 := step_back h0 h1
      have h3 := run_back r (k + 1) s1 st' h2.2 h
      rw [List.length_cons, show k + (r.length + 1) = k + 1 + r.length by omega, h3, h2.1]
      simp
/-- What is read is written as it stood. -/
theorem text_back {l : List UInt8} {st : St} (h : readL l = .inr st) : textS st = l := by
  unfold readL at h
  split at h
  · cases h
  · rename_i s1 h1
    split at h
    · cases h
    · rename_i h2
      simp only [Sum.inr.injEq] at h
      subst h
      have h3 := run_back _ 0 st0 s1 (fun _ => rfl) h1
      have hne := cutL_ne 10 l
      have h4 := join_lines _ hne
      rw [join_cut] at h4
      have h5 : (cutL 10 l).getLast? = some [] := by
        rcases Classical.em ((cutL 10 l).getLast? = some []) with e | e
        · exact e
        · exact absurd (Or.inr e) h2
      have h6 : 4 ≤ (cutL 10 l).length - 1 := by
        rcases Nat.lt_or_ge ((cutL 10 l).length - 1) 4 with e | e
        · exact absurd (Or.inl e) h2
        · exact e
      rw [h5] at h4
      simp only [Option.getD_some, List.append_nil] at h4
      have h7 : textP (0 + (cutL 10 l).dropLast.length) s1 = textS s1 := by
        have e1 : 1 ≤ 0 + (cutL 10 l).dropLast.length := by simp; omega
        have e2 : 2 ≤ 0 + (cutL 10 l).dropLast.length := by simp; omega
        have e3 : 3 ≤ 0 + (cutL 10 l).dropLast.length := by simp; omega
        simp only [textP, if_pos e1, if_pos e2, if_pos e3, textS, headT]
      rw [← h7, h3, ← h4]
      simp [textP, thsT, st0]

theorem flat_getD {α : Type} (f : α → List UInt8) (d : α) : ∀ l : List α, (List.range l.length).flatMap (fun i => f (l.getD i d)) = l.flatMap f := by
  intro l
  have e : (List.range l.length).map (fun i => l.getD i d) = l := by
    apply List.ext_getElem
    · simp
    · intro i h1 h2
      simp [List.getD, List.getElem?_eq_getElem h2]
  rw [← List.flatMap_map (f := fun i => l.getD i d) (g := f), e]
/-- The text of a program that was read. -/
theorem textF_of (st : St) : textF st.ths.length (lOf st.ths) (xOf st.ths) st.words st.lk st.rg = textS st := by
  unfold textF textS codeT thsT
  congr 1
  have e : ∀ t, thrT (lOf st.ths t) (xOf st.ths t) = (fun th : List I4 => lineT [116, 104, 114, 101, 97, 100] [] ++ th.flatMap ordT) (st.ths.getD t []) := fun t => by
    unfold thrT bodyT lOf
    show _ = lineT [116, 104, 114, 101, 97, 100] [] ++ (st.ths.getD t []).flatMap ordT
    congr 1
    rw [← flat_getD ordT (0, 0, 0, 0)]
    rfl
  simp only [e]
  exact flat_getD (fun th : List I4 => lineT [116, 104, 114, 101, 97, 100] [] ++ th.flatMap ordT) [] st.ths

end Go.Proofs.YthbebnegmenejaaGreatDoor
