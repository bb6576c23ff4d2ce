/-
  What holds of a state in every run of a program that may be; what an order's numbers may be.
  What holds of a state holds behind every move that can be picked.
  A program that passed Check.
-/
import Derived.Test.YtgofbkgfonlceacDSt
namespace Go.Proofs.Ytgofbkgfonlceac
section
open Go.RowKit

/-- What holds of a state in every run: of n threads, m words, lk locks, rg registers a thread. -/
structure SOk (n : Nat) (L : Nat → Nat) (m lk rg : Nat) (mode : Int) (s : Sx) : Prop where
  ths : s.ths.length = n
  pc : ∀ t, t < n → (thOf s t).pc ≤ L t
  regs : ∀ t, t < n → (thOf s t).regs.length = rg
  words : s.words.length = m
  own : s.own.length = lk
  wlen : ∀ t, t < n → (thOf s t).wait.length ≤ 3
  wok : ∀ t, t < n → ∀ x, x ∈ (thOf s t).wait → (0 ≤ x.wh ∧ x.wh < (if x.lk then lk else m : Nat)) ∧ (x.lk = true → x.what = 0)
  bare : mode = 0 → ∀ t, t < n → (thOf s t).wait = []

/-- The orders may be. -/
structure COk (n : Nat) (L : Nat → Nat) (X : Nat → Nat → Nat → Int) (m lk rg : Nat) : Prop where
  n4 : n ≤ 4
  L4 : ∀ t, t < n → L t ≤ 400
  m64 : m ≤ 64
  lk4 : lk ≤ 4
  rg0 : 1 ≤ rg
  rg2 : rg ≤ 200
  ord : ∀ t i, t < n → i < L t → ordE rg m lk (L t) (X t i 0) (X t i 1) (X t i 2) (X t i 3) = 0

section
variable {rg m lk sz : Nat} {op a b c : Int}
theorem ok_op (h : ordE rg m lk sz op a b c = 0) : 1 ≤ op ∧ op ≤ 18 := by
  rcases op_cases op with h1 | h1
  · exfalso
    unfold ordE at h
    rw [kd_out h1] at h
    simp at h
  · omega
theorem ok_three {rg m lk sz : Int} {x y z : Int} (hk : kd op = some (x, y, z)) (h : ordE rg m lk sz op a b c = 0) : okN rg m lk sz x a = true ∧ okN rg m lk sz y b = true ∧ okN rg m lk sz z c = true := by
  unfold ordE at h
  rw [hk] at h
  simp only at h
  split at h
  · rename_i h1; simpa [and_assoc] using h1
  · omega
theorem okN_reg {rg m lk sz n : Int} (h : okN rg m lk sz 1 n = true) : 0 ≤ n ∧ n < rg := by simpa [okN, lim] using h
theorem okN_word {rg m lk sz n : Int} (h : okN rg m lk sz 2 n = true) : 0 ≤ n ∧ n < m := by simpa [okN, lim] using h
theorem okN_lock {rg m lk sz n : Int} (h : okN rg m lk sz 3 n = true) : 0 ≤ n ∧ n < lk := by simpa [okN, lim] using h
theorem okN_place {rg m lk sz n : Int} (h : okN rg m lk sz 4 n = true) : 0 ≤ n ∧ n ≤ sz := by
  have : 0 ≤ n ∧ n < sz + 1 := by simpa [okN, lim] using h
  omega
/-- An order of three registers. -/
theorem ok_rrr (ho : op = 3 ∨ op = 4 ∨ op = 5 ∨ op = 6 ∨ op = 7) (h : ordE rg m lk sz op a b c = 0) : (0 ≤ a ∧ a < rg) ∧ (0 ≤ b ∧ b < rg) ∧ (0 ≤ c ∧ c < rg) := by
  have hk : kd op = some (1, 1, 1) := by rcases ho with rfl | rfl | rfl | rfl | rfl <;> rfl
  have := ok_three hk h
  exact ⟨okN_reg this.1, okN_reg this.2.1, okN_reg this.2.2⟩
theorem ok_const (h : ordE rg m lk sz 1 a b c = 0) : 0 ≤ a ∧ a < rg := okN_reg (ok_three (op := 1) rfl h).1
theorem ok_rr (ho : op = 2 ∨ op = 10 ∨ op = 11) (h : ordE rg m lk sz op a b c = 0) : (0 ≤ a ∧ a < rg) ∧ (0 ≤ b ∧ b < rg) := by
  have hk : kd op = some (1, 1, 0) := by rcases ho with rfl | rfl | rfl <;> rfl
  have := ok_three hk h
  exact ⟨okN_reg this.1, okN_reg this.2.1⟩
theorem ok_load (h : ordE rg m lk sz 8 a b c = 0) : (0 ≤ a ∧ a < rg) ∧ (0 ≤ b ∧ b < m) := by
  have := ok_three (op := 8) rfl h
  exact ⟨okN_reg this.1, okN_word this.2.1⟩
theorem ok_store (h : ordE rg m lk sz 9 a b c = 0) : (0 ≤ a ∧ a < m) ∧ (0 ≤ b ∧ b < rg) := by
  have := ok_three (op := 9) rfl h
  exact ⟨okN_word this.1, okN_reg this.2.1⟩
theorem ok_cas (h : ordE rg m lk sz 13 a b c = 0) : (0 ≤ a ∧ a < m) ∧ (0 ≤ b ∧ b < rg) ∧ (0 ≤ c ∧ c < rg) := by
  have := ok_three (op := 13) rfl h
  exact ⟨okN_word this.1, okN_reg this.2.1, okN_reg this.2.2⟩
theorem ok_jump (h : ordE rg m lk sz 14 a b c = 0) : 0 ≤ a ∧ a ≤ sz := okN_place (ok_three (op := 14) rfl h).1
theorem ok_zero (h : ordE rg m lk sz 15 a b c = 0) : (0 ≤ a ∧ a < rg) ∧ (0 ≤ b ∧ b ≤ sz) := by
  have := ok_three (op := 15) rfl h
  exact ⟨okN_reg this.1, okN_place this.2.1⟩
theorem ok_print (h : ordE rg m lk sz 16 a b c = 0) : 0 ≤ a ∧ a < rg := okN_reg (ok_three (op := 16) rfl h).1
theorem ok_lock (ho : op = 17 ∨ op = 18) (h : ordE rg m lk sz op a b c = 0) : 0 ≤ a ∧ a < lk := by
  have hk : kd op = some (3, 0, 0) := by rcases ho with rfl | rfl <;> rfl
  exact okN_lock (ok_three hk h).1
end
theorem toN {a : Int} {n : Nat} (h : 0 ≤ a ∧ a < n) : ∃ k : Nat, a = k ∧ k < n := ⟨a.toNat, by omega, by omega⟩
theorem toN_le {a : Int} {n : Nat} (h : 0 ≤ a ∧ a ≤ n) : ∃ k : Nat, a = k ∧ k ≤ n := ⟨a.toNat, by omega, by omega⟩
end

section
open Go.RowKit

section
variable {n : Nat} {L : Nat → Nat} {m lk rg : Nat} {mode : Int} {s : Sx}
theorem SOk.th (h : SOk n L m lk rg mode s) {t : Nat} (ht : t < n) {x : Th} (hpc : x.pc ≤ L t) (hr : x.regs.length = rg) (hw : x.wait.length ≤ 3) (hok : ∀ y, y ∈ x.wait → (0 ≤ y.wh ∧ y.wh < (if y.lk then lk else m : Nat)) ∧ (y.lk = true → y.what = 0)) (hb : mode = 0 → x.wait = []) : SOk n L m lk rg mode (setTh s t x) := by
  have htl : t < s.ths.length := by rw [h.ths]; exact ht
  have e := thOf_set htl x
  refine ⟨by rw [ths_set]; exact h.ths, fun u hu => ?_, fun u hu => ?_, h.words, h.own, fun u hu => ?_, fun u hu => ?_, fun h0 u hu => ?_⟩
  all_goals rw [e u]
  all_goals split
  all_goals first | (rename_i hu'; subst hu'; assumption) | skip
  · exact h.pc u hu
  · exact h.regs u hu
  · exact h.wlen u hu
  · exact h.wok u hu
  · rename_i hu'; exact hb h0
  · exact h.bare h0 u hu
theorem SOk.setWord (h : SOk n L m lk rg mode s) (i : Nat) (x : Int) : SOk n L m lk rg mode { s with words := s.words.set i x } := ⟨h.ths, h.pc, h.regs, by simpa using h.words, h.own, h.wlen, h.wok, h.bare⟩
theorem SOk.setOwn (h : SOk n L m lk rg mode s) (i : Nat) (x : Int) : SOk n L m lk rg mode { s with own := s.own.set i x } := ⟨h.ths, h.pc, h.regs, h.words, by simpa using h.own, h.wlen, h.wok, h.bare⟩
theorem SOk.print (h : SOk n L m lk rg mode s) (l : List Int) : SOk n L m lk rg mode { s with prints := l } := ⟨h.ths, h.pc, h.regs, h.words, h.own, h.wlen, h.wok, h.bare⟩
theorem SOk.fall (h : SOk n L m lk rg mode s) : SOk n L m lk rg mode (fallX s) := ⟨h.ths, h.pc, h.regs, h.words, h.own, h.wlen, h.wok, h.bare⟩
theorem SOk.setR (h : SOk n L m lk rg mode s) {t : Nat} (ht : t < n) (r x : Int) : SOk n L m lk rg mode (setR s t r x) := h.th ht (h.pc t ht) (by simpa using h.regs t ht) (h.wlen t ht) (h.wok t ht) (fun h0 => h.bare h0 t ht)
theorem SOk.setPc (h : SOk n L m lk rg mode s) {t : Nat} (ht : t < n) {k : Nat} (hk : k ≤ L t) : SOk n L m lk rg mode (setTh s t { thOf s t with pc := k }) := h.th ht hk (h.regs t ht) (h.wlen t ht) (h.wok t ht) (fun h0 => h.bare h0 t ht)
theorem SOk.done (h : SOk n L m lk rg mode s) (x : Wt) : SOk n L m lk rg mode (doneW s x) := by
  unfold doneW
  split
  · exact h.setOwn _ _
  · exact h.setWord _ _
theorem SOk.store (h : SOk n L m lk rg mode s) {t : Nat} (ht : t < n) (_hm : 0 ≤ mode) (hw : (thOf s t).wait.length < 3) (x : Wt) (hx : (0 ≤ x.wh ∧ x.wh < (if x.lk then lk else m : Nat)) ∧ (x.lk = true → x.what = 0)) : SOk n L m lk rg mode (storeW mode s t x) := by
  unfold storeW
  split
  · refine h.th ht (h.pc t ht) (h.regs t ht) (by simp; omega) (fun y hy => ?_) (fun h0 => by omega)
    simp only [List.mem_append, List.mem_singleton] at hy
    rcases hy with hy | rfl
    · exact h.wok t ht y hy
    · exact hx
  · exact h.done x
/-- An order. -/
theorem SOk.order (h : SOk n L m lk rg mode s) {t : Nat} (ht : t < n) (hm : 0 ≤ mode) {op a b c : Int} (hw : op = 9 ∨ op = 11 ∨ op = 18 → (thOf s t).wait.length < 3) (hc : ordE rg m lk (L t) op a b c = 0) : SOk n L m lk rg mode (orderX mode s t op a b c) := by
  have hop := ok_op hc
  unfold orderX
  by_cases h1 : op = 1
  · rw [if_pos h1]; exact h.setR ht _ _
  rw [if_neg h1]
  by_cases h1 : op = 2
  · rw [if_pos h1]; exact h.setR ht _ _
  rw [if_neg h1]
  by_cases h1 : op = 3
  · rw [if_pos h1]; exact h.setR ht _ _
  rw [if_neg h1]
  by_cases h1 : op = 4
  · rw [if_pos h1]; exact h.setR ht _ _
  rw [if_neg h1]
  by_cases h1 : op = 5
  · rw [if_pos h1]; exact h.setR ht _ _
  rw [if_neg h1]
  by_cases h1 : op = 6
  · rw [if_pos h1]; exact h.setR ht _ _
  rw [if_neg h1]
  by_cases h1 : op = 7
  · rw [if_pos h1]; exact h.setR ht _ _
  rw [if_neg h1]
  by_cases h1 : op = 8
  · rw [if_pos h1]; exact h.setR ht _ _
  rw [if_neg h1]
  by_cases h1 : op = 9
  · rw [if_pos h1]
    subst h1
    have := (ok_store hc).1
    exact h.store ht hm (hw (Or.inl rfl)) _ ⟨by show 0 ≤ a ∧ a < ((m : Nat) : Int); omega, fun h => by cases h⟩
  rw [if_neg h1]
  by_cases h1 : op = 10
  · rw [if_pos h1]
    split
    · exact h.fall
    · exact h.setR ht _ _
  rw [if_neg h1]
  by_cases h1 : op = 11
  · rw [if_pos h1]
    split
    · exact h.fall
    · rename_i hn
      rw [h.words] at hn
      exact h.store ht hm (hw (Or.inr (Or.inl h1))) _ ⟨by show 0 ≤ getR s t a ∧ getR s t a < ((m : Nat) : Int); omega, fun h => by cases h⟩
  rw [if_neg h1]
  by_cases h1 : op = 13
  · rw [if_pos h1]
    split
    · exact (h.setWord _ _).setR ht _ _
    · exact h.setR ht _ _
  rw [if_neg h1]
  by_cases h1 : op = 14
  · rw [if_pos h1]
    subst h1
    have := ok_jump hc
    exact h.setPc ht (by omega)
  rw [if_neg h1]
  by_cases h1 : op = 15
  · rw [if_pos h1]
    subst h1
    have := (ok_zero hc).2
    split
    · exact h.setPc ht (by omega)
    · exact h
  rw [if_neg h1]
  by_cases h1 : op = 16
  · rw [if_pos h1]; exact h.print _
  rw [if_neg h1]
  by_cases h1 : op = 17
  · rw [if_pos h1]; exact h.setOwn _ _
  rw [if_neg h1]
  by_cases h1 : op = 18
  · rw [if_pos h1]
    split
    · exact h.fall
    · have := ok_lock (Or.inr h1) hc
      exact h.store ht hm (hw (Or.inr (Or.inr h1))) _ ⟨by show 0 ≤ a ∧ a < ((lk : Nat) : Int); omega, fun _ => rfl⟩
  rw [if_neg h1]
  exact h
theorem prints_store (s : Sx) (t : Nat) (x : Wt) : (storeW mode s t x).prints = s.prints := by
  unfold storeW doneW setTh
  split
  · rfl
  · split <;> rfl
theorem prints_order (s : Sx) (t : Nat) (op a b c : Int) : (orderX mode s t op a b c).prints.length ≤ s.prints.length + 2 := by
  have key : ∀ (p : Prop) [Decidable p] (x y : Sx), x.prints.length ≤ s.prints.length + 2 → y.prints.length ≤ s.prints.length + 2 → (if p then x else y).prints.length ≤ s.prints.length + 2 := fun p _ x y hx hy => by
    split
    · exact hx
    · exact hy
  unfold orderX
  repeat' (refine key _ _ _ ?_ ?_)
  all_goals first | (show s.prints.length ≤ _; omega) | (rw [prints_store]; omega) | simp
end
theorem able_lt {L : Nat → Nat} {X : Nat → Nat → Nat → Int} {s : Sx} {t : Nat} (h : ableT L X s t = true) : (thOf s t).pc < L t := by
  rcases Nat.lt_or_ge (thOf s t).pc (L t) with h1 | h1
  · exact h1
  · unfold ableT endedT at h
    rw [decide_eq_true h1] at h
    simp at h
theorem able_room {L : Nat → Nat} {X : Nat → Nat → Nat → Int} {s : Sx} {t : Nat} (h : ableT L X s t = true) (ho : opT X s t 0 = 9 ∨ opT X s t 0 = 11 ∨ opT X s t 0 = 18) : (thOf s t).wait.length < 3 := by
  have h1 := able_lt h
  unfold ableT endedT at h
  rw [decide_eq_false (by omega)] at h
  simp only [Bool.false_eq_true, if_false] at h
  rw [if_pos ho] at h
  simpa using h
end

section
open Go.RowKit

theorem bad_none {E : Nat → Int} : ∀ (f k : Nat), firstBad E f k = none → ∀ i, k ≤ i → i < k + f → E i = 0
  | 0, k, _, i, h1, h2 => by omega
  | f + 1, k, h, i, h1, h2 => by
    rw [firstBad] at h
    split at h
    · rename_i h0
      by_cases e : i = k
      · subst e; exact h0
      · exact bad_none f (k + 1) h i (by omega) (by omega)
    · cases h
theorem thread_ok {R : Nat → Option (Int × Int)} (hR : ∀ t c a, R t = some (c, a) → c ≠ 0) : ∀ (f k : Nat), (firstThread R f k).1 = 0 → ∀ i, k ≤ i → i < k + f → R i = none
  | 0, k, _, i, h1, h2 => by omega
  | f + 1, k, h, i, h1, h2 => by
    rw [firstThread] at h
    split at h
    · rename_i h0
      by_cases e : i = k
      · subst e; exact h0
      · exact thread_ok hR f (k + 1) h i (by omega) (by omega)
    · rename_i c a h0
      exact absurd h (hR k c a h0)
theorem thread_zero {R : Nat → Option (Int × Int)} (hR : ∀ t c a, R t = some (c, a) → c ≠ 0) : ∀ (f k : Nat), (firstThread R f k).1 = 0 → firstThread R f k = (0, 0, 0)
  | 0, _, _ => rfl
  | f + 1, k, h => by
    rw [firstThread] at h ⊢
    split at h
    · exact thread_zero hR f (k + 1) h
    · rename_i c a h0
      exact absurd h (hR k c a h0)
theorem bad_ne {E : Nat → Int} : ∀ (f k : Nat) (c a : Int), firstBad E f k = some (c, a) → c ≠ 0
  | 0, k, c, a, h => by simp [firstBad] at h
  | f + 1, k, c, a, h => by
    rw [firstBad] at h
    split at h
    · exact bad_ne f (k + 1) c a h
    · rename_i h0
      simp only [Option.some.injEq, Prod.mk.injEq] at h
      rw [← h.1]; exact h0
theorem thr_ne {rg wd lk : Int} {L : Nat → Nat} {X : Nat → Nat → Nat → Int} : ∀ t c a, thr rg wd lk L X t = some (c, a) → c ≠ 0 := fun t c a e => by
  unfold thr at e
  split at e
  · simp at e; omega
  · exact bad_ne _ _ _ _ e

/-- What Check lets pass: the sizes, every order. -/
theorem chk_cok {n m : Nat} {L : Nat → Nat} {X : Nat → Nat → Nat → Int} {lk rg x y z : Int} (h : chk n L X m lk rg = (x, y, z)) (hx : x = 0) : y = 0 ∧ z = 0 ∧ 0 < n ∧ ∃ lk' rg' : Nat, lk = lk' ∧ rg = rg' ∧ COk n L X m lk' rg' := by
  subst hx
  unfold chk at h
  split at h
  · rename_i h1
    simp only [Prod.mk.injEq] at h
    exact absurd h.1 h1
  · rename_i h1
    have h1 : sizesE n m lk rg = 0 := by simpa using h1
    unfold sizesE at h1
    split at h1
    · cases h1
    · split at h1
      · cases h1
      · rename_i h2 h3
        have hz := thread_zero thr_ne n 0 (by rw [h])
        rw [h] at hz
        simp only [Prod.mk.injEq] at hz
        have hR : ∀ t, t < n → thr rg m lk L X t = none := fun t ht => thread_ok thr_ne n 0 (by rw [h]) t (Nat.zero_le _) (by omega)
        have hL : ∀ t, t < n → L t ≤ 400 ∧ firstBad (fun i => ordE rg m lk (L t) (X t i 0) (X t i 1) (X t i 2) (X t i 3)) (L t) 0 = none := fun t ht => by
          have := hR t ht
          unfold thr at this
          split at this
          · cases this
          · exact ⟨by omega, this⟩
        obtain ⟨lk', rfl⟩ := Int.eq_ofNat_of_zero_le (by omega : 0 ≤ lk)
        obtain ⟨rg', rfl⟩ := Int.eq_ofNat_of_zero_le (by omega : 0 ≤ rg)
        exact ⟨hz.2.1, hz.2.2, by omega, lk', rg', rfl, rfl, by omega, fun t ht => (hL t ht).1, by omega, by omega, by omega, by omega, fun t i ht hi => bad_none (L t) 0 (hL t ht).2 i (Nat.zero_le _) (by omega)⟩
end

end Go.Proofs.Ytgofbkgfonlceac
