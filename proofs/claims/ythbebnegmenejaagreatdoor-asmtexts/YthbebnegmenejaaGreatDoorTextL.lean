/-
  A program's text, as plain bytes; how long it is; what a program that may be is.
-/
import Derived.Test.YthbebnegmenejaaGreatDoorWLine
import Derived.Lib.ItoaLen
namespace Go.Proofs.YthbebnegmenejaaGreatDoor
open Go.RowKit

/-- A number that fits. -/
abbrev I64 (v : Int) : Prop := -9223372036854775808 ≤ v ∧ v ≤ 9223372036854775807

def ordT (x : Int × Int × Int × Int) : List UInt8 := lineT (nm x.1).data.toList ([x.2.1, x.2.2.1, x.2.2.2].take (ks x.1).size)
def bodyT (X : Nat → Nat → Int) (i : Nat) : List UInt8 := (List.range i).flatMap fun k => ordT (X k 0, X k 1, X k 2, X k 3)
def thrT (L : Nat) (X : Nat → Nat → Int) : List UInt8 := lineT [116, 104, 114, 101, 97, 100] [] ++ bodyT X L
def headT (words : List Int) (lk rg : Int) : List UInt8 := lineT [119, 111, 114, 100, 115] words ++ lineT [108, 111, 99, 107, 115] [lk] ++ lineT [114, 101, 103, 115] [rg]
def codeT (L : Nat → Nat) (X : Nat → Nat → Nat → Int) (n : Nat) : List UInt8 := (List.range n).flatMap fun t => thrT (L t) (X t)
/-- A3. -/
def textF (n : Nat) (L : Nat → Nat) (X : Nat → Nat → Nat → Int) (words : List Int) (lk rg : Int) : List UInt8 := headT words lk rg ++ codeT L X n

theorem range_flat {f : Nat → List UInt8} (n : Nat) : (List.range (n + 1)).flatMap f = (List.range n).flatMap f ++ f n := by
  rw [List.range_succ, List.flatMap_append]; simp
theorem flat_le {f : Nat → List UInt8} {M : Nat} : ∀ n, (∀ i, i < n → (f i).length ≤ M) → ((List.range n).flatMap f).length ≤ n * M
  | 0, _ => by simp
  | n + 1, h => by
    have h1 := flat_le n (fun i hi => h i (by omega))
    have h2 := h n (by omega)
    rw [range_flat, List.length_append, Nat.succ_mul]
    omega
theorem numsT_len : ∀ vs : List Int, (∀ v ∈ vs, I64 v) → (numsT vs).length ≤ vs.length * 22
  | [], _ => by simp [numsT]
  | v :: r, h => by
    have h1 := numsT_len r (fun x hx => h x (by simp [hx]))
    have h2 := h v (by simp)
    have h3 := Lib.itoa_length_le v h2.1 h2.2
    have e : numsT (v :: r) = 32 :: (Lib.itoa v ++ numsT r) := by simp [numsT]
    rw [e]
    simp only [List.length_cons, List.length_append]
    omega
theorem lineT_len (N : List UInt8) (vs : List Int) (h : ∀ v ∈ vs, I64 v) : (lineT N vs).length ≤ N.length + vs.length * 22 + 1 := by
  have := numsT_len vs h
  simp only [lineT, List.length_append, List.length_cons, List.length_nil]
  omega
theorem nm_len {op : Int} : (nm op).data.toList.length ≤ 7 := by
  rcases op_cases op with h1 | rfl | rfl | rfl | rfl | rfl | rfl | rfl | rfl | rfl | rfl | rfl | rfl | rfl | rfl | rfl | rfl | rfl | rfl
  · rw [nm_out h1]; decide
  all_goals decide
theorem ordT_len (x : Int × Int × Int × Int) (h : I64 x.2.1 ∧ I64 x.2.2.1 ∧ I64 x.2.2.2) : (ordT x).length ≤ 74 := by
  have h1 := lineT_len (nm x.1).data.toList ([x.2.1, x.2.2.1, x.2.2.2].take (ks x.1).size) (fun v hv => by
    have := List.mem_of_mem_take hv
    simp at this
    rcases this with rfl | rfl | rfl
    · exact h.1
    · exact h.2.1
    · exact h.2.2)
  have h2 := nm_len (op := x.1)
  have h3 : ([x.2.1, x.2.2.1, x.2.2.2].take (ks x.1).size).length ≤ 3 := by rw [List.length_take]; simp; omega
  unfold ordT
  omega

theorem take3_len (v1 v2 v3 : Int) {cn : Nat} (h : cn ≤ 3) : ([v1, v2, v3].take cn).length = cn := by
  rw [List.length_take]; simp; omega
theorem ks_le3 (op : Int) : (ks op).size ≤ 3 := by
  rcases op_cases op with h1 | rfl | rfl | rfl | rfl | rfl | rfl | rfl | rfl | rfl | rfl | rfl | rfl | rfl | rfl | rfl | rfl | rfl | rfl
  · rw [ks_out h1]; decide
  all_goals decide
theorem bodyT_len {X : Nat → Nat → Int} {L : Nat} (hX : ∀ i q, i < L → I64 (X i q)) (i : Nat) (hi : i ≤ L) : (bodyT X i).length ≤ i * 74 :=
  flat_le i (fun k hk => ordT_len _ ⟨hX k 1 (by omega), hX k 2 (by omega), hX k 3 (by omega)⟩)
theorem codeT_len {n : Nat} {L : Nat → Nat} {X : Nat → Nat → Nat → Int} (hL : ∀ t, t < n → L t ≤ 400) (hX : ∀ t i q, t < n → i < L t → I64 (X t i q)) (k : Nat) (hk : k ≤ n) : (codeT L X k).length ≤ k * 29607 :=
  flat_le k (fun t ht => by
    have h1 := bodyT_len (X := X t) (L := L t) (fun i q hi => hX t i q (by omega) hi) (L t) (Nat.le_refl _)
    have h2 := hL t (by omega)
    have h3 : (lineT [116, 104, 114, 101, 97, 100] []).length = 7 := by decide
    unfold thrT
    rw [List.length_append, h3]
    omega)

/-- What a program that may be is. -/
structure May (n : Nat) (L : Nat → Nat) (X : Nat → Nat → Nat → Int) (m : Nat) (lk rg : Int) : Prop where
  hn : n ≤ 4
  hm : m ≤ 64
  hlk : I64 lk
  hrg : I64 rg
  len : ∀ t, t < n → L t ≤ 400
  op : ∀ t i, t < n → i < L t → 1 ≤ X t i 0 ∧ X t i 0 ≤ 18

theorem firstBad_none {E : Nat → Int} : ∀ (f k : Nat), firstBad E f k = none → ∀ i, k ≤ i → i < k + f → E i = 0
  | 0, k, _, i, h1, h2 => by omega
  | f + 1, k, h, i, h1, h2 => by
    rw [firstBad] at h
    split at h
    · rename_i h0
      by_cases e : i = k
      · subst e; exact h0
      · exact firstBad_none f (k + 1) h i (by omega) (by omega)
    · cases h
theorem firstThread_ok {R : Nat → Option (Int × Int)} (hR : ∀ t c a, R t = some (c, a) → c ≠ 0) : ∀ (f k : Nat), (firstThread R f k).1 = 0 → ∀ i, k ≤ i → i < k + f → R i = none
  | 0, k, _, i, h1, h2 => by omega
  | f + 1, k, h, i, h1, h2 => by
    rw [firstThread] at h
    split at h
    · rename_i h0
      by_cases e : i = k
      · subst e; exact h0
      · exact firstThread_ok hR f (k + 1) h i (by omega) (by omega)
    · rename_i c a h0
      exact absurd h (hR k c a h0)
theorem firstBad_ne {E : Nat → Int} : ∀ (f k : Nat) (c a : Int), firstBad E f k = some (c, a) → c ≠ 0
  | 0, k, c, a, h => by simp [firstBad] at h
  | f + 1, k, c, a, h => by
    rw [firstBad] at h
    split at h
    · exact firstBad_ne f (k + 1) c a h
    · rename_i h0
      simp only [Option.some.injEq, Prod.mk.injEq] at h
      rw [← h.1]; exact h0
theorem chk_may {n : Nat} {L : Nat → Nat} {X : Nat → Nat → Nat → Int} {m : Nat} {lk rg : Int} (h : (chk n L X m lk rg).1 = 0) : May n L X m lk rg := by
  unfold chk at h
  split at h
  · rename_i h1
    exact absurd h h1
  · rename_i h1
    have h1 : sizesE n m lk rg = 0 := by simpa using h1
    unfold sizesE at h1
    split at h1
    · cases h1
    · split at h1
      · cases h1
      · rename_i h2 h3
        have hR : ∀ t, t < n → thr rg m lk L X t = none := fun t ht => by
          refine firstThread_ok ?_ n 0 h t (Nat.zero_le _) (by omega)
          intro t c a e
          unfold thr at e
          split at e
          · simp at e; omega
          · exact firstBad_ne _ _ _ _ e
        have hL : ∀ t, t < n → L t ≤ 400 := fun t ht => by
          have := hR t ht
          unfold thr at this
          split at this
          · cases this
          · omega
        refine ⟨by omega, by omega, ⟨by omega, by omega⟩, ⟨by omega, by omega⟩, hL, fun t i ht hi => ?_⟩
        have := hR t ht
        unfold thr at this
        rw [if_neg (by have := hL t ht; omega)] at this
        have h4 := firstBad_none _ _ this i (Nat.zero_le _) (by omega)
        unfold ordE at h4
        cases hk : kd (X t i 0) with
        | none => rw [hk] at h4; simp at h4
        | some y =>
          rcases Int.lt_or_le (X t i 0) 1 with h5 | h5
          · rw [kd_out (Or.inl h5)] at hk; cases hk
          · refine ⟨h5, ?_⟩
            rcases Int.lt_or_le 18 (X t i 0) with h6 | h6
            · rw [kd_out (Or.inr h6)] at hk; cases hk
            · exact h6

end Go.Proofs.YthbebnegmenejaaGreatDoor
