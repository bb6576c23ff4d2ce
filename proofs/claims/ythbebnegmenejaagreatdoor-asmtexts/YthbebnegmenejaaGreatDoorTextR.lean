/-
  A program in memory as a plain one; what is said of its text.
-/
import Derived.Test.YthbebnegmenejaaGreatDoorTextQ
import Derived.Test.YthbebnegmenejaaGreatDoorCheckR1
namespace Go.Proofs.YthbebnegmenejaaGreatDoor
open Go.RowKit

def stOf (n : Nat) (L : Nat → Nat) (X : Nat → Nat → Nat → Int) (words : List Int) (lk rg : Int) : St := ⟨words, lk, rg, (List.range n).map fun t => (List.range (L t)).map fun i => (X t i 0, X t i 1, X t i 2, X t i 3)⟩

section
variable {n : Nat} {L : Nat → Nat} {X : Nat → Nat → Nat → Int} {words : List Int} {lk rg : Int}
theorem textF_st : textF n L X words lk rg = textS (stOf n L X words lk rg) := by
  unfold textF textS codeT thsT stOf thrT bodyT
  simp only [List.flatMap_map]
theorem st_len : (stOf n L X words lk rg).ths.length = n := by simp [stOf]
theorem st_lOf {t : Nat} (h : t < n) : lOf (stOf n L X words lk rg).ths t = L t := by
  simp [lOf, stOf, List.getD, h]
theorem st_xOf {t i q : Nat} (h : t < n) (hi : i < L t) (hq : q < 4) : xOf (stOf n L X words lk rg).ths t i q = X t i q := by
  have e : ((stOf n L X words lk rg).ths.getD t []).getD i (0, 0, 0, 0) = (X t i 0, X t i 1, X t i 2, X t i 3) := by
    simp [stOf, List.getD, h, hi]
  unfold xOf
  rw [e]
  rcases (by omega : q = 0 ∨ q = 1 ∨ q = 2 ∨ q = 3) with rfl | rfl | rfl | rfl <;> rfl
end

theorem firstBad_congr {E E' : Nat → Int} : ∀ (f k : Nat), (∀ i, k ≤ i → i < k + f → E i = E' i) → firstBad E f k = firstBad E' f k
  | 0, _, _ => rfl
  | f + 1, k, h => by
    rw [firstBad, firstBad, h k (Nat.le_refl _) (by omega), firstBad_congr f (k + 1) (fun i h1 h2 => h i (by omega) (by omega))]
theorem firstThread_congr {R R' : Nat → Option (Int × Int)} : ∀ (f k : Nat), (∀ i, k ≤ i → i < k + f → R i = R' i) → firstThread R f k = firstThread R' f k
  | 0, _, _ => rfl
  | f + 1, k, h => by
    rw [firstThread, firstThread, h k (Nat.le_refl _) (by omega), firstThread_congr f (k + 1) (fun i h1 h2 => h i (by omega) (by omega))]
theorem chk_congr {n m : Nat} {L L' : Nat → Nat} {X X' : Nat → Nat → Nat → Int} {lk rg : Int} (hL : ∀ t, t < n → L t = L' t) (hX : ∀ t i q, t < n → i < L t → q < 4 → X t i q = X' t i q) : chk n L X m lk rg = chk n L' X' m lk rg := by
  unfold chk
  split
  · rfl
  · refine firstThread_congr n 0 (fun t _ ht => ?_)
    have ht' : t < n := by omega
    unfold thr
    rw [← hL t ht']
    split
    · rfl
    · refine firstBad_congr _ 0 (fun i _ hi => ?_)
      have hi' : i < L t := by omega
      rw [hX t i 0 ht' hi' (by omega), hX t i 1 ht' hi' (by omega), hX t i 2 ht' hi' (by omega), hX t i 3 ht' hi' (by omega)]
theorem chk_st {n : Nat} {L : Nat → Nat} {X : Nat → Nat → Nat → Int} {words : List Int} {lk rg : Int} : chkS (stOf n L X words lk rg) = chk n L X words.length lk rg := by
  unfold chkS
  rw [st_len]
  refine chk_congr (fun t ht => st_lOf ht) (fun t i q ht hi hq => ?_)
  rw [st_lOf ht] at hi
  exact st_xOf ht hi hq
theorem chk_ords {n m : Nat} {L : Nat → Nat} {X : Nat → Nat → Nat → Int} {lk rg : Int} (h : (chk n L X m lk rg).1 = 0) : 1 ≤ n ∧ ∀ t i, t < n → i < L t → ordE rg m lk (L t) (X t i 0) (X t i 1) (X t i 2) (X t i 3) = 0 := by
  have hM := chk_may h
  unfold chk at h
  split at h
  · rename_i h1
    exact absurd h h1
  · rename_i h1
    have h1 : sizesE n m lk rg = 0 := by simpa using h1
    unfold sizesE at h1
    split at h1
    · cases h1
    · rename_i h2
      refine ⟨by omega, fun t i ht hi => ?_⟩
      have hR : thr rg m lk L X t = none := by
        refine firstThread_ok ?_ n 0 h t (Nat.zero_le _) (by omega)
        intro t c a e
        unfold thr at e
        split at e
        · simp at e; omega
        · exact firstBad_ne _ _ _ _ e
      unfold thr at hR
      rw [if_neg (by have := hM.len t ht; omega)] at hR
      exact firstBad_none _ _ hR i (Nat.zero_le _) (by omega)
theorem ord_ok {rg wd lk sz op a b c : Int} (h : ordE rg wd lk sz op a b c = 0) (h1 : 1 ≤ op ∧ op ≤ 18) (hf : I64 a ∧ I64 b ∧ I64 c) : OrdOk (op, a, b, c) := by
  refine ⟨h1, hf, fun q hq hq3 => ?_⟩
  unfold ordE at h
  cases hk : kd op with
  | none => rw [hk] at h; simp at h
  | some p =>
    obtain ⟨x, y, z⟩ := p
    rw [hk] at h
    have h0 := (ks_spec hk).2.2 q hq hq3
    have hall : okN rg wd lk sz x a = true ∧ okN rg wd lk sz y b = true ∧ okN rg wd lk sz z c = true := by
      simp only at h
      split at h
      · rename_i hc
        simp only [Bool.and_eq_true] at hc
        exact ⟨hc.1.1, hc.1.2, hc.2⟩
      · cases h
    have key : ∀ v, okN rg wd lk sz 0 v = true → v = 0 := fun v hv => by
      simp [okN, lim] at hv
      omega
    rcases (by omega : q = 0 ∨ q = 1 ∨ q = 2) with rfl | rfl | rfl
    · have : x = 0 := h0
      subst this
      exact key _ hall.1
    · have : y = 0 := h0
      subst this
      exact key _ hall.2.1
    · have : z = 0 := h0
      subst this
      exact key _ hall.2.2
theorem st_ok {n : Nat} {L : Nat → Nat} {X : Nat → Nat → Nat → Int} {words : List Int} {lk rg : Int} (h : (chk n L X words.length lk rg).1 = 0) (hX : ∀ t i q, t < n → i < L t → I64 (X t i q)) (hw : ∀ v ∈ words, I64 v) : StOk (stOf n L X words lk rg) := by
  have hM := chk_may h
  obtain ⟨h1, h2⟩ := chk_ords h
  refine ⟨fun e => ?_, hw, hM.hlk, hM.hrg, ?_⟩
  · have := st_len (n := n) (L := L) (X := X) (words := words) (lk := lk) (rg := rg)
    rw [e] at this
    simp at this
    omega
  · intro th ht x hx
    unfold stOf at ht
    simp only [List.mem_map, List.mem_range] at ht
    obtain ⟨t, ht, rfl⟩ := ht
    simp only [List.mem_map, List.mem_range] at hx
    obtain ⟨i, hi, rfl⟩ := hx
    exact ord_ok (h2 t i ht hi) (hM.op t i ht hi) ⟨hX t i 1 ht hi, hX t i 2 ht hi, hX t i 3 ht hi⟩
/-- What Parse says of a program's text. -/
theorem parse_text {n : Nat} {L : Nat → Nat} {X : Nat → Nat → Nat → Int} {words : List Int} {lk rg : Int} (h : (chk n L X words.length lk rg).1 = 0) (hX : ∀ t i q, t < n → i < L t → I64 (X t i q)) (hw : ∀ v ∈ words, I64 v) :
    parseL (textF n L X words lk rg) = if 4000 < (textF n L X words lk rg).length then (st0, (1, 0, 0)) else (stOf n L X words lk rg, (0, 0, 0)) := by
  unfold parseL
  split
  · rfl
  · rw [textF_st, read_text (st_ok h hX hw)]
    show (if (chkS (stOf n L X words lk rg)).1 = 0 then _ else _) = _
    rw [chk_st, if_pos h]
theorem PIn.congr {w : World} {ca : Option Addr} {n : Nat} {A : Nat → Option Addr} {L L' C : Nat → Nat} {X X' : Nat → Nat → Nat → Int} (h : PIn w ca n A L C X) (hL : ∀ t, t < n → L t = L' t) (hX : ∀ t i q, t < n → i < L' t → q < 4 → X t i q = X' t i q) : PIn w ca n A L' C X' where
  code t ht := by
    obtain ⟨b, o, e, hc⟩ := h.code t ht
    exact ⟨b, o, e, by rw [← hL t ht]; exact hc⟩
  ord t i ht hi := by
    obtain ⟨b, o, e, h0, h1, h2, h3⟩ := h.ord t i ht (by rw [hL t ht]; exact hi)
    rw [hX t i 0 ht hi (by omega)] at h0
    rw [hX t i 1 ht hi (by omega)] at h1
    rw [hX t i 2 ht hi (by omega)] at h2
    rw [hX t i 3 ht hi (by omega)] at h3
    exact ⟨b, o, e, h0, h1, h2, h3⟩
  len t ht := by rw [← hL t ht]; exact h.len t ht
  num := h.num

end Go.Proofs.YthbebnegmenejaaGreatDoor
