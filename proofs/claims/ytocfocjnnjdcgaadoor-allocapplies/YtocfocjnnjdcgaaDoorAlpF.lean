/-
  Orders with colours for registers may be; what is wrong with the program of them.
-/
import Derived.Test.YtocfocjnnjdcgaaDoorAlpD
import Derived.Test.YtocfocjnnjdcgaaDoorCOkP
namespace Go.Proofs.YtocfocjnnjdcgaaDoor
open Go.RowKit

/-- What an order becomes, told one by one. -/
theorem pnX_is (k : List Int) (op a b c : Int) (ho : 1 ≤ op ∧ op ≤ 18) :
    pnX k (op, a, b, c) = if op = 1 ∨ op = 8 ∨ op = 15 ∨ op = 16 then (op, seT k 6 a, b, c) else if op = 2 ∨ op = 10 then (op, seT k 6 a, seT k 6 b, c) else if op = 3 ∨ op = 4 ∨ op = 5 ∨ op = 6 ∨ op = 7 then (op, seT k 6 a, seT k 6 b, seT k 7 c) else if op = 9 then (op, a, seT k 6 b, c) else if op = 11 then (op, seT k 6 a, seT k 7 b, c) else if op = 13 then (op, a, seT k 6 b, seT k 7 c) else (op, a, b, c) := by
  rcases (by omega : op = 1 ∨ op = 2 ∨ op = 3 ∨ op = 4 ∨ op = 5 ∨ op = 6 ∨ op = 7 ∨ op = 8 ∨ op = 9 ∨ op = 10 ∨ op = 11 ∨ op = 12 ∨ op = 13 ∨ op = 14 ∨ op = 15 ∨ op = 16 ∨ op = 17 ∨ op = 18) with rfl | rfl | rfl | rfl | rfl | rfl | rfl | rfl | rfl | rfl | rfl | rfl | rfl | rfl | rfl | rfl | rfl | rfl
  all_goals rfl
theorem ok_mk {rg m lk sz op a b c x y z : Int} (hk : kd op = some (x, y, z)) (h1 : okN rg m lk sz x a = true) (h2 : okN rg m lk sz y b = true) (h3 : okN rg m lk sz z c = true) : ordE rg m lk sz op a b c = 0 := by
  unfold ordE
  rw [hk]
  simp [h1, h2, h3]
/-- Colours are less than six. -/
def Col6 (k : List Int) (rg : Nat) : Prop := ∀ r : Nat, r < rg → k.getD r 0 < 6
theorem okN_up {rg m m' lk sz : Nat} (hm : m ≤ m') {x v : Int} (hx : x = 0 ∨ x = 2 ∨ x = 3 ∨ x = 4 ∨ x = 5) (h : okN rg m lk sz x v = true) : okN (8 : Nat) m' lk sz x v = true := by
  rcases hx with rfl | rfl | rfl | rfl | rfl
  · simpa [okN, lim] using h
  · have := okN_word h
    simp [okN, lim]
    omega
  · simpa [okN, lim] using h
  · simpa [okN, lim] using h
  · rfl
theorem okN_seT {rg m m' lk sz : Nat} {k : List Int} (hk : Col6 k rg) {h r : Int} (hh : h = 6 ∨ h = 7) (hr : okN rg m lk sz 1 r = true) : okN (8 : Nat) m' lk sz 1 (seT k h r) = true := by
  have h1 := okN_reg hr
  have h2 := hk r.toNat (by omega)
  have : 0 ≤ seT k h r ∧ seT k h r < 8 := by
    unfold seT
    split <;> omega
  simp [okN, lim]
  omega
theorem pnX_ok {rg m m' lk sz : Nat} (hm : m ≤ m') {k : List Int} (hk : Col6 k rg) {op a b c : Int} (h : ordE rg m lk sz op a b c = 0) : ordE (8 : Nat) m' lk sz (pnX k (op, a, b, c)).1 (pnX k (op, a, b, c)).2.1 (pnX k (op, a, b, c)).2.2.1 (pnX k (op, a, b, c)).2.2.2 = 0 := by
  have ho := ok_op h
  rw [pnX_is k op a b c ho]
  have s6 : ∀ {r : Int}, okN rg m lk sz 1 r = true → okN (8 : Nat) m' lk sz 1 (seT k 6 r) = true := fun h => okN_seT hk (Or.inl rfl) h
  have s7 : ∀ {r : Int}, okN rg m lk sz 1 r = true → okN (8 : Nat) m' lk sz 1 (seT k 7 r) = true := fun h => okN_seT hk (Or.inr rfl) h
  have up0 : ∀ {v : Int}, okN rg m lk sz 0 v = true → okN (8 : Nat) m' lk sz 0 v = true := fun h => okN_up hm (by decide) h
  have up2 : ∀ {v : Int}, okN rg m lk sz 2 v = true → okN (8 : Nat) m' lk sz 2 v = true := fun h => okN_up hm (by decide) h
  have up3 : ∀ {v : Int}, okN rg m lk sz 3 v = true → okN (8 : Nat) m' lk sz 3 v = true := fun h => okN_up hm (by decide) h
  have up4 : ∀ {v : Int}, okN rg m lk sz 4 v = true → okN (8 : Nat) m' lk sz 4 v = true := fun h => okN_up hm (by decide) h
  have up5 : ∀ {v : Int}, okN rg m lk sz 5 v = true → okN (8 : Nat) m' lk sz 5 v = true := fun h => okN_up hm (by decide) h
  rcases (by omega : op = 1 ∨ op = 2 ∨ op = 3 ∨ op = 4 ∨ op = 5 ∨ op = 6 ∨ op = 7 ∨ op = 8 ∨ op = 9 ∨ op = 10 ∨ op = 11 ∨ op = 12 ∨ op = 13 ∨ op = 14 ∨ op = 15 ∨ op = 16 ∨ op = 17 ∨ op = 18) with rfl | rfl | rfl | rfl | rfl | rfl | rfl | rfl | rfl | rfl | rfl | rfl | rfl | rfl | rfl | rfl | rfl | rfl
  all_goals
    obtain ⟨h1, h2, h3⟩ := ok_three (by rfl) h
    exact ok_mk (by rfl) (by first | exact s6 h1 | exact up0 h1 | exact up2 h1 | exact up3 h1 | exact up4 h1 | exact up5 h1) (by first | exact s6 h2 | exact s7 h2 | exact up0 h2 | exact up2 h2 | exact up3 h2 | exact up4 h2 | exact up5 h2) (by first | exact s7 h3 | exact up0 h3 | exact up2 h3 | exact up3 h3 | exact up4 h3 | exact up5 h3)
/-- What is fetched and kept may be. -/
theorem feT_ok {m' lk sz : Nat} {k : List Int} {wd : Nat → Nat} {h r : Int} (hh : h = 6 ∨ h = 7) (hw : k.getD r.toNat 0 < 0 → wd r.toNat < m') {x : I4} (hx : x ∈ feT k wd h r) : ordE (8 : Nat) m' lk sz x.1 x.2.1 x.2.2.1 x.2.2.2 = 0 := by
  unfold feT at hx
  split at hx
  · rename_i hs
    have := hw hs
    simp only [List.mem_singleton] at hx
    subst hx
    exact ok_mk (x := 1) (y := 2) (z := 0) (by rfl) (by rcases hh with rfl | rfl <;> rfl) (by simp [okN, lim]; omega) (by simp [okN, lim])
  · cases hx
theorem keT_ok {m' lk sz : Nat} {k : List Int} {wd : Nat → Nat} {r : Int} (hw : k.getD r.toNat 0 < 0 → wd r.toNat < m') {x : I4} (hx : x ∈ keT k wd r) : ordE (8 : Nat) m' lk sz x.1 x.2.1 x.2.2.1 x.2.2.2 = 0 := by
  unfold keT at hx
  split at hx
  · rename_i hs
    have := hw hs
    simp only [List.mem_singleton] at hx
    subst hx
    exact ok_mk (x := 2) (y := 1) (z := 0) (by rfl) (by simp [okN, lim]; omega) (by simp [okN, lim]) (by simp [okN, lim])
  · cases hx
theorem loS_mem {k : List Int} {wd : Nat → Nat} {x y : I4} : ∀ {i : Nat}, y ∈ loS k wd x i → ∃ j, j < i ∧ y ∈ feT k wd (6 + j) ((rdO x).getD j 0)
  | 0, h => by cases h
  | i + 1, h => by
    rw [loS, List.mem_append] at h
    rcases h with h | h
    · obtain ⟨j, h1, h2⟩ := loS_mem h
      exact ⟨j, by omega, h2⟩
    · exact ⟨i, by omega, h⟩
theorem pnB_ok {rg m m' lk sz : Nat} (hm : m ≤ m') {k : List Int} (hk : Col6 k rg) {wd : Nat → Nat} (hw : ∀ r : Nat, r < rg → k.getD r 0 < 0 → wd r < m') {x : I4} (h : ordE rg m lk sz x.1 x.2.1 x.2.2.1 x.2.2.2 = 0) {y : I4} (hy : y ∈ pnB k wd x) : ordE (8 : Nat) m' lk sz y.1 y.2.1 y.2.2.1 y.2.2.2 = 0 := by
  unfold pnB at hy
  rw [List.mem_append, List.mem_append, List.mem_singleton] at hy
  have ho := ok_op h
  obtain ⟨hrd, hlen, -⟩ := us_rd x.2.1 x.2.2.1 x.2.2.2 ho
  rcases hy with (hy | hy) | hy
  · obtain ⟨j, h1, h2⟩ := loS_mem hy
    have hj : j < (rdO x).length := by
      unfold rdO
      rw [hrd, List.length_map]
      exact h1
    have h3 := ok_rd h ((rdO x).getD j 0) (by
      rw [List.getD_eq_getElem?_getD, List.getElem?_eq_getElem hj]
      exact List.getElem_mem _)
    exact feT_ok (by omega) (fun hs => hw _ (by omega) hs) h2
  · subst hy
    exact pnX_ok hm hk h
  · unfold keS at hy
    split at hy
    · cases hy
    · rename_i hu
      have h3 : 0 ≤ wrL x.1 x.2.1 x.2.2.1 ∧ wrL x.1 x.2.1 x.2.2.1 < rg := by
        rcases ok_wr h with e | e
        · exfalso
          rcases us_wr x.2.1 x.2.2.1 ho with g | g | g
          · exact hu g.1
          · rw [g.2.1] at e
            rcases g.2.2 with g | g | g | g | g | g | g | g | g | g
            all_goals (rw [g] at h hu)
            all_goals first
              | (have := ok_const h; omega)
              | (have := ok_rr (by decide) h; omega)
              | (have := ok_rrr (by decide) h; omega)
              | (have := ok_load h; omega)
              | (have := ok_cas h; omega)
          · rw [g.2.1] at e
            rcases g.2.2 with q | q | q | q | q | q | q | q | q | q
            all_goals (rw [q] at h g)
            all_goals first
              | exact absurd g.1 (by decide)
              | (have := ok_cas h; omega)
        · exact e
      exact keT_ok (fun hs => hw _ (by omega) hs) hy
theorem spN_mono {k : List Int} : ∀ {a b : Nat}, a ≤ b → spN k a ≤ spN k b
  | a, 0, h => by have : a = 0 := by omega
                  subst this; exact Nat.le_refl _
  | a, b + 1, h => by
    by_cases e : a = b + 1
    · rw [e]; exact Nat.le_refl _
    · have := spN_mono (k := k) (show a ≤ b by omega)
      rw [spN]
      omega
theorem spT_mono {K : List (List Int)} {rg : Nat} : ∀ {a b : Nat}, a ≤ b → spT K rg a ≤ spT K rg b
  | a, 0, h => by have : a = 0 := by omega
                  subst this; exact Nat.le_refl _
  | a, b + 1, h => by
    by_cases e : a = b + 1
    · rw [e]; exact Nat.le_refl _
    · have := spT_mono (K := K) (rg := rg) (show a ≤ b by omega)
      rw [spT]
      omega
theorem wdT_lt {m : Nat} {K : List (List Int)} {rg n t r : Nat} (ht : t < n) (hr : r < rg) (hs : (K.getD t []).getD r 0 < 0) : wdT m K rg t r < m + spT K rg n := by
  have h1 := spT_mono (K := K) (rg := rg) (show t + 1 ≤ n by omega)
  have h2 := spN_mono (k := K.getD t []) (show r + 1 ≤ rg by omega)
  rw [spN_put hs] at h2
  rw [spT] at h1
  unfold wdT
  omega
theorem wr_ok {rg m lk sz : Nat} {op a b c : Int} (h : ordE rg m lk sz op a b c = 0) : usW op = 0 ∨ 0 ≤ wrL op a b ∧ wrL op a b < rg := by
  have ho := ok_op h
  rcases us_wr a b ho with g | g | g
  · exact Or.inl g.1
  · refine Or.inr ?_
    rw [g.2.1]
    have g2 := g.2.2
    rcases g2 with e | e | e | e | e | e | e | e | e | e
    all_goals subst e
    all_goals first
      | exact ok_const h
      | exact (ok_rr (by decide) h).1
      | exact (ok_rrr (by decide) h).1
      | exact (ok_load h).1
      | exact absurd g.1 (by decide)
  · refine Or.inr ?_
    rw [g.2.1]
    have g2 := g.2.2
    rcases g2 with e | e | e | e | e | e | e | e | e | e
    all_goals subst e
    all_goals first
      | exact absurd g.1 (by decide)
      | exact (ok_cas h).2.1
theorem plR_four {b : Nat → List I4} (h : ∀ i, (b i).length ≤ 4) : ∀ l, plR b l ≤ 4 * l
  | 0 => Nat.le_refl _
  | l + 1 => by
    have := plR_four h l
    have := h l
    rw [plR]
    omega
/-- The orders of a program with colours for registers. -/
def bPnt (m rg : Nat) (K : List (List Int)) (X : Nat → Nat → Nat → Int) : Nat → Nat → List I4 := fun t i => pnB (K.getD t []) (wdT m K rg t) (ordAt X t i)
section
variable {n m lk rg : Nat} {L : Nat → Nat} {X : Nat → Nat → Nat → Int} {K : List (List Int)}
theorem bPnt_ok (hc : COk n L X m lk rg) (hk : ∀ t, t < n → Col6 (K.getD t []) rg) : ∀ t i, t < n → i < L t → ∀ x, x ∈ bPnt m rg K X t i → ordE (8 : Nat) ((m + spT K rg n : Nat) : Int) lk (L t) x.1 x.2.1 x.2.2.1 x.2.2.2 = 0 := fun t i ht hi _ hx =>
  pnB_ok (Nat.le_add_right _ _) (hk t ht) (fun _ hr hs => wdT_lt ht hr hs) (hc.ord t i ht hi) hx
theorem bPnt_chk (hc : COk n L X m lk rg) (hn : 0 < n) (hk : ∀ t, t < n → Col6 (K.getD t []) rg) (hm : m + spT K rg n ≤ 64) : chk n (lenR (bPnt m rg K X) L) (numR (bPnt m rg K X) L) (m + spT K rg n) lk 8 = firstThread (longR (lenR (bPnt m rg K X) L)) n 0 := by
  have h0 : sizesE n (m + spT K rg n) lk 8 = 0 := by
    have h1 := hc.n4
    have h3 := hc.lk4
    unfold sizesE
    rw [if_neg (by omega), if_neg (by omega)]
  unfold chk
  rw [h0, if_neg (by simp)]
  refine first_congr n 0 fun t _ ht => ?_
  have htn : t < n := by omega
  unfold thr longR
  by_cases e : 400 < lenR (bPnt m rg K X) L t
  · rw [if_pos e, if_pos e]
  · rw [if_neg e, if_neg e]
    exact bad_all _ _ fun i _ hi => newG_ok (bPnt_ok hc hk) t i htn (by omega)
theorem bPnt_big (L' : Nat → Nat) (X' : Nat → Nat → Nat → Int) (_hn : 0 < n) (_h4 : n ≤ 4) (hm : 64 < m) : chk n L' X' m lk 8 = (1, 0, 0) := by
  have h0 : sizesE n m lk 8 = 1 := by
    unfold sizesE
    rw [if_pos (by omega)]
  unfold chk
  rw [h0, if_pos (by decide)]
theorem bPnt_len (t i : Nat) : (bPnt m rg K X t i).length ≤ 4 := pnB_len _ _ _
theorem bPnt_led (hc : COk n L X m lk rg) (hk : ∀ t, t < n → Col6 (K.getD t []) rg) {t i : Nat} {x : I4} (ht : t < n) (hi : i < L t) (hx : x ∈ bPnt m rg K X t i) : (1 ≤ x.1 ∧ x.1 ≤ 18) ∧ (x.1 = 14 → 0 ≤ x.2.1 ∧ x.2.1 ≤ L t) ∧ (x.1 = 15 → 0 ≤ x.2.2.1 ∧ x.2.2.1 ≤ L t) := by
  have h := bPnt_ok hc hk t i ht hi x hx
  obtain ⟨o, a, b, c⟩ := x
  refine ⟨ok_op h, fun e => ?_, fun e => ?_⟩
  · have e' : o = 14 := e
    subst e'
    exact ok_jump h
  · have e' : o = 15 := e
    subst e'
    exact (ok_zero h).2
end

end Go.Proofs.YtocfocjnnjdcgaaDoor
