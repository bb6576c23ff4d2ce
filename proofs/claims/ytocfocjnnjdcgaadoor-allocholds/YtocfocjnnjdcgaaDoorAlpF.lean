/-
  Orders with colours for registers may be; what is wrong with the program of them.
  A program that is being made: more words behind its own, other numbers.
  Boxes that a call makes first, and what is stored into them at its end.
  The program with colours for registers: by the program.
  What an order becomes, by the document's letters.
  What an order becomes: by the document.
  A space that is being begun: its heads, one behind the other.
-/
import Derived.Test.YtocfocjnnjdcgaaDoorAlpD
import Derived.Test.YtocfocjnnjdcgaaDoorCOkP
import Derived.Test.YtocfocjnnjdcgaaDoorRDo4
import Derived.Test.YtocfocjnnjdcgaaDoorFam
import Derived.Test.YtocfocjnnjdcgaaDoorFRewB
import Derived.Test.YtocfocjnnjdcgaaDoorLivM
import Derived.Test.YtocfocjnnjdcgaaDoorCheckA
import Derived.Test.YtocfocjnnjdcgaaDoorBase
import Derived.Test.YtocfocjnnjdcgaaDoorAlcD
import Derived.Test.YtocfocjnnjdcgaaDoorLivC
import Derived.Test.YtocfocjnnjdcgaaDoorZPutS
namespace Go.Proofs.YtocfocjnnjdcgaaDoor
section
open Go.RowKit

/-- What an order becomes, told one by one. -/
theorem pnX_is (k : List Int) (op a b c : Int) (ho : 1 ≤ op ∧ op ≤ 18) :
    pnX k (op, a, b, c) = if op = 1 ∨ op = 8 ∨ op = 15 ∨ op = 16 then (op, seT k 6 a, b, c) else if op = 2 ∨ op = 10 then (op, seT k 6 a, seT k 6 b, c) else if op = 3 ∨ op = 4 ∨ op = 5 ∨ op = 6 ∨ op = 7 then (op, seT k 6 a, seT k 6 b, seT k 7 c) else if op = 9 then (op, a, seT k 6 b, c) else if op = 11 then (op, seT k 6 a, seT k 7 b, c) else if op = 13 then (op, a, seT k 6 b, seT k 7 c) else (op, a, b, c) := by
  rcases (by omega : op = 1 ∨ op = 2 ∨ op = 3 ∨ op = 4 ∨ op = 5 ∨ op = 6 ∨ op = 7 ∨ op = 8 ∨ op = 9 ∨ op = 10 ∨ op = 11 ∨ op = 12 ∨ op = 13 ∨ op = 14 ∨ op = 15 ∨ op = 16 ∨ op = 17 ∨ op = 18) with rfl | rfl | rfl | rfl | rfl | rfl | rfl | rfl | rfl | rfl | rfl | rfl | rfl | rfl | rfl | rfl | rfl | rfl
  all_goals rfl
theorem ok_mk {rg m lk sz op a b c x y z : Int} (hk : kd op = some (x, y, z)) (h1 : okN rg m lk sz x a = true) (h2 : okN rg m lk sz y b = true) (h3 : okN rg m lk sz z c = true) : ordE rg m lk sz op a b c = 0 := by
  unfold ordE
  rw [hk]
  simp [h1, h2, h3]
/-- Colours are less than six. -/
def Col6 (k : List Int) (rg : Nat) : Prop := ∀ r : Nat, r < rg → k.getD r 0 < 6
theorem okN_up {rg m m' lk sz : Nat} (hm : m ≤ m') {x v : Int} (hx : x = 0 ∨ x = 2 ∨ x = 3 ∨ x = 4 ∨ x = 5) (h : okN rg m lk sz x v = true) : okN (8 : Nat) m' lk sz x v = true := by
  rcases hx with rfl | rfl | rfl | rfl | rfl
  · simpa [okN, lim] using h
  · have := okN_word h
    simp [okN, lim]
    omega
  · simpa [okN, lim] using h
  · simpa [okN, lim] using h
  · rfl
theorem okN_seT {rg m m' lk sz : Nat} {k : List Int} (hk : Col6 k rg) {h r : Int} (hh : h = 6 ∨ h = 7) (hr : okN rg m lk sz 1 r = true) : okN (8 : Nat) m' lk sz 1 (seT k h r) = true := by
  have h1 := okN_reg hr
  have h2 := hk r.toNat (by omega)
  have : 0 ≤ seT k h r ∧ seT k h r < 8 := by
    unfold seT
    split <;> omega
  simp [okN, lim]
  omega
theorem pnX_ok {rg m m' lk sz : Nat} (hm : m ≤ m') {k : List Int} (hk : Col6 k rg) {op a b c : Int} (h : ordE rg m lk sz op a b c = 0) : ordE (8 : Nat) m' lk sz (pnX k (op, a, b, c)).1 (pnX k (op, a, b, c)).2.1 (pnX k (op, a, b, c)).2.2.1 (pnX k (op, a, b, c)).2.2.2 = 0 := by
  have ho := ok_op h
  rw [pnX_is k op a b c ho]
  have s6 : ∀ {r : Int}, okN rg m lk sz 1 r = true → okN (8 : Nat) m' lk sz 1 (seT k 6 r) = true := fun h => okN_seT hk (Or.inl rfl) h
  have s7 : ∀ {r : Int}, okN rg m lk sz 1 r = true → okN (8 : Nat) m' lk sz 1 (seT k 7 r) = true := fun h => okN_seT hk (Or.inr rfl) h
  have up0 : ∀ {v : Int}, okN rg m lk sz 0 v = true → okN (8 : Nat) m' lk sz 0 v = true := fun h => okN_up hm (by decide) h
  have up2 : ∀ {v : Int}, okN rg m lk sz 2 v = true → okN (8 : Nat) m' lk sz 2 v = true := fun h => okN_up hm (by decide) h
  have up3 : ∀ {v : Int}, okN rg m lk sz 3 v = true → okN (8 : Nat) m' lk sz 3 v = true := fun h => okN_up hm (by decide) h
  have up4 : ∀ {v : Int}, okN rg m lk sz 4 v = true → okN (8 : Nat) m' lk sz 4 v = true := fun h => okN_up hm (by decide) h
  have up5 : ∀ {v : Int}, okN rg m lk sz 5 v = true → okN (8 : Nat) m' lk sz 5 v = true := fun h => okN_up hm (by decide) h
  rcases (by omega : op = 1 ∨ op = 2 ∨ op = 3 ∨ op = 4 ∨ op = 5 ∨ op = 6 ∨ op = 7 ∨ op = 8 ∨ op = 9 ∨ op = 10 ∨ op = 11 ∨ op = 12 ∨ op = 13 ∨ op = 14 ∨ op = 15 ∨ op = 16 ∨ op = 17 ∨ op = 18) with rfl | rfl | rfl | rfl | rfl | rfl | rfl | rfl | rfl | rfl | rfl | rfl | rfl | rfl | rfl | rfl | rfl | rfl
  all_goals
    obtain ⟨h1, h2, h3⟩ := ok_three (by rfl) h
    exact ok_mk (by rfl) (by first | exact s6 h1 | exact up0 h1 | exact up2 h1 | exact up3 h1 | exact up4 h1 | exact up5 h1) (by first | exact s6 h2 | exact s7 h2 | exact up0 h2 | exact up2 h2 | exact up3 h2 | exact up4 h2 | exact up5 h2) (by first | exact s7 h3 | exact up0 h3 | exact up2 h3 | exact up3 h3 | exact up4 h3 | exact up5 h3)
/-- What is fetched and kept may be. -/
theorem feT_ok {m' lk sz : Nat} {k : List Int} {wd : Nat → Nat} {h r : Int} (hh : h = 6 ∨ h = 7) (hw : k.getD r.toNat 0 < 0 → wd r.toNat < m') {x : I4} (hx : x ∈ feT k wd h r) : ordE (8 : Nat) m' lk sz x.1 x.2.1 x.2.2.1 x.2.2.2 = 0 := by
  unfold feT at hx
  split at hx
  · rename_i hs
    have := hw hs
    simp only [List.mem_singleton] at hx
    subst hx
    exact ok_mk (x := 1) (y := 2) (z := 0) (by rfl) (by rcases hh with rfl | rfl <;> rfl) (by simp [okN, lim]; omega) (by simp [okN, lim])
  · cases hx
theorem keT_ok {m' lk sz : Nat} {k : List Int} {wd : Nat → Nat} {r : Int} (hw : k.getD r.toNat 0 < 0 → wd r.toNat < m') {x : I4} (hx : x ∈ keT k wd r) : ordE (8 : Nat) m' lk sz x.1 x.2.1 x.2.2.1 x.2.2.2 = 0 := by
  unfold keT at hx
  split at hx
  · rename_i hs
    have := hw hs
    simp only [List.mem_singleton] at hx
    subst hx
    exact ok_mk (x := 2) (y := 1) (z := 0) (by rfl) (by simp [okN, lim]; omega) (by simp [okN, lim]) (by simp [okN, lim])
  · cases hx
theorem loS_mem {k : List Int} {wd : Nat → Nat} {x y : I4} : ∀ {i : Nat}, y ∈ loS k wd x i → ∃ j, j < i ∧ y ∈ feT k wd (6 + j) ((rdO x).getD j 0)
  | 0, h => by cases h
  | i + 1, h => by
    rw [loS, List.mem_append] at h
    rcases h with h | h
    · obtain ⟨j, h1, h2⟩ := loS_mem h
      exact ⟨j, by omega, h2⟩
    · exact ⟨i, by omega, h⟩
theorem pnB_ok {rg m m' lk sz : Nat} (hm : m ≤ m') {k : List Int} (hk : Col6 k rg) {wd : Nat → Nat} (hw : ∀ r : Nat, r < rg → k.getD r 0 < 0 → wd r < m') {x : I4} (h : ordE rg m lk sz x.1 x.2.1 x.2.2.1 x.2.2.2 = 0) {y : I4} (hy : y ∈ pnB k wd x) : ordE (8 : Nat) m' lk sz y.1 y.2.1 y.2.2.1 y.2.2.2 = 0 := by
  unfold pnB at hy
  rw [List.mem_append, List.mem_append, List.mem_singleton] at hy
  have ho := ok_op h
  obtain ⟨hrd, hlen, -⟩ := us_rd x.2.1 x.2.2.1 x.2.2.2 ho
  rcases hy with (hy | hy) | hy
  · obtain ⟨j, h1, h2⟩ := loS_mem hy
    have hj : j < (rdO x).length := by
      unfold rdO
      rw [hrd, List.length_map]
      exact h1
    have h3 := ok_rd h ((rdO x).getD j 0) (by
      rw [List.getD_eq_getElem?_getD, List.getElem?_eq_getElem hj]
      exact List.getElem_mem _)
    exact feT_ok (by omega) (fun hs => hw _ (by omega) hs) h2
  · subst hy
    exact pnX_ok hm hk h
  · unfold keS at hy
    split at hy
    · cases hy
    · rename_i hu
      have h3 : 0 ≤ wrL x.1 x.2.1 x.2.2.1 ∧ wrL x.1 x.2.1 x.2.2.1 < rg := by
        rcases ok_wr h with e | e
        · exfalso
          rcases us_wr x.2.1 x.2.2.1 ho with g | g | g
          · exact hu g.1
          · rw [g.2.1] at e
            rcases g.2.2 with g | g | g | g | g | g | g | g | g | g
            all_goals (rw [g] at h hu)
            all_goals first
              | (have := ok_const h; omega)
              | (have := ok_rr (by decide) h; omega)
              | (have := ok_rrr (by decide) h; omega)
              | (have := ok_load h; omega)
              | (have := ok_cas h; omega)
          · rw [g.2.1] at e
            rcases g.2.2 with q | q | q | q | q | q | q | q | q | q
            all_goals (rw [q] at h g)
            all_goals first
              | exact absurd g.1 (by decide)
              | (have := ok_cas h; omega)
        · exact e
      exact keT_ok (fun hs => hw _ (by omega) hs) hy
theorem spN_mono {k : List Int} : ∀ {a b : Nat}, a ≤ b → spN k a ≤ spN k b
  | a, 0, h => by have : a = 0 := by omega
                  subst this; exact Nat.le_refl _
  | a, b + 1, h => by
    by_cases e : a = b + 1
    · rw [e]; exact Nat.le_refl _
    · have := spN_mono (k := k) (show a ≤ b by omega)
      rw [spN]
      omega
theorem spT_mono {K : List (List Int)} {rg : Nat} : ∀ {a b : Nat}, a ≤ b → spT K rg a ≤ spT K rg b
  | a, 0, h => by have : a = 0 := by omega
                  subst this; exact Nat.le_refl _
  | a, b + 1, h => by
    by_cases e : a = b + 1
    · rw [e]; exact Nat.le_refl _
    · have := spT_mono (K := K) (rg := rg) (show a ≤ b by omega)
      rw [spT]
      omega
theorem wdT_lt {m : Nat} {K : List (List Int)} {rg n t r : Nat} (ht : t < n) (hr : r < rg) (hs : (K.getD t []).getD r 0 < 0) : wdT m K rg t r < m + spT K rg n := by
  have h1 := spT_mono (K := K) (rg := rg) (show t + 1 ≤ n by omega)
  have h2 := spN_mono (k := K.getD t []) (show r + 1 ≤ rg by omega)
  rw [spN_put hs] at h2
  rw [spT] at h1
  unfold wdT
  omega
theorem wr_ok {rg m lk sz : Nat} {op a b c : Int} (h : ordE rg m lk sz op a b c = 0) : usW op = 0 ∨ 0 ≤ wrL op a b ∧ wrL op a b < rg := by
  have ho := ok_op h
  rcases us_wr a b ho with g | g | g
  · exact Or.inl g.1
  · refine Or.inr ?_
    rw [g.2.1]
    have g2 := g.2.2
    rcases g2 with e | e | e | e | e | e | e | e | e | e
    all_goals subst e
    all_goals first
      | exact ok_const h
      | exact (ok_rr (by decide) h).1
      | exact (ok_rrr (by decide) h).1
      | exact (ok_load h).1
      | exact absurd g.1 (by decide)
  · refine Or.inr ?_
    rw [g.2.1]
    have g2 := g.2.2
    rcases g2 with e | e | e | e | e | e | e | e | e | e
    all_goals subst e
    all_goals first
      | exact absurd g.1 (by decide)
      | exact (ok_cas h).2.1
theorem plR_four {b : Nat → List I4} (h : ∀ i, (b i).length ≤ 4) : ∀ l, plR b l ≤ 4 * l
  | 0 => Nat.le_refl _
  | l + 1 => by
    have := plR_four h l
    have := h l
    rw [plR]
    omega
/-- The orders of a program with colours for registers. -/
def bPnt (m rg : Nat) (K : List (List Int)) (X : Nat → Nat → Nat → Int) : Nat → Nat → List I4 := fun t i => pnB (K.getD t []) (wdT m K rg t) (ordAt X t i)
section
variable {n m lk rg : Nat} {L : Nat → Nat} {X : Nat → Nat → Nat → Int} {K : List (List Int)}
theorem bPnt_ok (hc : COk n L X m lk rg) (hk : ∀ t, t < n → Col6 (K.getD t []) rg) : ∀ t i, t < n → i < L t → ∀ x, x ∈ bPnt m rg K X t i → ordE (8 : Nat) ((m + spT K rg n : Nat) : Int) lk (L t) x.1 x.2.1 x.2.2.1 x.2.2.2 = 0 := fun t i ht hi _ hx =>
  pnB_ok (Nat.le_add_right _ _) (hk t ht) (fun _ hr hs => wdT_lt ht hr hs) (hc.ord t i ht hi) hx
theorem bPnt_chk (hc : COk n L X m lk rg) (hn : 0 < n) (hk : ∀ t, t < n → Col6 (K.getD t []) rg) (hm : m + spT K rg n ≤ 64) : chk n (lenR (bPnt m rg K X) L) (numR (bPnt m rg K X) L) (m + spT K rg n) lk 8 = firstThread (longR (lenR (bPnt m rg K X) L)) n 0 := by
  have h0 : sizesE n (m + spT K rg n) lk 8 = 0 := by
    have h1 := hc.n4
    have h3 := hc.lk4
    unfold sizesE
    rw [if_neg (by omega), if_neg (by omega)]
  unfold chk
  rw [h0, if_neg (by simp)]
  refine first_congr n 0 fun t _ ht => ?_
  have htn : t < n := by omega
  unfold thr longR
  by_cases e : 400 < lenR (bPnt m rg K X) L t
  · rw [if_pos e, if_pos e]
  · rw [if_neg e, if_neg e]
    exact bad_all _ _ fun i _ hi => newG_ok (bPnt_ok hc hk) t i htn (by omega)
theorem bPnt_big (L' : Nat → Nat) (X' : Nat → Nat → Nat → Int) (_hn : 0 < n) (_h4 : n ≤ 4) (hm : 64 < m) : chk n L' X' m lk 8 = (1, 0, 0) := by
  have h0 : sizesE n m lk 8 = 1 := by
    unfold sizesE
    rw [if_pos (by omega)]
  unfold chk
  rw [h0, if_pos (by decide)]
theorem bPnt_len (t i : Nat) : (bPnt m rg K X t i).length ≤ 4 := pnB_len _ _ _
theorem bPnt_led (hc : COk n L X m lk rg) (hk : ∀ t, t < n → Col6 (K.getD t []) rg) {t i : Nat} {x : I4} (ht : t < n) (hi : i < L t) (hx : x ∈ bPnt m rg K X t i) : (1 ≤ x.1 ∧ x.1 ≤ 18) ∧ (x.1 = 14 → 0 ≤ x.2.1 ∧ x.2.1 ≤ L t) ∧ (x.1 = 15 → 0 ≤ x.2.2.1 ∧ x.2.2.1 ≤ L t) := by
  have h := bPnt_ok hc hk t i ht hi x hx
  obtain ⟨o, a, b, c⟩ := x
  refine ⟨ok_op h, fun e => ?_, fun e => ?_⟩
  · have e' : o = 14 := e
    subst e'
    exact ok_jump h
  · have e' : o = 15 := e
    subst e'
    exact (ok_zero h).2
end
end

section
open Go.RowKit

section
variable {S W : World} {qb : Nat} {uv cv : Value} {words : List Int} {lk rg : Int} {b : Nat → Nat → List I4} {L : Nat → Nat} {k : Nat} {tv : List Value}
end
/-- A new program, laid into a box. -/
theorem new_box {w V : World} {n : Nat} {va : Option Addr} {vc : Nat} {ua : Option Addr} {un uc : Nat} {words : List Int} {lk rg : Int} {b : Nat → Nat → List I4} {L : Nat → Nat} {tv : List Value} (h1 : V.ownsRow w.heap.size 36 1 (.slice va n vc) n tv) (h2 : ∀ t, t < n → OwnC V w.heap.size (tv.getD t nilV) (codeR (b t) (L t))) (h3 : V.ownsRow w.heap.size 3 1 (.slice ua un uc) words.length (intsV words)) (h4 : Below w.heap.size w V) :
    RwI w V.heap.size (.slice ua un uc) words lk rg b L n (V.alloc (.cells #[.slice va n vc, .slice ua un uc, .int .i64 lk, .int .i64 rg] 25)) (.slice va n vc) tv := by
  have hb : Below V.heap.size V (V.alloc (.cells #[.slice va n vc, .slice ua un uc, .int .i64 lk, .int .i64 rg] 25)) := (Below.refl _ _).alloc (Nat.le_refl _) _
  exact ⟨h4.trans (hb.mono h4.size), h4.size, heap_alloc_new _ _, owns_below2 h3 hb, fun e => by have := (h3.lt _ e).2; omega, owns_below2 h1 hb, fun e => by have := (h1.lt _ e).2; omega, fun g hg => owns_two h3 h1 (by decide) hg, fun t ht => ⟨owns_below2 (h2 t ht) hb, fun g hg => ⟨by have := ((h2 t ht).lt g hg).2; omega, owns_two (h2 t ht) h1 (by decide) hg⟩⟩⟩
end

section
open Go.RowKit

/-- Three boxes that a call makes first. -/
theorem box3 (w : World) (P R F : Obj) : ∃ W, ((w.alloc P).alloc R).alloc F = W ∧ w.heap.size + 3 = W.heap.size ∧ ∀ V, Below W.heap.size W V → Below w.heap.size w V ∧ V.heap[w.heap.size]? = some P ∧ V.heap[w.heap.size + 1]? = some R ∧ V.heap[w.heap.size + 1 + 1]? = some F := by
  refine ⟨_, rfl, by simp, fun V hb => ⟨?_, ?_, ?_, ?_⟩⟩
  · exact ((((Below.refl _ _).alloc (Nat.le_refl _) _).alloc (by simp) _).alloc (by simp; omega) _).trans (hb.mono (by simp; omega))
  · exact (hb.block _ (by simp; omega)).trans (box_later (box_later (heap_alloc_new _ _) _) _)
  · have := (hb.block (w.heap.size + 1) (by simp)).trans (box_later (show ((w.alloc P).alloc R).heap[w.heap.size + 1]? = some R by have := heap_alloc_new (w.alloc P) R; simpa using this) _)
    exact this
  · have := (hb.block (w.heap.size + 1 + 1) (by simp)).trans (show (((w.alloc P).alloc R).alloc F).heap[w.heap.size + 1 + 1]? = some F by have := heap_alloc_new ((w.alloc P).alloc R) F; simpa using this)
    exact this
theorem below7n {w w' : World} (h : Below w.heap.size w w') (a b c d e f g : Value) : Below w.heap.size w (((((((w'.setCell ⟨w.heap.size + 1, 0, none⟩ a).setCell ⟨w.heap.size + 1, 1, none⟩ b).setCell ⟨w.heap.size + 1, 2, none⟩ c).setCell ⟨w.heap.size + 1, 3, none⟩ d).setCell ⟨w.heap.size + 1 + 1, 0, none⟩ e).setCell ⟨w.heap.size + 1 + 1, 1, none⟩ f).setCell ⟨w.heap.size + 1 + 1, 2, none⟩ g) := by
  have h1 : w.heap.size ≤ w.heap.size + 1 := by omega
  have h2 : w.heap.size ≤ w.heap.size + 1 + 1 := by omega
  exact ((((((h.setCell h1 _).setCell h1 _).setCell h1 _).setCell h1 _).setCell h2 _).setCell h2 _).setCell h2 _
theorem below7 {w w' : World} (h : Below w.heap.size w w') (a b c d e f g : Value) : Below w.heap.size w (((((((w'.setCell ⟨w.heap.size + 1, 0, none⟩ a).setCell ⟨w.heap.size + 1, 1, none⟩ b).setCell ⟨w.heap.size + 1, 2, none⟩ c).setCell ⟨w.heap.size + 1, 3, none⟩ d).setCell ⟨w.heap.size + 1 + 1, 0, none⟩ e).setCell ⟨w.heap.size + 1 + 1, 1, none⟩ f).setCell ⟨w.heap.size + 1 + 1, 2, none⟩ g).drew := (below7n h a b c d e f g).drew
end

section
open Go.RowKit

section
variable {S W : World} {qb : Nat} {uv cv : Value} {words : List Int} {lk rg : Int} {b : Nat → Nat → List I4} {L : Nat → Nat} {k : Nat} {tv : List Value}
/-- Noughts behind the words. -/
theorem RwI.zeros (h : RwI S qb uv words lk rg b L k W cv tv) (m : Nat) (hk : words.length + m ≤ 1000000) :
    ∃ ua uc w3, (AppS #[23, 3] 23 #[uv, .int .i64 (m : Nat)]).run Tryd.prog W = .ok (.slice ua (words.length + m) uc) w3 ∧ w3.heap[qb]? = some (.cells #[cv, uv, .int .i64 lk, .int .i64 rg] 25) ∧
      RwI S qb (.slice ua (words.length + m) uc) (words ++ List.replicate m 0) lk rg b L k (w3.setCell ⟨qb, 1, none⟩ (.slice ua (words.length + m) uc)) cv tv := by
  have hl := h.low.size
  obtain ⟨v', w3, r1, r2, r3, r4⟩ := app_zeros h.words hl m hk
  obtain ⟨ua, uc, rfl⟩ := fam_form r2
  have hlow : Below S.heap.size S w3 := h.low.grown r3 hl (fun q hq => (h.words.lt q hq).1)
  have hq3 : w3.heap[qb]? = some (.cells #[cv, uv, .int .i64 lk, .int .i64 rg] 25) := by
    rw [grown_block r3 (box_lt h.box) h.wq]
    exact h.box
  have hgq : (Value.slice ua (words.length + m) uc).ownBlock ≠ some qb := fun e => by
    rcases r4 with r4 | r4
    · exact h.wq (by rw [← r4, e])
    · rw [r4] at e
      have := box_lt h.box
      have : W.heap.size = qb := by simpa using e
      omega
  have hold : ∀ y, y < W.heap.size → uv.ownBlock ≠ some y → (Value.slice ua (words.length + m) uc).ownBlock ≠ some y := fun y hy hne e => by
    rcases r4 with r4 | r4
    · exact hne (by rw [← r4, e])
    · rw [r4] at e
      have : W.heap.size = y := by simpa using e
      omega
  have hcu : ∀ y, cv.ownBlock = some y → uv.ownBlock ≠ some y := fun y hy e => h.cw y e hy
  refine ⟨ua, uc, w3, r1, hq3, ⟨hlow.setCell h.hq _, h.hq, ?_, ?_, hgq, ?_, h.cq, fun y hy e => ?_, fun t ht => ?_⟩⟩
  · rw [heap_set_same hq3]
    rfl
  · refine owns_far ?_ hgq
    have e : (words ++ List.replicate m 0).length = words.length + m := by simp
    rw [e, show intsV (words ++ List.replicate m 0) = intsV words ++ List.replicate m (.int .i64 0) by simp [intsV]]
    exact r2
  · exact owns_far (own_grown h.code r3 (fun y hy => hcu y hy)) h.cq
  · exact hold _ (h.code.lt y e).2 (hcu y e) hy
  · have h1 := h.thr t ht
    have hne : ∀ y, (tv.getD t nilV).ownBlock = some y → uv.ownBlock ≠ some y := fun y hy => owns_two h1.1 h.words (by decide) hy
    exact ⟨owns_far (own_grown h1.1 r3 (fun y hy => hne y hy)) (fun e2 => (h1.2 qb e2).1 rfl), h1.2⟩
/-- Another number of registers. -/
theorem RwI.regs (h : RwI S qb uv words lk rg b L k W cv tv) (rg' : Int) : RwI S qb uv words lk rg' b L k (W.setCell ⟨qb, 3, none⟩ (.int .i64 rg')) cv tv :=
  ⟨h.low.setCell h.hq _, h.hq, by rw [heap_set_same h.box]; rfl, owns_far h.words h.wq, h.wq, owns_far h.code h.cq, h.cq, h.cw, fun t ht => ⟨owns_far (h.thr t ht).1 (fun e => ((h.thr t ht).2 _ e).1 rfl), (h.thr t ht).2⟩⟩
end
/-- No program. -/
abbrev zeP : Value := .agg #[nilV, nilV, .int .i64 0, .int .i64 0]
end

section
open Go.RowKit

/-- A number of an order: the first, the second, the third. -/
def nth3 (x : I4) (q : Nat) : Int := if q = 0 then x.2.1 else if q = 1 then x.2.2.1 else x.2.2.2
/-- The numbers when the first ones are turned. -/
def nwN (k : List Int) (x : I4) (n q : Nat) : Int := if q < n then nth3 (pnX k x) q else nth3 x q
end

section
open Go.RowKit

/-- The numbers of an order, the first n of them turned. -/
def nwC (k : List Int) (x : I4) (n : Nat) : Array Value := #[.int .i64 (nwN k x n 0), .int .i64 (nwN k x n 1), .int .i64 (nwN k x n 2)]
theorem nwC_all (k : List Int) (op a b c : Int) (ho : 1 ≤ op ∧ op ≤ 18) : nwC k (op, a, b, c) (ks op).size = #[.int .i64 (pnX k (op, a, b, c)).2.1, .int .i64 (pnX k (op, a, b, c)).2.2.1, .int .i64 (pnX k (op, a, b, c)).2.2.2] ∧ (pnX k (op, a, b, c)).1 = op := by
  rcases (by omega : op = 1 ∨ op = 2 ∨ op = 3 ∨ op = 4 ∨ op = 5 ∨ op = 6 ∨ op = 7 ∨ op = 8 ∨ op = 9 ∨ op = 10 ∨ op = 11 ∨ op = 12 ∨ op = 13 ∨ op = 14 ∨ op = 15 ∨ op = 16 ∨ op = 17 ∨ op = 18) with rfl | rfl | rfl | rfl | rfl | rfl | rfl | rfl | rfl | rfl | rfl | rfl | rfl | rfl | rfl | rfl | rfl | rfl
  all_goals exact ⟨rfl, rfl⟩
attribute [local go_sem ↓] appS_eq in
end

section
open Go.RowKit

/-- A space of nothing. -/
def d0 : Sd := ⟨[], [], [], nilV, false⟩
def bN (i : Nat) : Sr → Nat
  | .box => 1
  | .hd => i
  | _ => 0
def bX (v : Sr → Value) (i : Nat) : Sr → List Value
  | .box => [v .st, v .ks, v .hd, v .bf, nilV, .bool false]
  | .hd => intsV (List.replicate i (-1))
  | _ => []
/-- A space with i heads. -/
structure SpB (w W : World) (B pb i : Nat) : Prop where
  ex : ∃ v, Fam W B sTy sSz v (bN i) (bX v i) ∧ v .box = boxV pb
  below : Below B w W
theorem SpB.start (w : World) : SpB w (w.alloc (.cells #[nilV, nilV, nilV, nilV, nilV, .bool false] 53)) w.heap.size w.heap.size 0 := by
  refine ⟨⟨fun q => if q = .box then boxV w.heap.size else nilV, ⟨fun r => ?_, fun r q g hr hq => ?_⟩, rfl⟩, (Below.refl _ _).alloc (Nat.le_refl _) _⟩
  · cases r with
    | box => exact fam_box (xs := [nilV, nilV, nilV, nilV, nilV, .bool false]) (Nat.le_refl _) (heap_alloc_new _ _)
    | st => exact World.ownsRow_nil _ _ _ _
    | ks => exact World.ownsRow_nil _ _ _ _
    | hd => exact World.ownsRow_nil _ _ _ _
    | bf => exact World.ownsRow_nil _ _ _ _
  · have h1 : ∀ x : Sr, ((if x = .box then boxV w.heap.size else nilV : Value)).ownBlock = some g → x = .box := fun x hx => by
      by_cases e : x = .box
      · exact e
      · rw [if_neg e] at hx; simp [Value.ownBlock] at hx
    rw [h1 r hr, h1 q hq]
theorem SpB.push {w W : World} {B pb i : Nat} (h : SpB w W B pb i) (hi : i ≤ 5000) (hB : B ≤ W.heap.size) :
    ∃ a c g cap w3, W.cell? ⟨pb, 2, none⟩ = some (.slice a i c) ∧ (AppS #[23, 23] 23 #[.slice a i c, .slice (some ⟨W.heap.size, 0, none⟩) 1 1]).run Tryd.prog (W.alloc (.cells #[.int .i64 (-1)] 3)) = .ok (.slice (some ⟨g, 0, none⟩) (i + 1) cap) w3 ∧ w3.cell? ⟨pb, 2, none⟩ = some (.slice a i c) ∧ w3.frozen? ⟨pb, 2, none⟩ = false ∧
      Hid (SpB w (w3.setCell ⟨pb, 2, none⟩ (.slice (some ⟨g, 0, none⟩) (i + 1) cap)) B pb (i + 1)) := by
  obtain ⟨⟨v, hF, hbx⟩, hb⟩ := h
  have pbk : (v .box).ownBlock = some pb := by rw [hbx]; rfl
  obtain ⟨a, c, hv⟩ := fam_form (hF.own .hd)
  have hbn : bN i .hd = i := rfl
  rw [hbn] at hv
  obtain ⟨g, cap, w3, r1, o1, k1, a1⟩ := app_row (T := 23) Tryd.underlying23 infoI rfl (by omega) (hF.own .hd) (Below.refl _ W) hB 1 #[.int .i64 (-1)] rfl (by simp [Value.oneCell']) (by omega) (by rw [hbn]; omega) (by omega)
  rw [hbn] at r1 o1
  have hbd : Below W.heap.size W (W.alloc (.cells #[.int .i64 (-1)] 3)) := (Below.refl _ _).alloc (Nat.le_refl _) _
  obtain ⟨y, hy⟩ : ∃ y : Value, y = .slice (some ⟨g, 0, none⟩) (i + 1) cap := ⟨_, rfl⟩
  have G := (hF.below hbd).grew (r := .hd) o1 k1 a1 (by simp)
  rw [← hy] at G
  have pk : (upd v Sr.hd y .box).ownBlock = some pb := by rw [upd_ne _ _ (by decide)]; exact pbk
  have F := G.store (r := .box) (g := pb) pk 2 y
  have M := ((Moved.of_below hbd (v := v)).grow (r := .hd) (m := i + 1) (c := cap) k1 a1 (by simp)).put (r := .box) (g := pb) (by rw [upd_ne _ _ (by decide)]; exact pbk) 2 y
  rw [hv] at r1
  refine ⟨a, c, g, cap, w3, (hF.cell pbk rfl).trans (congrArg some hv), r1, (G.cell pk rfl).trans (congrArg some hv), G.frozen pk 2, ?_⟩
  rw [← hy]
  refine ⟨⟨upd v Sr.hd y, F.same (fun q => ?_) (fun q => ?_), by rw [upd_ne _ _ (by decide)]; exact hbx⟩, hb.trans (M.below hB (fun r g hg => hF.low r g hg))⟩
  · cases q <;> rfl
  · cases q with
    | box => rfl
    | hd =>
      show intsV (List.replicate (i + 1) (-1)) = intsV (List.replicate i (-1)) ++ [.int .i64 (-1)]
      rw [List.replicate_succ']
      simp [intsV]
    | st => rfl
    | ks => rfl
    | bf => rfl
theorem heads_none (f : Nat → Nat) (N : Nat) : (List.range N).map (fun h => lastS f h 0) = List.replicate N (-1) := by
  rw [List.eq_replicate_iff]
  refine ⟨by simp, fun x hx => ?_⟩
  obtain ⟨k, _, rfl⟩ := List.mem_map.mp hx
  rfl
theorem SpB.done {w W : World} {B pb : Nat} (h : SpB w W B pb 4096) (P : Pg) : ∃ v, SpIn W B P pb v d0 := by
  obtain ⟨⟨v, hF, hbx⟩, _⟩ := h
  refine ⟨v, hF.same (fun q => by cases q <;> rfl) (fun q => ?_), hbx, rfl, rfl, fun i hi => absurd hi (Nat.not_lt_zero _), fun i hi => absurd hi (Nat.not_lt_zero _)⟩
  cases q with
  | box => rfl
  | st => rfl
  | ks => rfl
  | bf => rfl
  | hd =>
    exact congrArg intsV (heads_none (sumsD d0) 4096)
end

end Go.Proofs.YtocfocjnnjdcgaaDoor
