/-
  A program that is being read: its threads' orders in slices of the call's own, each in a block of its own.
  Orders anew, as plain functions: what each becomes, where it lies.
  Orders anew, as plain functions: their numbers, that they may be.
-/
import Derived.Test.YtkailbdjilkneaaDoorInProg
import Derived.Deep.AppendLies
import Derived.Lib.SmallJoins
import Derived.Test.YtkailbdjilkneaaDoorCOkP
import Derived.Test.YtkailbdjilkneaaDoorOrder
namespace Go.Proofs.YtkailbdjilkneaaDoor
section
open Go.RowKit

abbrev I4 := Int × Int × Int × Int
def cells4 (x : I4) : List Value := [.int .i64 x.1, .int .i64 x.2.1, .int .i64 x.2.2.1, .int .i64 x.2.2.2]
def cellsT (l : List I4) : List Value := l.flatMap cells4
theorem cellsT_len (l : List I4) : (cellsT l).length = l.length * 4 := by
  induction l with
  | nil => rfl
  | cons x r ih => simp [cellsT, cells4] at ih ⊢; omega
theorem lt_of_owns {w : World} {B : Nat} {e : TypeId} {size : Nat} {v : Value} {n : Nat} {xs : List Value} (h : w.ownsRow B e size v n xs) {g : Nat} (hg : v.ownBlock = some g) : g < w.heap.size := (h.lt g hg).2

theorem owns_far {w : World} {B : Nat} {e : TypeId} {size : Nat} {v : Value} {n : Nat} {xs : List Value} (h : w.ownsRow B e size v n xs) {a : Addr} {u : Value} (hne : v.ownBlock ≠ some a.block) : (w.setCell a u).ownsRow B e size v n xs := by
  refine ⟨h.1, ?_⟩
  rcases h.2 with h0 | ⟨g, cap, cur, hv, hg, hh, r⟩
  · exact Or.inl h0
  · refine Or.inr ⟨g, cap, cur, hv, hg, ?_, r⟩
    rw [Below.heap_setCell _ _ _ _ (fun e => hne (by rw [hv]; simp [Value.ownBlock, e]))]
    exact hh

section
variable {w w' : World} {B : Nat} {cv wv : Value} {tv : List Value} {ths : List (List I4)} {wds : List Int}

end
end

section
open Go.RowKit

/-- A thread's order. -/
def ordAt (X : Nat → Nat → Nat → Int) (t i : Nat) : I4 := (X t i 0, X t i 1, X t i 2, X t i 3)
def nth4 (x : I4) (q : Nat) : Int := if q = 0 then x.1 else if q = 1 then x.2.1 else if q = 2 then x.2.2.1 else x.2.2.2
def fenceI : I4 := (12, 0, 0, 0)
/-- An order, or nothing if d. -/
def bDrop (d : Bool) (x : I4) : List I4 := if d then [] else [x]
/-- An order with its places led on. -/
def ledO (pl : Nat → Nat) (x : I4) : I4 := (x.1, (if x.1 = 14 then (pl x.2.1.toNat : Int) else x.2.1), (if x.1 = 15 then (pl x.2.2.1.toNat : Int) else x.2.2.1), x.2.2.2)
/-- Where what each order became begins. -/
def plR (b : Nat → List I4) : Nat → Nat
  | 0 => 0
  | i + 1 => plR b i + (b i).length
def rawR (b : Nat → List I4) : Nat → List I4
  | 0 => []
  | i + 1 => rawR b i ++ b i
/-- A thread's new orders. -/
def codeR (b : Nat → List I4) (L : Nat) : List I4 := (rawR b L).map (ledO (plR b))
section
variable {b : Nat → List I4}
theorem raw_len : ∀ i, (rawR b i).length = plR b i
  | 0 => rfl
  | i + 1 => by rw [rawR, List.length_append, raw_len i, plR]
theorem code_len (L : Nat) : (codeR b L).length = plR b L := by rw [codeR, List.length_map, raw_len]
theorem pl_mono {i j : Nat} (h : i ≤ j) : plR b i ≤ plR b j := by
  induction h with
  | refl => exact Nat.le_refl _
  | step _ ih => exact Nat.le_trans ih (Nat.le_add_right _ _)
theorem raw_at {i k : Nat} (hk : k < (b i).length) : ∀ {L : Nat}, i < L → (rawR b L)[plR b i + k]? = (b i)[k]?
  | 0, h => absurd h (by omega)
  | L + 1, h => by
    rw [rawR]
    by_cases e : i = L
    · subst e
      rw [List.getElem?_append_right (by rw [raw_len]; omega), raw_len]
      congr 1
      omega
    · have h1 : plR b (i + 1) ≤ plR b L := pl_mono (by omega)
      rw [plR] at h1
      rw [List.getElem?_append_left (by rw [raw_len]; omega)]
      exact raw_at hk (by omega)
theorem raw_find : ∀ {L j : Nat}, j < plR b L → ∃ i k, i < L ∧ k < (b i).length ∧ j = plR b i + k
  | 0, j, h => absurd h (by simp [plR])
  | L + 1, j, h => by
    rw [plR] at h
    by_cases e : j < plR b L
    · obtain ⟨i, k, h1, h2, h3⟩ := raw_find e
      exact ⟨i, k, by omega, h2, h3⟩
    · exact ⟨L, j - plR b L, by omega, by omega, by omega⟩
theorem code_at {i k L : Nat} (hk : k < (b i).length) (hi : i < L) (d : I4) : (codeR b L).getD (plR b i + k) d = ledO (plR b) ((b i).getD k d) := by
  have h := raw_at hk hi
  rw [List.getD_eq_getElem?_getD, codeR, List.getElem?_map, h, List.getElem?_eq_getElem hk]
  simp [List.getD, hk]
theorem raw_congr {c : Nat → List I4} : ∀ {L : Nat}, (∀ i, i < L → b i = c i) → rawR b L = rawR c L ∧ plR b L = plR c L
  | 0, _ => ⟨rfl, rfl⟩
  | L + 1, h => by
    obtain ⟨h1, h2⟩ := raw_congr (L := L) (fun i hi => h i (by omega))
    rw [rawR, rawR, plR, plR, h1, h2, h L (by omega)]
    exact ⟨rfl, rfl⟩
end
end

section
open Go.RowKit

/-- The new orders as numbers. -/
def lenR (b : Nat → Nat → List I4) (L : Nat → Nat) : Nat → Nat := fun t => (codeR (b t) (L t)).length
def numR (b : Nat → Nat → List I4) (L : Nat → Nat) : Nat → Nat → Nat → Int := fun t i q => nth4 ((codeR (b t) (L t)).getD i fenceI) q
/-- New orders may be, where the old ones may. -/
theorem led_ok {rg m lk sz : Nat} {pl : Nat → Nat} {x : I4} (h : ordE rg m lk sz x.1 x.2.1 x.2.2.1 x.2.2.2 = 0) {sz' : Nat} (hp : ∀ a, a ≤ sz → pl a ≤ sz') : ordE rg m lk sz' (ledO pl x).1 (ledO pl x).2.1 (ledO pl x).2.2.1 (ledO pl x).2.2.2 = 0 := by
  obtain ⟨op, a, b, c⟩ := x
  show ordE rg m lk sz' op (if op = 14 then _ else _) (if op = 15 then _ else _) c = 0
  simp only at h
  have ho := ok_op h
  by_cases h14 : op = 14
  · subst h14
    have h1 := ok_three (op := 14) rfl h
    have h2 := okN_place h1.1
    have h3 := hp a.toNat (by omega)
    unfold ordE
    simp only [kd, Int.reduceEq, ↓reduceIte]
    have h4 : okN rg m lk sz' 4 (pl a.toNat : Int) = true := by
      unfold okN lim
      simp
      omega
    rw [h4]
    have h5 : okN rg m lk sz' 0 b = true := h1.2.1
    have h6 : okN rg m lk sz' 0 c = true := h1.2.2
    rw [h5, h6]
    rfl
  · by_cases h15 : op = 15
    · subst h15
      have h1 := ok_three (op := 15) rfl h
      have h2 := okN_place h1.2.1
      have h3 := hp b.toNat (by omega)
      unfold ordE
      simp only [kd, Int.reduceEq, ↓reduceIte]
      have h4 : okN rg m lk sz' 4 (pl b.toNat : Int) = true := by
        unfold okN lim
        simp
        omega
      rw [h4]
      have h5 : okN rg m lk sz' 1 a = true := h1.1
      have h6 : okN rg m lk sz' 0 c = true := h1.2.2
      rw [h5, h6]
      rfl
    · rw [if_neg h14, if_neg h15]
      rcases op_cases op with e | rfl | rfl | rfl | rfl | rfl | rfl | rfl | rfl | rfl | rfl | rfl | rfl | rfl | rfl | rfl | rfl | rfl | rfl
      · omega
      all_goals first
        | exact absurd rfl h14
        | exact absurd rfl h15
        | exact h
/-- The first thread that is too long. -/
def longR (L : Nat → Nat) (t : Nat) : Option (Int × Int) := if 400 < L t then some (1, 0) else none
theorem bad_all {E : Nat → Int} : ∀ (f k : Nat), (∀ i, k ≤ i → i < k + f → E i = 0) → firstBad E f k = none
  | 0, _, _ => rfl
  | f + 1, k, h => by
    rw [firstBad, if_pos (h k (by omega) (by omega))]
    exact bad_all f (k + 1) (fun i h1 h2 => h i (by omega) (by omega))
theorem first_congr {R S : Nat → Option (Int × Int)} : ∀ (f k : Nat), (∀ i, k ≤ i → i < k + f → R i = S i) → firstThread R f k = firstThread S f k
  | 0, _, _ => rfl
  | f + 1, k, h => by
    rw [firstThread, firstThread, h k (by omega) (by omega)]
    rw [first_congr f (k + 1) (fun i h1 h2 => h i (by omega) (by omega))]
theorem long_none {L : Nat → Nat} : ∀ (f k : Nat), (∀ i, k ≤ i → i < k + f → L i ≤ 400) → firstThread (longR L) f k = (0, 0, 0)
  | 0, _, _ => rfl
  | f + 1, k, h => by
    rw [firstThread]
    have : longR L k = none := by unfold longR; rw [if_neg (by have := h k (by omega) (by omega); omega)]
    rw [this]
    exact long_none f (k + 1) (fun i h1 h2 => h i (by omega) (by omega))
section
variable {n m lk rg : Nat} {L : Nat → Nat} {X : Nat → Nat → Nat → Int} {b : Nat → Nat → List I4}
/-- New orders that may be, each in the place of one at most. -/
theorem newG_ok (hb : ∀ t i, t < n → i < L t → ∀ x, x ∈ b t i → ordE rg m lk (L t) x.1 x.2.1 x.2.2.1 x.2.2.2 = 0) : ∀ t i, t < n → i < lenR b L t → ordE rg m lk (lenR b L t) (numR b L t i 0) (numR b L t i 1) (numR b L t i 2) (numR b L t i 3) = 0 := fun t j ht hj => by
  unfold lenR at hj
  rw [code_len] at hj
  obtain ⟨i, k, hi, hk, rfl⟩ := raw_find hj
  have h1 := code_at hk hi fenceI
  have hx : (b t i).getD k fenceI ∈ b t i := by
    rw [List.getD_eq_getElem?_getD, List.getElem?_eq_getElem hk]
    exact List.getElem_mem hk
  unfold numR
  rw [h1]
  exact led_ok (sz := L t) (x := (b t i).getD k fenceI) (hb t i ht hi _ hx) (fun a ha => by unfold lenR; rw [code_len]; exact pl_mono ha)
theorem one_len (hb : ∀ t i, (b t i).length ≤ 1) (t : Nat) : lenR b L t ≤ L t := by
  unfold lenR
  rw [code_len]
  have : ∀ i, plR (b t) i ≤ i := fun i => by
    induction i with
    | zero => exact Nat.le_refl _
    | succ i ih =>
      rw [plR]
      have := hb t i
      omega
  exact this _
theorem newG_cok (hc : COk n L X m lk rg) (h1 : ∀ t i, (b t i).length ≤ 1) (hb : ∀ t i, t < n → i < L t → ∀ x, x ∈ b t i → ordE rg m lk (L t) x.1 x.2.1 x.2.2.1 x.2.2.2 = 0) : COk n (lenR b L) (numR b L) m lk rg :=
  ⟨hc.n4, fun t ht => Nat.le_trans (one_len h1 t) (hc.L4 t ht), hc.m64, hc.lk4, hc.rg0, hc.rg2, newG_ok hb⟩
/-- The new program may be. -/
theorem newG_chk (hc : COk n L X m lk rg) (hn : 0 < n) (hL : ∀ t, t < n → L t ≤ 400) (h1 : ∀ t i, (b t i).length ≤ 1) (hb : ∀ t i, t < n → i < L t → ∀ x, x ∈ b t i → ordE rg m lk (L t) x.1 x.2.1 x.2.2.1 x.2.2.2 = 0) : chk n (lenR b L) (numR b L) m lk rg = (0, 0, 0) := by
  have h0 : sizesE n m lk rg = 0 := by
    have h1 := hc.n4
    have h2 := hc.m64
    have h3 := hc.lk4
    have h4 := hc.rg0
    have h5 := hc.rg2
    unfold sizesE
    rw [if_neg (by omega), if_neg (by omega)]
  have hle : ∀ t, t < n → lenR b L t ≤ 400 := fun t ht => Nat.le_trans (one_len h1 t) (hL t ht)
  have h2 : firstThread (thr rg m lk (lenR b L) (numR b L)) n 0 = firstThread (longR (lenR b L)) n 0 := first_congr n 0 fun t _ ht => by
    have htn : t < n := by omega
    unfold thr longR
    rw [if_neg (by have := hle t htn; omega), if_neg (by have := hle t htn; omega)]
    exact bad_all _ _ fun i _ hi => newG_ok hb t i htn (by omega)
  unfold chk
  rw [h0, if_neg (by simp), h2]
  exact long_none n 0 (fun i _ hi => hle i (by omega))
end

theorem pl_le {b : Nat → List I4} : ∀ {l : Nat}, (∀ i, i < l → (b i).length ≤ 1) → plR b l ≤ l
  | 0, _ => Nat.le_refl _
  | l + 1, h => by
    rw [plR]
    have h1 := pl_le (b := b) (l := l) fun i hi => h i (by omega)
    have h2 := h l (by omega)
    omega
end

end Go.Proofs.YtkailbdjilkneaaDoor
