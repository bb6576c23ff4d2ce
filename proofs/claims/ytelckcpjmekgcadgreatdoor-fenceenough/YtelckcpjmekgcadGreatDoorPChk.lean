/-
  A program that is being read: its threads' orders in slices of the call's own, each in a block of its own.
  Orders anew, as plain functions: what each becomes, where it lies.
  Orders anew, as plain functions: what each becomes, where it lies, that it may be; where something may wait.
  A program that passed Check.
  The program of two threads that the statements run by themselves: where it lies.
-/
import Derived.Test.YtelckcpjmekgcadGreatDoorInProg
import Derived.Deep.AppendLies
import Derived.Lib.SmallJoins
import Derived.Test.YtelckcpjmekgcadGreatDoorFenQ
import Derived.Test.YtelckcpjmekgcadGreatDoorRMay
namespace Go.Proofs.YtelckcpjmekgcadGreatDoor
section
open Go.RowKit

theorem owns_below2 {w w' : World} {base : Nat} {e : TypeId} {size : Nat} {v : Value} {n : Nat} {xs : List Value} (h : w.ownsRow base e size v n xs) (hb : Below w.heap.size w w') : w'.ownsRow base e size v n xs := by
  refine ⟨h.1, ?_⟩
  rcases h.2 with h0 | ⟨g, cap, cur, hv, hg, hh, r⟩
  · exact Or.inl h0
  · have hlt : g < w.heap.size := by
      rcases Nat.lt_or_ge g w.heap.size with h1 | h1
      · exact h1
      · rw [Array.getElem?_eq_none h1] at hh; cases hh
    exact Or.inr ⟨g, cap, cur, hv, hg, by rw [hb.block g hlt]; exact hh, r⟩
abbrev I4 := Int × Int × Int × Int
def cells4 (x : I4) : List Value := [.int .i64 x.1, .int .i64 x.2.1, .int .i64 x.2.2.1, .int .i64 x.2.2.2]
def cellsT (l : List I4) : List Value := l.flatMap cells4
theorem cellsT_len (l : List I4) : (cellsT l).length = l.length * 4 := by
  induction l with
  | nil => rfl
  | cons x r ih => simp [cellsT, cells4] at ih ⊢; omega
theorem lt_of_owns {w : World} {B : Nat} {e : TypeId} {size : Nat} {v : Value} {n : Nat} {xs : List Value} (h : w.ownsRow B e size v n xs) {g : Nat} (hg : v.ownBlock = some g) : g < w.heap.size := (h.lt g hg).2

theorem owns_far {w : World} {B : Nat} {e : TypeId} {size : Nat} {v : Value} {n : Nat} {xs : List Value} (h : w.ownsRow B e size v n xs) {a : Addr} {u : Value} (hne : v.ownBlock ≠ some a.block) : (w.setCell a u).ownsRow B e size v n xs := by
  refine ⟨h.1, ?_⟩
  rcases h.2 with h0 | ⟨g, cap, cur, hv, hg, hh, r⟩
  · exact Or.inl h0
  · refine Or.inr ⟨g, cap, cur, hv, hg, ?_, r⟩
    rw [Below.heap_setCell _ _ _ _ (fun e => hne (by rw [hv]; simp [Value.ownBlock, e]))]
    exact hh

section
variable {w w' : World} {B : Nat} {cv wv : Value} {tv : List Value} {ths : List (List I4)} {wds : List Int}

end
end

section
open Go.RowKit

/-- A thread's order. -/
def ordAt (X : Nat → Nat → Nat → Int) (t i : Nat) : I4 := (X t i 0, X t i 1, X t i 2, X t i 3)
def nth4 (x : I4) (q : Nat) : Int := if q = 0 then x.1 else if q = 1 then x.2.1 else if q = 2 then x.2.2.1 else x.2.2.2
def fenceI : I4 := (12, 0, 0, 0)
/-- An order, and a fence behind it if w. -/
def bWith (w : Bool) (x : I4) : List I4 := if w then [x, fenceI] else [x]
/-- An order with its places led on. -/
def ledO (pl : Nat → Nat) (x : I4) : I4 := (x.1, (if x.1 = 14 then (pl x.2.1.toNat : Int) else x.2.1), (if x.1 = 15 then (pl x.2.2.1.toNat : Int) else x.2.2.1), x.2.2.2)
/-- Where what each order became begins. -/
def plR (b : Nat → List I4) : Nat → Nat
  | 0 => 0
  | i + 1 => plR b i + (b i).length
def rawR (b : Nat → List I4) : Nat → List I4
  | 0 => []
  | i + 1 => rawR b i ++ b i
/-- A thread's new orders. -/
def codeR (b : Nat → List I4) (L : Nat) : List I4 := (rawR b L).map (ledO (plR b))
section
variable {b : Nat → List I4}
theorem raw_len : ∀ i, (rawR b i).length = plR b i
  | 0 => rfl
  | i + 1 => by rw [rawR, List.length_append, raw_len i, plR]
theorem code_len (L : Nat) : (codeR b L).length = plR b L := by rw [codeR, List.length_map, raw_len]
theorem pl_mono {i j : Nat} (h : i ≤ j) : plR b i ≤ plR b j := by
  induction h with
  | refl => exact Nat.le_refl _
  | step _ ih => exact Nat.le_trans ih (Nat.le_add_right _ _)
theorem raw_at {i k : Nat} (hk : k < (b i).length) : ∀ {L : Nat}, i < L → (rawR b L)[plR b i + k]? = (b i)[k]?
  | 0, h => absurd h (by omega)
  | L + 1, h => by
    rw [rawR]
    by_cases e : i = L
    · subst e
      rw [List.getElem?_append_right (by rw [raw_len]; omega), raw_len]
      congr 1
      omega
    · have h1 : plR b (i + 1) ≤ plR b L := pl_mono (by omega)
      rw [plR] at h1
      rw [List.getElem?_append_left (by rw [raw_len]; omega)]
      exact raw_at hk (by omega)
theorem raw_find : ∀ {L j : Nat}, j < plR b L → ∃ i k, i < L ∧ k < (b i).length ∧ j = plR b i + k
  | 0, j, h => absurd h (by simp [plR])
  | L + 1, j, h => by
    rw [plR] at h
    by_cases e : j < plR b L
    · obtain ⟨i, k, h1, h2, h3⟩ := raw_find e
      exact ⟨i, k, by omega, h2, h3⟩
    · exact ⟨L, j - plR b L, by omega, by omega, by omega⟩
theorem code_at {i k L : Nat} (hk : k < (b i).length) (hi : i < L) (d : I4) : (codeR b L).getD (plR b i + k) d = ledO (plR b) ((b i).getD k d) := by
  have h := raw_at hk hi
  rw [List.getD_eq_getElem?_getD, codeR, List.getElem?_map, h, List.getElem?_eq_getElem hk]
  simp [List.getD, hk]
end
end

section
open Go.RowKit

theorem led_mov (pl : Nat → Nat) (x : I4) : MovO pl x.1 x.2.1 x.2.2.1 x.2.2.2 (nth4 (ledO pl x) 0) (nth4 (ledO pl x) 1) (nth4 (ledO pl x) 2) (nth4 (ledO pl x) 3) := ⟨rfl, rfl, rfl, rfl⟩
/-- The new orders as numbers. -/
def lenR (b : Nat → Nat → List I4) (L : Nat → Nat) : Nat → Nat := fun t => (codeR (b t) (L t)).length
def numR (b : Nat → Nat → List I4) (L : Nat → Nat) : Nat → Nat → Nat → Int := fun t i q => nth4 ((codeR (b t) (L t)).getD i fenceI) q
def bFull (X : Nat → Nat → Nat → Int) : Nat → Nat → List I4 := fun t i => bWith (wtO (X t i 0)) (ordAt X t i)
theorem full_rel (n : Nat) (L : Nat → Nat) (X : Nat → Nat → Nat → Int) : FullR n L X (lenR (bFull X) L) (numR (bFull X) L) (fun t => plR (bFull X t)) := by
  have h1 : ∀ t i, 0 < (bFull X t i).length := fun t i => by unfold bFull bWith; split <;> simp
  have h2 : ∀ t i d, (bFull X t i).getD 0 d = ordAt X t i := fun t i d => by unfold bFull bWith; split <;> rfl
  have hlt : ∀ t i, i < L t → plR (bFull X t) i + (bFull X t i).length ≤ lenR (bFull X) L t := fun t i hi => by
    unfold lenR
    rw [code_len]
    exact pl_mono (b := bFull X t) (i := i + 1) (by omega)
  refine ⟨fun t _ => rfl, fun t _ => (code_len _).symm, fun t i _ hi => ?_, fun t i _ hi => ?_, fun t i _ hi hw => ?_, fun t i _ hi hw => ?_⟩
  · have := hlt t i hi
    have := h1 t i
    omega
  · have := code_at (b := bFull X t) (k := 0) (h1 t i) hi fenceI
    rw [h2, Nat.add_zero] at this
    unfold numR
    rw [this]
    exact led_mov _ (ordAt X t i)
  · show plR _ _ + _ = _
    unfold bFull bWith
    rw [hw]
    rfl
  · have hl : (bFull X t i).length = 2 := by unfold bFull bWith; rw [hw]; rfl
    refine ⟨?_, ?_, ?_⟩
    · show plR _ _ + _ = _
      rw [hl]
    · have := hlt t i hi
      omega
    · have := code_at (b := bFull X t) (k := 1) (by omega) hi fenceI
      unfold numR
      rw [this]
      unfold bFull bWith
      rw [hw]
      rfl
/-- New orders may be, where the old ones may. -/
theorem led_ok {rg m lk sz : Nat} {pl : Nat → Nat} {x : I4} (h : ordE rg m lk sz x.1 x.2.1 x.2.2.1 x.2.2.2 = 0) {sz' : Nat} (hp : ∀ a, a ≤ sz → pl a ≤ sz') : ordE rg m lk sz' (ledO pl x).1 (ledO pl x).2.1 (ledO pl x).2.2.1 (ledO pl x).2.2.2 = 0 := by
  obtain ⟨op, a, b, c⟩ := x
  show ordE rg m lk sz' op (if op = 14 then _ else _) (if op = 15 then _ else _) c = 0
  simp only at h
  have ho := ok_op h
  by_cases h14 : op = 14
  · subst h14
    have h1 := ok_three (op := 14) rfl h
    have h2 := okN_place h1.1
    have h3 := hp a.toNat (by omega)
    unfold ordE
    simp only [kd, Int.reduceEq, ↓reduceIte]
    have h4 : okN rg m lk sz' 4 (pl a.toNat : Int) = true := by
      unfold okN lim
      simp
      omega
    rw [h4]
    have h5 : okN rg m lk sz' 0 b = true := h1.2.1
    have h6 : okN rg m lk sz' 0 c = true := h1.2.2
    rw [h5, h6]
    rfl
  · by_cases h15 : op = 15
    · subst h15
      have h1 := ok_three (op := 15) rfl h
      have h2 := okN_place h1.2.1
      have h3 := hp b.toNat (by omega)
      unfold ordE
      simp only [kd, Int.reduceEq, ↓reduceIte]
      have h4 : okN rg m lk sz' 4 (pl b.toNat : Int) = true := by
        unfold okN lim
        simp
        omega
      rw [h4]
      have h5 : okN rg m lk sz' 1 a = true := h1.1
      have h6 : okN rg m lk sz' 0 c = true := h1.2.2
      rw [h5, h6]
      rfl
    · rw [if_neg h14, if_neg h15]
      rcases op_cases op with e | rfl | rfl | rfl | rfl | rfl | rfl | rfl | rfl | rfl | rfl | rfl | rfl | rfl | rfl | rfl | rfl | rfl | rfl
      · omega
      all_goals first
        | exact absurd rfl h14
        | exact absurd rfl h15
        | exact h
theorem new_ok {n m lk rg : Nat} {L : Nat → Nat} {X : Nat → Nat → Nat → Int} (hc : COk n L X m lk rg) (b : Nat → Nat → List I4) (hb : ∀ t i, t < n → i < L t → ∀ x, x ∈ b t i → x = ordAt X t i ∨ x = fenceI) : ∀ t i, t < n → i < lenR b L t → ordE rg m lk (lenR b L t) (numR b L t i 0) (numR b L t i 1) (numR b L t i 2) (numR b L t i 3) = 0 := by
  intro t j ht hj
  unfold lenR at hj
  rw [code_len] at hj
  obtain ⟨i, k, hi, hk, rfl⟩ := raw_find hj
  have h1 := code_at hk hi fenceI
  have hx : (b t i).getD k fenceI ∈ b t i := by
    rw [List.getD_eq_getElem?_getD, List.getElem?_eq_getElem hk]
    exact List.getElem_mem hk
  unfold numR
  rw [h1]
  refine led_ok (sz := L t) (x := (b t i).getD k fenceI) ?_ (fun a ha => by unfold lenR; rw [code_len]; exact pl_mono ha)
  rcases hb t i ht hi _ hx with e | e
  · rw [e]; exact hc.ord t i ht hi
  · rw [e]; rfl
theorem new_cok {n m lk rg : Nat} {L : Nat → Nat} {X : Nat → Nat → Nat → Int} (hc : COk n L X m lk rg) (b : Nat → Nat → List I4) (hb : ∀ t i, t < n → i < L t → ∀ x, x ∈ b t i → x = ordAt X t i ∨ x = fenceI) (hl : ∀ t, t < n → lenR b L t ≤ 1000) : COk n (lenR b L) (numR b L) m lk rg := ⟨hc.n4, hl, hc.m64, hc.lk4, hc.rg0, hc.rg2, new_ok hc b hb⟩
end

section
open Go.RowKit

theorem bad_none {E : Nat → Int} : ∀ (f k : Nat), firstBad E f k = none → ∀ i, k ≤ i → i < k + f → E i = 0
  | 0, k, _, i, h1, h2 => by omega
  | f + 1, k, h, i, h1, h2 => by
    rw [firstBad] at h
    split at h
    · rename_i h0
      by_cases e : i = k
      · subst e; exact h0
      · exact bad_none f (k + 1) h i (by omega) (by omega)
    · cases h
theorem thread_ok {R : Nat → Option (Int × Int)} (hR : ∀ t c a, R t = some (c, a) → c ≠ 0) : ∀ (f k : Nat), (firstThread R f k).1 = 0 → ∀ i, k ≤ i → i < k + f → R i = none
  | 0, k, _, i, h1, h2 => by omega
  | f + 1, k, h, i, h1, h2 => by
    rw [firstThread] at h
    split at h
    · rename_i h0
      by_cases e : i = k
      · subst e; exact h0
      · exact thread_ok hR f (k + 1) h i (by omega) (by omega)
    · rename_i c a h0
      exact absurd h (hR k c a h0)
theorem thread_zero {R : Nat → Option (Int × Int)} (hR : ∀ t c a, R t = some (c, a) → c ≠ 0) : ∀ (f k : Nat), (firstThread R f k).1 = 0 → firstThread R f k = (0, 0, 0)
  | 0, _, _ => rfl
  | f + 1, k, h => by
    rw [firstThread] at h ⊢
    split at h
    · exact thread_zero hR f (k + 1) h
    · rename_i c a h0
      exact absurd h (hR k c a h0)
theorem bad_ne {E : Nat → Int} : ∀ (f k : Nat) (c a : Int), firstBad E f k = some (c, a) → c ≠ 0
  | 0, k, c, a, h => by simp [firstBad] at h
  | f + 1, k, c, a, h => by
    rw [firstBad] at h
    split at h
    · exact bad_ne f (k + 1) c a h
    · rename_i h0
      simp only [Option.some.injEq, Prod.mk.injEq] at h
      rw [← h.1]; exact h0
theorem thr_ne {rg wd lk : Int} {L : Nat → Nat} {X : Nat → Nat → Nat → Int} : ∀ t c a, thr rg wd lk L X t = some (c, a) → c ≠ 0 := fun t c a e => by
  unfold thr at e
  split at e
  · simp at e; omega
  · exact bad_ne _ _ _ _ e

/-- What Check lets pass: the sizes, every order. -/
theorem chk_cok {n m : Nat} {L : Nat → Nat} {X : Nat → Nat → Nat → Int} {lk rg x y z : Int} (h : chk n L X m lk rg = (x, y, z)) (hx : x = 0) : y = 0 ∧ z = 0 ∧ 0 < n ∧ ∃ lk' rg' : Nat, lk = lk' ∧ rg = rg' ∧ COk n L X m lk' rg' := by
  subst hx
  unfold chk at h
  split at h
  · rename_i h1
    simp only [Prod.mk.injEq] at h
    exact absurd h.1 h1
  · rename_i h1
    have h1 : sizesE n m lk rg = 0 := by simpa using h1
    unfold sizesE at h1
    split at h1
    · cases h1
    · split at h1
      · cases h1
      · rename_i h2 h3
        have hz := thread_zero thr_ne n 0 (by rw [h])
        rw [h] at hz
        simp only [Prod.mk.injEq] at hz
        have hR : ∀ t, t < n → thr rg m lk L X t = none := fun t ht => thread_ok thr_ne n 0 (by rw [h]) t (Nat.zero_le _) (by omega)
        have hL : ∀ t, t < n → L t ≤ 400 ∧ firstBad (fun i => ordE rg m lk (L t) (X t i 0) (X t i 1) (X t i 2) (X t i 3)) (L t) 0 = none := fun t ht => by
          have := hR t ht
          unfold thr at this
          split at this
          · cases this
          · exact ⟨by omega, this⟩
        obtain ⟨lk', rfl⟩ := Int.eq_ofNat_of_zero_le (by omega : 0 ≤ lk)
        obtain ⟨rg', rfl⟩ := Int.eq_ofNat_of_zero_le (by omega : 0 ≤ rg)
        exact ⟨hz.2.1, hz.2.2, by omega, lk', rg', rfl, rfl, by omega, fun t ht => Nat.le_trans (hL t ht).1 (by decide), by omega, by omega, by omega, by omega, fun t i ht hi => bad_none (L t) 0 (hL t ht).2 i (Nat.zero_le _) (by omega)⟩
/-- What Check lets pass has no long thread. -/
theorem chk_len {n : Nat} {L : Nat → Nat} {X : Nat → Nat → Nat → Int} {m : Nat} {lk rg : Int} (h : chk n L X m lk rg = (0, 0, 0)) : ∀ t, t < n → L t ≤ 400 := fun t ht => by
  unfold chk at h
  split at h
  · simp_all
  · have := thread_ok thr_ne n 0 (by rw [h]) t (Nat.zero_le _) (by omega)
    unfold thr at this
    split at this
    · cases this
    · omega
end

section
open Go.RowKit

def bufT (t : Nat) : List Int := if t = 0 then [1, 0, 1, 0, 9, 0, 0, 0, 8, 1, 1, 0, 16, 1, 0, 0] else [1, 0, 1, 0, 9, 1, 0, 0, 8, 1, 0, 0, 16, 1, 0, 0]
def bufL : Nat → Nat := fun _ => 4
def bufX : Nat → Nat → Nat → Int := fun t i q => (bufT t).getD (i * 4 + q) 0
def bufA (b : Nat) : Nat → Option Addr := fun t => some ⟨b + 1 + t, 0, none⟩
theorem buf_cell {t i q : Nat} (hi : i < 4) (hq : q < 4) : (intsV (bufT t)).toArray[i * 4 + q]? = some (.int .i64 (bufX t i q)) := by
  have hl : (bufT t).length = 16 := by unfold bufT; split <;> rfl
  have h := intsV_at (l := bufT t) (i := i * 4 + q) (by rw [hl]; omega)
  simpa [bufX] using h
/-- Where the two threads' program lies. -/
structure IsBuf (d : Nat) (w w' : World) : Prop where
  prog : PIn w' (some ⟨d + 3, 0, none⟩) 2 (bufA d) bufL (fun _ => 4) bufX
  words : SIs w' (some ⟨d + 4, 0, none⟩) [0, 0]
  below : Below w.heap.size w w'
  size : d + 5 ≤ w'.heap.size
set_option maxRecDepth 100000 in
set_option maxHeartbeats 1600000 in
theorem buffers_any (w : World) (d : Nat) (hd : w.heap.size = d) : Calls Tryz.prog 6 #[] w fun e w' => e = .returned (prgV (some ⟨d + 3, 0, none⟩) 2 2 (some ⟨d + 4, 0, none⟩) 2 2 0 2) ∧ IsBuf d w w' := by
  subst hd
  have HF : Hid (∀ O0 : Obj, IsBuf w.heap.size w (((((w.alloc O0).alloc (.cells (intsV (bufT 0)).toArray 37)).alloc (.cells (intsV (bufT 1)).toArray 37)).alloc (.cells #[.slice (some ⟨w.heap.size + 1, 0, none⟩) 4 4, .slice (some ⟨w.heap.size + 1 + 1, 0, none⟩) 4 4] 35)).alloc (.cells #[.int .i64 0, .int .i64 0] 3))) := fun O0 => by
    obtain ⟨O1, h1⟩ : ∃ o : Obj, o = .cells (intsV (bufT 0)).toArray 37 := ⟨_, rfl⟩
    obtain ⟨O2, h2⟩ : ∃ o : Obj, o = .cells (intsV (bufT 1)).toArray 37 := ⟨_, rfl⟩
    obtain ⟨O3, h3⟩ : ∃ o : Obj, o = .cells #[.slice (some ⟨w.heap.size + 1, 0, none⟩) 4 4, .slice (some ⟨w.heap.size + 1 + 1, 0, none⟩) 4 4] 35 := ⟨_, rfl⟩
    obtain ⟨O4, h4⟩ : ∃ o : Obj, o = .cells #[.int .i64 0, .int .i64 0] 3 := ⟨_, rfl⟩
    rw [← h1, ← h2, ← h3, ← h4]
    have b1 : (((((w.alloc O0).alloc O1).alloc O2).alloc O3).alloc O4).heap[w.heap.size + 1]? = some O1 := box_later (box_later (box_later (by have := heap_alloc_new (w.alloc O0) O1; rwa [World.size_alloc] at this) O2) O3) O4
    have b2 : (((((w.alloc O0).alloc O1).alloc O2).alloc O3).alloc O4).heap[w.heap.size + 1 + 1]? = some O2 := box_later (box_later (by have := heap_alloc_new ((w.alloc O0).alloc O1) O2; rwa [World.size_alloc, World.size_alloc] at this) O3) O4
    have b3 : (((((w.alloc O0).alloc O1).alloc O2).alloc O3).alloc O4).heap[w.heap.size + 1 + 1 + 1]? = some O3 := box_later (by have := heap_alloc_new (((w.alloc O0).alloc O1).alloc O2) O3; rwa [World.size_alloc, World.size_alloc, World.size_alloc] at this) O4
    have b4 : (((((w.alloc O0).alloc O1).alloc O2).alloc O3).alloc O4).heap[w.heap.size + 1 + 1 + 1 + 1]? = some O4 := by have := heap_alloc_new ((((w.alloc O0).alloc O1).alloc O2).alloc O3) O4; rwa [World.size_alloc, World.size_alloc, World.size_alloc, World.size_alloc] at this
    have hbel : Below w.heap.size w (((((w.alloc O0).alloc O1).alloc O2).alloc O3).alloc O4) := (((((Below.refl _ _).alloc (Nat.le_refl _) _).alloc (by simp) _).alloc (by simp; omega) _).alloc (by simp; omega) _).alloc (by simp; omega) _
    have hsz : (((((w.alloc O0).alloc O1).alloc O2).alloc O3).alloc O4).heap.size = w.heap.size + 5 := by simp
    obtain ⟨W, hW⟩ : ∃ W, W = (((((w.alloc O0).alloc O1).alloc O2).alloc O3).alloc O4) := ⟨_, rfl⟩
    rw [← hW] at b1 b2 b3 b4 hbel hsz ⊢
    rw [h1] at b1
    rw [h2] at b2
    rw [h3] at b3
    rw [h4] at b4
    refine ⟨⟨fun t ht => ⟨w.heap.size + 3, 0, rfl, ?_⟩, fun t i ht hi => ?_, fun t ht => by unfold bufL; omega, by omega⟩, fun i hi => ⟨w.heap.size + 4, 0, rfl, ?_⟩, hbel, by omega⟩
    · match t, ht with
      | 0, _ => exact box_cell b3 rfl
      | 1, _ => exact box_cell b3 rfl
    · have hi4 : i < 4 := hi
      match t, ht with
      | 0, _ =>
        refine ⟨w.heap.size + 1, 0, rfl, ?_, ?_, ?_, ?_⟩
        · have := box_cell b1 (buf_cell (t := 0) (i := i) (q := 0) hi4 (by omega)); simpa using this
        · have := box_cell b1 (buf_cell (t := 0) (i := i) (q := 1) hi4 (by omega)); simpa using this
        · have := box_cell b1 (buf_cell (t := 0) (i := i) (q := 2) hi4 (by omega)); simpa using this
        · have := box_cell b1 (buf_cell (t := 0) (i := i) (q := 3) hi4 (by omega)); simpa using this
      | 1, _ =>
        refine ⟨w.heap.size + 1 + 1, 0, rfl, ?_, ?_, ?_, ?_⟩
        · have := box_cell b2 (buf_cell (t := 1) (i := i) (q := 0) hi4 (by omega)); simpa using this
        · have := box_cell b2 (buf_cell (t := 1) (i := i) (q := 1) hi4 (by omega)); simpa using this
        · have := box_cell b2 (buf_cell (t := 1) (i := i) (q := 2) hi4 (by omega)); simpa using this
        · have := box_cell b2 (buf_cell (t := 1) (i := i) (q := 3) hi4 (by omega)); simpa using this
    · match i, hi with
      | 0, _ => exact box_cell b4 rfl
      | 1, _ => exact box_cell b4 rfl
  go_enter Tryz.func6, Tryz.ntmps6
  go_wp2
  refine bodyPost_ret (v := prgV (some ⟨w.heap.size + 3, 0, none⟩) 2 2 (some ⟨w.heap.size + 4, 0, none⟩) 2 2 0 2) (by simp [results, Tryz.results6, go_sem]) rfl ⟨rfl, HF.out _⟩

theorem buf_chk : chk 2 bufL bufX 2 0 2 = (0, 0, 0) := by kernel_rfl
theorem buf_cok : COk 2 bufL bufX 2 0 2 := by
  obtain ⟨_, _, _, lk', rg', h1, h2, h3⟩ := chk_cok buf_chk rfl
  obtain rfl : lk' = 0 := by omega
  obtain rfl : rg' = 2 := by omega
  exact h3
end

end Go.Proofs.YtelckcpjmekgcadGreatDoor
