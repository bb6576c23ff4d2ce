/-
  Orders anew, as plain functions: what each becomes, where it lies, that it may be; where something may wait.
  Fences behind orders, by the program: put, Full.
  What the document's Ints does with two lists of the same numbers.
  A list of numbers that was made is one that can be read.
  States are found again by their sums: the last one of a sum, and the one ahead of it: plain functions.
-/
import Derived.Test.YtgofbkgfonlceacFenD
import Derived.Test.YtgofbkgfonlceacOrder
import Derived.Test.YtgofbkgfonlceacFRew
import Derived.Test.YtgofbkgfonlceacRead
import Derived.Test.YtgofbkgfonlceacRMoves
import Derived.Test.YtgofbkgfonlceacWorkP
namespace Go.Proofs.Ytgofbkgfonlceac
section
open Go.RowKit

theorem led_mov (pl : Nat → Nat) (x : I4) : MovO pl x.1 x.2.1 x.2.2.1 x.2.2.2 (nth4 (ledO pl x) 0) (nth4 (ledO pl x) 1) (nth4 (ledO pl x) 2) (nth4 (ledO pl x) 3) := ⟨rfl, rfl, rfl, rfl⟩
/-- The new orders as numbers. -/
def lenR (b : Nat → Nat → List I4) (L : Nat → Nat) : Nat → Nat := fun t => (codeR (b t) (L t)).length
def numR (b : Nat → Nat → List I4) (L : Nat → Nat) : Nat → Nat → Nat → Int := fun t i q => nth4 ((codeR (b t) (L t)).getD i fenceI) q
def bLess (D : Nat → Nat → Bool) (X : Nat → Nat → Nat → Int) : Nat → Nat → List I4 := fun t i => bDrop (D t i) (ordAt X t i)
theorem drop_rel (n : Nat) (L : Nat → Nat) (X : Nat → Nat → Nat → Int) (D : Nat → Nat → Bool) (M : Nat → Nat → Prop) (hD : ∀ t i, t < n → i < L t → D t i = true → X t i 0 = 12 ∧ ¬ M t i) : DropR n L X (lenR (bLess D X) L) (numR (bLess D X) L) (fun t => plR (bLess D X t)) D M := by
  have hl : ∀ t i, D t i = false → bLess D X t i = [ordAt X t i] := fun t i h => by unfold bLess bDrop; rw [h]; rfl
  refine ⟨fun t _ => rfl, fun t _ => (code_len _).symm, fun t i _ hi hd => ?_, fun t i _ hi hd => ?_, fun t i _ hi hd => ?_, fun t i ht hi hd => ⟨?_, hD t i ht hi hd⟩⟩
  · show plR _ _ < (codeR _ _).length
    rw [code_len]
    have := pl_mono (b := bLess D X t) (i := i + 1) (j := L t) (by omega)
    rw [plR, hl t i hd] at this
    simp only [List.length_cons, List.length_nil] at this
    omega
  · have := code_at (b := bLess D X t) (i := i) (k := 0) (by rw [hl t i hd]; simp) hi fenceI
    rw [hl t i hd, Nat.add_zero] at this
    unfold numR
    rw [this]
    exact led_mov _ (ordAt X t i)
  · show plR _ _ + _ = _
    rw [hl t i hd]
    rfl
  · show plR _ _ + _ = _
    unfold bLess bDrop
    rw [hd]
    rfl
/-- New orders may be, where the old ones may. -/
theorem led_ok {rg m lk sz : Nat} {pl : Nat → Nat} {x : I4} (h : ordE rg m lk sz x.1 x.2.1 x.2.2.1 x.2.2.2 = 0) {sz' : Nat} (hp : ∀ a, a ≤ sz → pl a ≤ sz') : ordE rg m lk sz' (ledO pl x).1 (ledO pl x).2.1 (ledO pl x).2.2.1 (ledO pl x).2.2.2 = 0 := by
  obtain ⟨op, a, b, c⟩ := x
  show ordE rg m lk sz' op (if op = 14 then _ else _) (if op = 15 then _ else _) c = 0
  simp only at h
  have ho := ok_op h
  by_cases h14 : op = 14
  · subst h14
    have h1 := ok_three (op := 14) rfl h
    have h2 := okN_place h1.1
    have h3 := hp a.toNat (by omega)
    unfold ordE
    simp only [kd, Int.reduceEq, ↓reduceIte]
    have h4 : okN rg m lk sz' 4 (pl a.toNat : Int) = true := by
      unfold okN lim
      simp
      omega
    rw [h4]
    have h5 : okN rg m lk sz' 0 b = true := h1.2.1
    have h6 : okN rg m lk sz' 0 c = true := h1.2.2
    rw [h5, h6]
    rfl
  · by_cases h15 : op = 15
    · subst h15
      have h1 := ok_three (op := 15) rfl h
      have h2 := okN_place h1.2.1
      have h3 := hp b.toNat (by omega)
      unfold ordE
      simp only [kd, Int.reduceEq, ↓reduceIte]
      have h4 : okN rg m lk sz' 4 (pl b.toNat : Int) = true := by
        unfold okN lim
        simp
        omega
      rw [h4]
      have h5 : okN rg m lk sz' 1 a = true := h1.1
      have h6 : okN rg m lk sz' 0 c = true := h1.2.2
      rw [h5, h6]
      rfl
    · rw [if_neg h14, if_neg h15]
      rcases op_cases op with e | rfl | rfl | rfl | rfl | rfl | rfl | rfl | rfl | rfl | rfl | rfl | rfl | rfl | rfl | rfl | rfl | rfl | rfl
      · omega
      all_goals first
        | exact absurd rfl h14
        | exact absurd rfl h15
        | exact h
theorem new_ok {n m lk rg : Nat} {L : Nat → Nat} {X : Nat → Nat → Nat → Int} (hc : COk n L X m lk rg) (b : Nat → Nat → List I4) (hb : ∀ t i, t < n → i < L t → ∀ x, x ∈ b t i → x = ordAt X t i ∨ x = fenceI) : ∀ t i, t < n → i < lenR b L t → ordE rg m lk (lenR b L t) (numR b L t i 0) (numR b L t i 1) (numR b L t i 2) (numR b L t i 3) = 0 := by
  intro t j ht hj
  unfold lenR at hj
  rw [code_len] at hj
  obtain ⟨i, k, hi, hk, rfl⟩ := raw_find hj
  have h1 := code_at hk hi fenceI
  have hx : (b t i).getD k fenceI ∈ b t i := by
    rw [List.getD_eq_getElem?_getD, List.getElem?_eq_getElem hk]
    exact List.getElem_mem hk
  unfold numR
  rw [h1]
  refine led_ok (sz := L t) (x := (b t i).getD k fenceI) ?_ (fun a ha => by unfold lenR; rw [code_len]; exact pl_mono ha)
  rcases hb t i ht hi _ hx with e | e
  · rw [e]; exact hc.ord t i ht hi
  · rw [e]; rfl
/-- The first thread that is too long. -/
def longR (L : Nat → Nat) (t : Nat) : Option (Int × Int) := if 400 < L t then some (1, 0) else none
theorem bad_all {E : Nat → Int} : ∀ (f k : Nat), (∀ i, k ≤ i → i < k + f → E i = 0) → firstBad E f k = none
  | 0, _, _ => rfl
  | f + 1, k, h => by
    rw [firstBad, if_pos (h k (by omega) (by omega))]
    exact bad_all f (k + 1) (fun i h1 h2 => h i (by omega) (by omega))
theorem first_congr {R S : Nat → Option (Int × Int)} : ∀ (f k : Nat), (∀ i, k ≤ i → i < k + f → R i = S i) → firstThread R f k = firstThread S f k
  | 0, _, _ => rfl
  | f + 1, k, h => by
    rw [firstThread, firstThread, h k (by omega) (by omega)]
    rw [first_congr f (k + 1) (fun i h1 h2 => h i (by omega) (by omega))]
/-- All that can be wrong with new orders is that there are too many. -/
theorem new_chk {n m lk rg : Nat} {L : Nat → Nat} {X : Nat → Nat → Nat → Int} (hc : COk n L X m lk rg) (hn : 0 < n) (b : Nat → Nat → List I4) (hb : ∀ t i, t < n → i < L t → ∀ x, x ∈ b t i → x = ordAt X t i ∨ x = fenceI) : chk n (lenR b L) (numR b L) m lk rg = firstThread (longR (lenR b L)) n 0 := by
  have h0 : sizesE n m lk rg = 0 := by
    have h1 := hc.n4
    have h2 := hc.m64
    have h3 := hc.lk4
    have h4 := hc.rg0
    have h5 := hc.rg2
    unfold sizesE
    rw [if_neg (by omega), if_neg (by omega)]
  unfold chk
  rw [h0, if_neg (by simp)]
  refine first_congr n 0 fun t _ ht => ?_
  have htn : t < n := by omega
  unfold thr longR
  by_cases e : 400 < lenR b L t
  · rw [if_pos e, if_pos e]
  · rw [if_neg e, if_neg e]
    exact bad_all _ _ fun i _ hi => new_ok hc b hb t i htn (by omega)
theorem long_none {L : Nat → Nat} : ∀ (f k : Nat), (∀ i, k ≤ i → i < k + f → L i ≤ 400) → firstThread (longR L) f k = (0, 0, 0)
  | 0, _, _ => rfl
  | f + 1, k, h => by
    rw [firstThread]
    have : longR L k = none := by unfold longR; rw [if_neg (by have := h k (by omega) (by omega); omega)]
    rw [this]
    exact long_none f (k + 1) (fun i h1 h2 => h i (by omega) (by omega))
theorem new_cok {n m lk rg : Nat} {L : Nat → Nat} {X : Nat → Nat → Nat → Int} (hc : COk n L X m lk rg) (b : Nat → Nat → List I4) (hb : ∀ t i, t < n → i < L t → ∀ x, x ∈ b t i → x = ordAt X t i ∨ x = fenceI) (hl : ∀ t, t < n → lenR b L t ≤ 400) : COk n (lenR b L) (numR b L) m lk rg := ⟨hc.n4, hl, hc.m64, hc.lk4, hc.rg0, hc.rg2, new_ok hc b hb⟩
theorem bLess_in (D : Nat → Nat → Bool) (X : Nat → Nat → Nat → Int) (t i : Nat) (x : I4) (h : x ∈ bLess D X t i) : x = ordAt X t i ∨ x = fenceI := by
  unfold bLess bDrop at h
  split at h
  · cases h
  · exact Or.inl (by simpa using h)
theorem less_len (D : Nat → Nat → Bool) (X : Nat → Nat → Nat → Int) (L : Nat → Nat) (t : Nat) : lenR (bLess D X) L t ≤ L t := by
  unfold lenR
  rw [code_len]
  have : ∀ i, plR (bLess D X t) i ≤ i := fun i => by
    induction i with
    | zero => exact Nat.le_refl _
    | succ i ih =>
      rw [plR]
      have : (bLess D X t i).length ≤ 1 := by unfold bLess bDrop; split <;> simp
      omega
  exact this _
/-- Spots: where a thread can stand, and whether something may wait there. -/
inductive Way (L : Nat) (X : Nat → Nat → Int) : Nat → Bool → Prop
  | base : Way L X 0 false
  | step {i j : Nat} {w : Bool} : Way L X i w → i < L → j ∈ nextO (X i 0) (X i 1) (X i 2) i → Way L X j (wtO (X i 0) || (w && !awO (X i 0)))
theorem way_rel (n : Nat) (L : Nat → Nat) (X : Nat → Nat → Nat → Int) : WayR n L X (fun t i => ∃ w, Way (L t) (X t) i w) (fun t i => Way (L t) (X t) i true) := by
  refine ⟨fun t _ => ⟨false, .base⟩, fun t i j _ hi ⟨w, hw⟩ hj => ⟨_, hw.step hi hj⟩, fun t i j _ hi ⟨w, hw⟩ hj h => ?_⟩
  rcases h with h | ⟨h1, h2⟩
  · have := hw.step hi hj
    rw [h] at this
    exact this
  · have := h1.step hi hj
    rw [h2] at this
    simpa using this
theorem way_le {L : Nat} {X : Nat → Nat → Int} {m lk rg : Nat} (h : ∀ i, i < L → ordE rg m lk L (X i 0) (X i 1) (X i 2) (X i 3) = 0) {i : Nat} {w : Bool} (hw : Way L X i w) : i ≤ L := by

  induction hw with
  | base => exact Nat.zero_le _
  | @step i j w _ hi hj ih =>
    have ho := h i hi
    unfold nextO at hj
    by_cases e14 : X i 0 = 14
    · rw [if_pos e14] at hj
      rw [e14] at ho
      have := ok_jump ho
      rw [List.mem_singleton.mp hj]
      omega
    · rw [if_neg e14] at hj
      by_cases e15 : X i 0 = 15
      · rw [if_pos e15] at hj
        rw [e15] at ho
        have := (ok_zero ho).2
        simp only [List.mem_cons, List.not_mem_nil, or_false] at hj
        rcases hj with e | e
        · omega
        · rw [e]; omega
      · rw [if_neg e15] at hj
        rw [List.mem_singleton.mp hj]
        omega
end

section
open Go.RowKit

/-- Orders that were made, as a program's. -/
theorem new_pin {w : World} {B : Nat} {b : Nat → Nat → List I4} {L : Nat → Nat} {n : Nat} {cv : Value} {tv : List Value} (hc : w.ownsRow B 47 1 cv n tv) (ht : ∀ t, t < n → OwnC w B (tv.getD t nilV) (codeR (b t) (L t))) (hn : n ≤ 1000) (hl : ∀ t, t < n → lenR b L t ≤ 1000000) :
    ∃ ca cc A C, cv = .slice ca n cc ∧ PIn w ca n A (lenR b L) C (numR b L) := by
  obtain ⟨ca, cc, rfl⟩ := fam_form hc
  have htl : tv.length = n := by have := hc.1; omega
  have hf : ∀ t, ∃ a c, t < n → tv.getD t nilV = .slice a (lenR b L t) c := fun t => by
    by_cases h : t < n
    · obtain ⟨a, c, e⟩ := fam_form (ht t h)
      exact ⟨a, c, fun _ => e⟩
    · exact ⟨none, 0, fun h' => absurd h' h⟩
  refine ⟨ca, cc, fun t => (hf t).choose, fun t => (hf t).choose_spec.choose, rfl, ⟨fun t h => ?_, fun t i h hi => ?_, fun t h => by have := hl t h; omega, by omega⟩⟩
  · obtain ⟨g, cap, e, hg, _⟩ := fam_block hc (by omega)
    simp only [Value.slice.injEq] at e
    refine ⟨g, 0, e.1, ?_⟩
    have e2 := (hf t).choose_spec.choose_spec h
    have e3 : tv[t]? = some (tv.getD t nilV) := by simp [List.getD, show t < tv.length by omega]
    rw [e2] at e3
    rw [Nat.zero_add]
    exact fam_cell hc hg e3
  · have h1 := ht t h
    have e2 := (hf t).choose_spec.choose_spec h
    rw [e2] at h1
    obtain ⟨g, cap, e, hg, _⟩ := fam_block h1 (Nat.lt_of_le_of_lt (Nat.zero_le _) hi)
    simp only [Value.slice.injEq] at e
    obtain ⟨y0, y1, y2, y3⟩ := cellsT_at (l := codeR (b t) (L t)) hi fenceI
    refine ⟨g, 0, e.1, ?_, ?_, ?_, ?_⟩
    · rw [Nat.zero_add]; exact fam_cell h1 hg y0
    · rw [Nat.zero_add]; exact fam_cell h1 hg y1
    · rw [Nat.zero_add]; exact fam_cell h1 hg y2
    · rw [Nat.zero_add]; exact fam_cell h1 hg y3
/-- What orders become may be led on. -/
theorem new_led {n m lk rg : Nat} {L : Nat → Nat} {X : Nat → Nat → Nat → Int} (hc : COk n L X m lk rg) {t i : Nat} (ht : t < n) (hi : i < L t) {x : I4} (hx : x = ordAt X t i ∨ x = fenceI) : (1 ≤ x.1 ∧ x.1 ≤ 18) ∧ (x.1 = 14 → 0 ≤ x.2.1 ∧ x.2.1 ≤ L t) ∧ (x.1 = 15 → 0 ≤ x.2.2.1 ∧ x.2.2.1 ≤ L t) := by
  have h := hc.ord t i ht hi
  rcases hx with rfl | rfl
  · refine ⟨ok_op h, fun e => ?_, fun e => ?_⟩
    · have e' : X t i 0 = 14 := e
      rw [e'] at h
      exact ok_jump h
    · have e' : X t i 0 = 15 := e
      rw [e'] at h
      exact (ok_zero h).2
  · refine ⟨by decide, fun e => ?_, fun e => ?_⟩
    · exact absurd e (by decide)
    · exact absurd e (by decide)
/-- What a rewritten program is. -/
def NewQ (w : World) (n : Nat) (words : List Int) (lk rg : Int) (b : Nat → Nat → List I4) (L : Nat → Nat) (e : Ending) (w' : World) : Prop := ∃ (va : Option Addr) (vc : Nat) (ua : Option Addr) (uc : Nat) (tv : List Value), e = .returned (.agg #[.slice va n vc, .slice ua words.length uc, .int .i64 lk, .int .i64 rg]) ∧ w'.ownsRow w.heap.size 47 1 (.slice va n vc) n tv ∧ (∀ t, t < n → OwnC w' w.heap.size (tv.getD t nilV) (codeR (b t) (L t))) ∧ w'.ownsRow w.heap.size 3 1 (.slice ua words.length uc) words.length (intsV words) ∧ Below w.heap.size w w'
theorem NewQ.below {w V V' : World} {n : Nat} {words : List Int} {lk rg : Int} {b : Nat → Nat → List I4} {L : Nat → Nat} {e : Ending} (h : NewQ w n words lk rg b L e V) (hb : Below V.heap.size V V') : NewQ w n words lk rg b L e V' := by
  obtain ⟨va, vc, ua, uc, tv, h0, h1, h2, h3, h4⟩ := h
  exact ⟨va, vc, ua, uc, tv, h0, owns_below2 h1 hb, fun t ht => (h2 t ht).below hb, owns_below2 h3 hb, h4.trans (hb.mono h4.size)⟩
/-- Stores below it change nothing. -/
theorem NewQ.far {w U V V' : World} {n : Nat} {words : List Int} {lk rg : Int} {b : Nat → Nat → List I4} {L : Nat → Nat} {e : Ending} (h : NewQ U n words lk rg b L e V) (hk : ∀ g, U.heap.size ≤ g → g < V.heap.size → V'.heap[g]? = V.heap[g]?) (hw : w.heap.size ≤ U.heap.size) (hb : Below w.heap.size w V') : NewQ w n words lk rg b L e V' := by
  obtain ⟨va, vc, ua, uc, tv, h0, h1, h2, h3, h4⟩ := h
  exact ⟨va, vc, ua, uc, tv, h0, own_low (fam_keeps h1 fun g hg => hk g (h1.lt g hg).1 (h1.lt g hg).2) hw, fun t ht => own_low (fam_keeps (h2 t ht) fun g hg => hk g ((h2 t ht).lt g hg).1 ((h2 t ht).lt g hg).2) hw, own_low (fam_keeps h3 fun g hg => hk g (h3.lt g hg).1 (h3.lt g hg).2) hw, hb⟩
end

section
open Go.RowKit

/-- A list of numbers lies in w. -/
def IIn (w : World) (a : Option Addr) (n : Nat) (X : Nat → Int) : Prop := ∀ i, i < n → ∃ b o, a = some ⟨b, o, none⟩ ∧ w.cell? ⟨b, o + i, none⟩ = some (.int .i64 (X i))
theorem IIn.below {w w' : World} {a : Option Addr} {n : Nat} {X : Nat → Int} (h : IIn w a n X) (hb : Below w.heap.size w w') : IIn w' a n X := fun i hi => by
  obtain ⟨b, o, hc, h1⟩ := h i hi
  exact ⟨b, o, hc, (hb.cell (lt_of_cell h1)).trans h1⟩
end

section
open Go.RowKit

theorem IsI.iin {w : World} {B : Nat} {a : Option Addr} {len c : Nat} {xs : List Int} (h : IsI w B a len c xs) : IIn w a len (fun i => xs.getD i 0) := fun i hi => by
  obtain ⟨g, cap, h1, h2, _, _⟩ := fam_block h.own (by omega)
  simp only [Value.slice.injEq] at h1
  exact ⟨g, 0, h1.1, by simpa using fam_cell h.own h2 (intsV_at (by rw [h.is]; exact hi))⟩
end

section
open Go.RowKit

/-- The last of the first n whose sum is h; -1: none. -/
def lastS (f : Nat → Nat) (h : Nat) : Nat → Int
  | 0 => -1
  | n + 1 => if f n = h then (n : Int) else lastS f h n
section
variable {f : Nat → Nat} {h : Nat}
theorem last_lt : ∀ n, lastS f h n < n
  | 0 => by show (-1 : Int) < _; omega
  | n + 1 => by
    unfold lastS
    split
    · omega
    · have := last_lt n; omega
theorem last_low : ∀ n, -1 ≤ lastS f h n
  | 0 => by show (-1 : Int) ≤ -1; omega
  | n + 1 => by
    unfold lastS
    split
    · omega
    · exact last_low n
/-- The last one is of the sum, and none behind it is. -/
theorem last_is : ∀ n i, lastS f h n = (i : Nat) → f i = h ∧ ∀ j, i < j → j < n → f j ≠ h
  | 0, i, e => by
    have : (-1 : Int) = (i : Nat) := e
    omega
  | n + 1, i, e => by
    unfold lastS at e
    by_cases hn : f n = h
    · rw [if_pos hn] at e
      obtain rfl : n = i := by omega
      exact ⟨hn, fun j h1 h2 => by omega⟩
    · rw [if_neg hn] at e
      obtain ⟨h1, h2⟩ := last_is n i e
      refine ⟨h1, fun j h3 h4 => ?_⟩
      rcases Nat.lt_or_ge j n with h5 | h5
      · exact h2 j h3 h5
      · obtain rfl : j = n := by omega
        exact hn
theorem last_none : ∀ n, lastS f h n < 0 → ∀ j, j < n → f j ≠ h
  | 0, _, j, hj => absurd hj (Nat.not_lt_zero _)
  | n + 1, e, j, hj => by
    unfold lastS at e
    by_cases hn : f n = h
    · rw [if_pos hn] at e; omega
    · rw [if_neg hn] at e
      rcases Nat.lt_or_ge j n with h5 | h5
      · exact last_none n e j h5
      · obtain rfl : j = n := by omega
        exact hn
theorem last_congr {g : Nat → Nat} : ∀ n, (∀ i, i < n → g i = f i) → lastS g h n = lastS f h n
  | 0, _ => rfl
  | n + 1, e => by
    unfold lastS
    rw [e n (by omega), last_congr n (fun i hi => e i (by omega))]
end
end

end Go.Proofs.Ytgofbkgfonlceac
