/-
  Orders anew, as plain functions: what each becomes, where it lies, that it may be; where something may wait.
  Words in place of locks: what orders become, as plain functions.
-/
import Derived.Test.YtefnmbnakphhfadGreatDoorFenQ
import Derived.Test.YtefnmbnakphhfadGreatDoorOrder
import Derived.Test.YtefnmbnakphhfadGreatDoorSpnP
namespace Go.Proofs.YtefnmbnakphhfadGreatDoor
section
open Go.RowKit

theorem led_mov (pl : Nat → Nat) (x : I4) : MovO pl x.1 x.2.1 x.2.2.1 x.2.2.2 (nth4 (ledO pl x) 0) (nth4 (ledO pl x) 1) (nth4 (ledO pl x) 2) (nth4 (ledO pl x) 3) := ⟨rfl, rfl, rfl, rfl⟩
/-- The new orders as numbers. -/
def lenR (b : Nat → Nat → List I4) (L : Nat → Nat) : Nat → Nat := fun t => (codeR (b t) (L t)).length
def numR (b : Nat → Nat → List I4) (L : Nat → Nat) : Nat → Nat → Nat → Int := fun t i q => nth4 ((codeR (b t) (L t)).getD i fenceI) q
def bFull (X : Nat → Nat → Nat → Int) : Nat → Nat → List I4 := fun t i => bWith (wtO (X t i 0)) (ordAt X t i)
theorem full_rel (n : Nat) (L : Nat → Nat) (X : Nat → Nat → Nat → Int) : FullR n L X (lenR (bFull X) L) (numR (bFull X) L) (fun t => plR (bFull X t)) := by
  have h1 : ∀ t i, 0 < (bFull X t i).length := fun t i => by unfold bFull bWith; split <;> simp
  have h2 : ∀ t i d, (bFull X t i).getD 0 d = ordAt X t i := fun t i d => by unfold bFull bWith; split <;> rfl
  have hlt : ∀ t i, i < L t → plR (bFull X t) i + (bFull X t i).length ≤ lenR (bFull X) L t := fun t i hi => by
    unfold lenR
    rw [code_len]
    exact pl_mono (b := bFull X t) (i := i + 1) (by omega)
  refine ⟨fun t _ => rfl, fun t _ => (code_len _).symm, fun t i _ hi => ?_, fun t i _ hi => ?_, fun t i _ hi hw => ?_, fun t i _ hi hw => ?_⟩
  · have := hlt t i hi
    have := h1 t i
    omega
  · have := code_at (b := bFull X t) (k := 0) (h1 t i) hi fenceI
    rw [h2, Nat.add_zero] at this
    unfold numR
    rw [this]
    exact led_mov _ (ordAt X t i)
  · show plR _ _ + _ = _
    unfold bFull bWith
    rw [hw]
    rfl
  · have hl : (bFull X t i).length = 2 := by unfold bFull bWith; rw [hw]; rfl
    refine ⟨?_, ?_, ?_⟩
    · show plR _ _ + _ = _
      rw [hl]
    · have := hlt t i hi
      omega
    · have := code_at (b := bFull X t) (k := 1) (by omega) hi fenceI
      unfold numR
      rw [this]
      unfold bFull bWith
      rw [hw]
      rfl
/-- New orders may be, where the old ones may. -/
theorem led_ok {rg m lk sz : Nat} {pl : Nat → Nat} {x : I4} (h : ordE rg m lk sz x.1 x.2.1 x.2.2.1 x.2.2.2 = 0) {sz' : Nat} (hp : ∀ a, a ≤ sz → pl a ≤ sz') : ordE rg m lk sz' (ledO pl x).1 (ledO pl x).2.1 (ledO pl x).2.2.1 (ledO pl x).2.2.2 = 0 := by
  obtain ⟨op, a, b, c⟩ := x
  show ordE rg m lk sz' op (if op = 14 then _ else _) (if op = 15 then _ else _) c = 0
  simp only at h
  have ho := ok_op h
  by_cases h14 : op = 14
  · subst h14
    have h1 := ok_three (op := 14) rfl h
    have h2 := okN_place h1.1
    have h3 := hp a.toNat (by omega)
    unfold ordE
    simp only [kd, Int.reduceEq, ↓reduceIte]
    have h4 : okN rg m lk sz' 4 (pl a.toNat : Int) = true := by
      unfold okN lim
      simp
      omega
    rw [h4]
    have h5 : okN rg m lk sz' 0 b = true := h1.2.1
    have h6 : okN rg m lk sz' 0 c = true := h1.2.2
    rw [h5, h6]
    rfl
  · by_cases h15 : op = 15
    · subst h15
      have h1 := ok_three (op := 15) rfl h
      have h2 := okN_place h1.2.1
      have h3 := hp b.toNat (by omega)
      unfold ordE
      simp only [kd, Int.reduceEq, ↓reduceIte]
      have h4 : okN rg m lk sz' 4 (pl b.toNat : Int) = true := by
        unfold okN lim
        simp
        omega
      rw [h4]
      have h5 : okN rg m lk sz' 1 a = true := h1.1
      have h6 : okN rg m lk sz' 0 c = true := h1.2.2
      rw [h5, h6]
      rfl
    · rw [if_neg h14, if_neg h15]
      rcases op_cases op with e | rfl | rfl | rfl | rfl | rfl | rfl | rfl | rfl | rfl | rfl | rfl | rfl | rfl | rfl | rfl | rfl | rfl | rfl
      · omega
      all_goals first
        | exact absurd rfl h14
        | exact absurd rfl h15
        | exact h
theorem new_ok {n m lk rg : Nat} {L : Nat → Nat} {X : Nat → Nat → Nat → Int} (hc : COk n L X m lk rg) (b : Nat → Nat → List I4) (hb : ∀ t i, t < n → i < L t → ∀ x, x ∈ b t i → x = ordAt X t i ∨ x = fenceI) : ∀ t i, t < n → i < lenR b L t → ordE rg m lk (lenR b L t) (numR b L t i 0) (numR b L t i 1) (numR b L t i 2) (numR b L t i 3) = 0 := by
  intro t j ht hj
  unfold lenR at hj
  rw [code_len] at hj
  obtain ⟨i, k, hi, hk, rfl⟩ := raw_find hj
  have h1 := code_at hk hi fenceI
  have hx : (b t i).getD k fenceI ∈ b t i := by
    rw [List.getD_eq_getElem?_getD, List.getElem?_eq_getElem hk]
    exact List.getElem_mem hk
  unfold numR
  rw [h1]
  refine led_ok (sz := L t) (x := (b t i).getD k fenceI) ?_ (fun a ha => by unfold lenR; rw [code_len]; exact pl_mono ha)
  rcases hb t i ht hi _ hx with e | e
  · rw [e]; exact hc.ord t i ht hi
  · rw [e]; rfl
/-- The first thread that is too long. -/
def longR (L : Nat → Nat) (t : Nat) : Option (Int × Int) := if 400 < L t then some (1, 0) else none
theorem bad_all {E : Nat → Int} : ∀ (f k : Nat), (∀ i, k ≤ i → i < k + f → E i = 0) → firstBad E f k = none
  | 0, _, _ => rfl
  | f + 1, k, h => by
    rw [firstBad, if_pos (h k (by omega) (by omega))]
    exact bad_all f (k + 1) (fun i h1 h2 => h i (by omega) (by omega))
theorem first_congr {R S : Nat → Option (Int × Int)} : ∀ (f k : Nat), (∀ i, k ≤ i → i < k + f → R i = S i) → firstThread R f k = firstThread S f k
  | 0, _, _ => rfl
  | f + 1, k, h => by
    rw [firstThread, firstThread, h k (by omega) (by omega)]
    rw [first_congr f (k + 1) (fun i h1 h2 => h i (by omega) (by omega))]
/-- All that can be wrong with new orders is that there are too many. -/
theorem new_chk {n m lk rg : Nat} {L : Nat → Nat} {X : Nat → Nat → Nat → Int} (hc : COk n L X m lk rg) (hn : 0 < n) (b : Nat → Nat → List I4) (hb : ∀ t i, t < n → i < L t → ∀ x, x ∈ b t i → x = ordAt X t i ∨ x = fenceI) : chk n (lenR b L) (numR b L) m lk rg = firstThread (longR (lenR b L)) n 0 := by
  have h0 : sizesE n m lk rg = 0 := by
    have h1 := hc.n4
    have h2 := hc.m64
    have h3 := hc.lk4
    have h4 := hc.rg0
    have h5 := hc.rg2
    unfold sizesE
    rw [if_neg (by omega), if_neg (by omega)]
  unfold chk
  rw [h0, if_neg (by simp)]
  refine first_congr n 0 fun t _ ht => ?_
  have htn : t < n := by omega
  unfold thr longR
  by_cases e : 400 < lenR b L t
  · rw [if_pos e, if_pos e]
  · rw [if_neg e, if_neg e]
    exact bad_all _ _ fun i _ hi => new_ok hc b hb t i htn (by omega)
theorem long_none {L : Nat → Nat} : ∀ (f k : Nat), (∀ i, k ≤ i → i < k + f → L i ≤ 400) → firstThread (longR L) f k = (0, 0, 0)
  | 0, _, _ => rfl
  | f + 1, k, h => by
    rw [firstThread]
    have : longR L k = none := by unfold longR; rw [if_neg (by have := h k (by omega) (by omega); omega)]
    rw [this]
    exact long_none f (k + 1) (fun i h1 h2 => h i (by omega) (by omega))
theorem long_cases {L : Nat → Nat} : ∀ (f k : Nat), (firstThread (longR L) f k = (0, 0, 0) ∧ ∀ i, k ≤ i → i < k + f → L i ≤ 400) ∨ ∃ t, k ≤ t ∧ t < k + f ∧ firstThread (longR L) f k = (1, (t : Int), 0) ∧ 400 < L t ∧ ∀ i, k ≤ i → i < t → L i ≤ 400
  | 0, k => Or.inl ⟨rfl, fun i h1 h2 => absurd h2 (by omega)⟩
  | f + 1, k => by
    by_cases e : 400 < L k
    · refine Or.inr ⟨k, by omega, by omega, ?_, e, fun i h1 h2 => absurd h2 (by omega)⟩
      rw [firstThread]
      unfold longR
      rw [if_pos e]
    · have hk : longR L k = none := by unfold longR; rw [if_neg e]
      rw [firstThread, hk]
      simp only
      rcases long_cases f (k + 1) with ⟨h1, h2⟩ | ⟨t, h1, h2, h3, h4, h5⟩
      · refine Or.inl ⟨h1, fun i h3 h4 => ?_⟩
        by_cases e2 : i = k
        · rw [e2]; omega
        · exact h2 i (by omega) (by omega)
      · refine Or.inr ⟨t, by omega, by omega, h3, h4, fun i h6 h7 => ?_⟩
        by_cases e2 : i = k
        · rw [e2]; omega
        · exact h5 i (by omega) h7
theorem new_cok {n m lk rg : Nat} {L : Nat → Nat} {X : Nat → Nat → Nat → Int} (hc : COk n L X m lk rg) (b : Nat → Nat → List I4) (hb : ∀ t i, t < n → i < L t → ∀ x, x ∈ b t i → x = ordAt X t i ∨ x = fenceI) (hl : ∀ t, t < n → lenR b L t ≤ 1000) : COk n (lenR b L) (numR b L) m lk rg := ⟨hc.n4, hl, hc.m64, hc.lk4, hc.rg0, hc.rg2, new_ok hc b hb⟩
theorem bFull_in (X : Nat → Nat → Nat → Int) (t i : Nat) (x : I4) (h : x ∈ bFull X t i) : x = ordAt X t i ∨ x = fenceI := by
  unfold bFull bWith at h
  split at h
  · simpa using h
  · exact Or.inl (by simpa using h)
end

section
open Go.RowKit

/-- What takes a lock. -/
def takeL (wd at' : Int) : List I4 := [(1, 6, 0, 0), (1, 7, 1, 0), (13, wd, 6, 7), (15, 6, at', 0)]
/-- What lets a lock free. -/
def giveL (wd : Int) : List I4 := [(1, 6, 0, 0), (9, wd, 6, 0)]
/-- What an order becomes. -/
def bSpin (m : Nat) (X : Nat → Nat → Nat → Int) : Nat → Nat → List I4 := fun t i =>
  if X t i 0 = 17 then takeL ((m : Int) + X t i 1) i else if X t i 0 = 18 then giveL ((m : Int) + X t i 1) else [ordAt X t i]
section
variable {m : Nat} {X : Nat → Nat → Nat → Int} {t i : Nat}
theorem spin_17 (h : X t i 0 = 17) : bSpin m X t i = takeL ((m : Int) + X t i 1) i := by unfold bSpin; rw [if_pos h]
theorem spin_18 (h : X t i 0 = 18) : bSpin m X t i = giveL ((m : Int) + X t i 1) := by unfold bSpin; rw [if_neg (by omega), if_pos h]
theorem spin_no (h : X t i 0 ≠ 17) (h' : X t i 0 ≠ 18) : bSpin m X t i = [ordAt X t i] := by unfold bSpin; rw [if_neg h, if_neg h']
theorem spin_len : (bSpin m X t i).length ≤ 4 ∧ 1 ≤ (bSpin m X t i).length := by
  unfold bSpin
  split
  · exact ⟨by simp [takeL], by simp [takeL]⟩
  · split
    · exact ⟨by simp [giveL], by simp [giveL]⟩
    · exact ⟨by simp, by simp⟩
end
theorem spin_pl (m : Nat) (X : Nat → Nat → Nat → Int) (t i : Nat) : plR (bSpin m X t) i ≤ 4 * i := by
  induction i with
  | zero => exact Nat.le_refl _
  | succ i ih =>
    rw [plR]
    have := (spin_len (m := m) (X := X) (t := t) (i := i)).1
    omega
theorem num_at {b : Nat → Nat → List I4} {L : Nat → Nat} {t i k : Nat} (hi : i < L t) (hk : k < (b t i).length) {x : I4} (hx : (b t i).getD k fenceI = x) : ordAt (numR b L) t (plR (b t) i + k) = ledO (plR (b t)) x := by
  have h := code_at hk hi fenceI
  rw [hx] at h
  unfold ordAt numR
  rw [h]
  rfl
theorem spin_rel (n m : Nat) (L : Nat → Nat) (X : Nat → Nat → Nat → Int) : SpinR n m L X (lenR (bSpin m X) L) (numR (bSpin m X) L) (fun t => plR (bSpin m X t)) := by
  have hlt : ∀ t i, i < L t → plR (bSpin m X t) i + (bSpin m X t i).length ≤ lenR (bSpin m X) L t := fun t i hi => by
    unfold lenR
    rw [code_len]
    exact pl_mono (b := bSpin m X t) (i := i + 1) (by omega)
  refine ⟨fun t _ => rfl, fun t _ => (code_len _).symm, fun t i _ hi => ?_, fun t i _ hi h17 h18 => ?_, fun t i _ hi h => ?_, fun t i _ hi h => ?_⟩
  · have := hlt t i hi
    have := (spin_len (m := m) (X := X) (t := t) (i := i)).2
    omega
  · have e := spin_no (m := m) h17 h18
    refine ⟨?_, ?_⟩
    · show plR _ _ + _ = _
      rw [e]
      rfl
    · have h1 := code_at (b := bSpin m X t) (i := i) (k := 0) (L := L t) (by rw [e]; simp) hi fenceI
      rw [e, Nat.add_zero] at h1
      unfold numR
      rw [h1]
      exact led_mov _ (ordAt X t i)
  · have e := spin_17 (m := m) h
    have hl : (bSpin m X t i).length = 4 := by rw [e]; rfl
    have h0 := hlt t i hi
    rw [hl] at h0
    refine ⟨by show plR _ _ + _ = _; rw [hl], h0, ?_, ?_, ?_, ?_⟩
    · exact num_at (k := 0) (x := (1, 6, 0, 0)) hi (by omega) (by rw [e]; rfl)
    · exact num_at (k := 1) (x := (1, 7, 1, 0)) hi (by omega) (by rw [e]; rfl)
    · exact num_at (k := 2) (x := (13, (m : Int) + X t i 1, 6, 7)) hi (by omega) (by rw [e]; rfl)
    · exact num_at (k := 3) (x := (15, 6, (i : Int), 0)) hi (by omega) (by rw [e]; rfl)
  · have e := spin_18 (m := m) h
    have hl : (bSpin m X t i).length = 2 := by rw [e]; rfl
    have h0 := hlt t i hi
    rw [hl] at h0
    refine ⟨by show plR _ _ + _ = _; rw [hl], h0, ?_, ?_⟩
    · exact num_at (k := 0) (x := (1, 6, 0, 0)) hi (by omega) (by rw [e]; rfl)
    · exact num_at (k := 1) (x := (9, (m : Int) + X t i 1, 6, 0)) hi (by omega) (by rw [e]; rfl)
/-- What orders become may be, with more words, no locks, and eight registers. -/
theorem spin_ord {m lk rg sz : Nat} {X : Nat → Nat → Nat → Int} {t i : Nat} (hg : rg ≤ 6) (hi : i ≤ sz) (h : ordE rg m lk sz (X t i 0) (X t i 1) (X t i 2) (X t i 3) = 0) {x : I4} (hx : x ∈ bSpin m X t i) : ordE (8 : Nat) ((m + lk : Nat) : Int) (0 : Nat) sz x.1 x.2.1 x.2.2.1 x.2.2.2 = 0 := by
  have k1 : ∀ a : Int, okN rg m lk sz 1 a = true → okN (8 : Nat) ((m + lk : Nat) : Int) (0 : Nat) sz 1 a = true := fun a ha => by
    have := okN_reg ha
    simp [okN, lim]
    omega
  have k2 : ∀ a : Int, okN rg m lk sz 2 a = true → okN (8 : Nat) ((m + lk : Nat) : Int) (0 : Nat) sz 2 a = true := fun a ha => by
    have := okN_word ha
    simp [okN, lim]
    omega
  have fin : ∀ {op a b c x y z : Int}, kd op = some (x, y, z) → okN (8 : Nat) ((m + lk : Nat) : Int) (0 : Nat) sz x a = true → okN (8 : Nat) ((m + lk : Nat) : Int) (0 : Nat) sz y b = true → okN (8 : Nat) ((m + lk : Nat) : Int) (0 : Nat) sz z c = true → ordE (8 : Nat) ((m + lk : Nat) : Int) (0 : Nat) sz op a b c = 0 := fun hk h1 h2 h3 => by
    unfold ordE
    rw [hk]
    simp only
    rw [h1, h2, h3]
    rfl
  by_cases h17 : X t i 0 = 17
  · rw [spin_17 h17] at hx
    rw [h17] at h
    have o := ok_lock (Or.inl rfl) h
    simp only [takeL, List.mem_cons, List.not_mem_nil, or_false] at hx
    rcases hx with rfl | rfl | rfl | rfl
    · exact fin (x := 1) (y := 5) (z := 0) rfl rfl rfl rfl
    · exact fin (x := 1) (y := 5) (z := 0) rfl rfl rfl rfl
    · refine fin (x := 2) (y := 1) (z := 1) rfl ?_ rfl rfl
      simp [okN, lim]
      omega
    · refine fin (x := 1) (y := 4) (z := 0) rfl rfl ?_ rfl
      simp [okN, lim]
      omega
  by_cases h18 : X t i 0 = 18
  · rw [spin_18 h18] at hx
    rw [h18] at h
    have o := ok_lock (Or.inr rfl) h
    simp only [giveL, List.mem_cons, List.not_mem_nil, or_false] at hx
    rcases hx with rfl | rfl
    · exact fin (x := 1) (y := 5) (z := 0) rfl rfl rfl rfl
    · refine fin (x := 2) (y := 1) (z := 0) rfl ?_ rfl rfl
      simp [okN, lim]
      omega
  rw [spin_no h17 h18] at hx
  have hx : x = ordAt X t i := by simpa using hx
  subst hx
  show ordE _ _ _ _ (X t i 0) (X t i 1) (X t i 2) (X t i 3) = 0
  obtain ⟨op, hop⟩ : ∃ o, X t i 0 = o := ⟨_, rfl⟩
  rw [hop] at h h17 h18 ⊢
  have ho := ok_op h
  rcases op_cases op with e | rfl | rfl | rfl | rfl | rfl | rfl | rfl | rfl | rfl | rfl | rfl | rfl | rfl | rfl | rfl | rfl | rfl | rfl
  · omega
  · have q := ok_three (op := 1) rfl h
    exact fin (x := 1) (y := 5) (z := 0) rfl (k1 _ q.1) q.2.1 q.2.2
  · have q := ok_three (op := 2) rfl h
    exact fin (x := 1) (y := 1) (z := 0) rfl (k1 _ q.1) (k1 _ q.2.1) q.2.2
  · have q := ok_three (op := 3) rfl h
    exact fin (x := 1) (y := 1) (z := 1) rfl (k1 _ q.1) (k1 _ q.2.1) (k1 _ q.2.2)
  · have q := ok_three (op := 4) rfl h
    exact fin (x := 1) (y := 1) (z := 1) rfl (k1 _ q.1) (k1 _ q.2.1) (k1 _ q.2.2)
  · have q := ok_three (op := 5) rfl h
    exact fin (x := 1) (y := 1) (z := 1) rfl (k1 _ q.1) (k1 _ q.2.1) (k1 _ q.2.2)
  · have q := ok_three (op := 6) rfl h
    exact fin (x := 1) (y := 1) (z := 1) rfl (k1 _ q.1) (k1 _ q.2.1) (k1 _ q.2.2)
  · have q := ok_three (op := 7) rfl h
    exact fin (x := 1) (y := 1) (z := 1) rfl (k1 _ q.1) (k1 _ q.2.1) (k1 _ q.2.2)
  · have q := ok_three (op := 8) rfl h
    exact fin (x := 1) (y := 2) (z := 0) rfl (k1 _ q.1) (k2 _ q.2.1) q.2.2
  · have q := ok_three (op := 9) rfl h
    exact fin (x := 2) (y := 1) (z := 0) rfl (k2 _ q.1) (k1 _ q.2.1) q.2.2
  · have q := ok_three (op := 10) rfl h
    exact fin (x := 1) (y := 1) (z := 0) rfl (k1 _ q.1) (k1 _ q.2.1) q.2.2
  · have q := ok_three (op := 11) rfl h
    exact fin (x := 1) (y := 1) (z := 0) rfl (k1 _ q.1) (k1 _ q.2.1) q.2.2
  · have q := ok_three (op := 12) rfl h
    exact fin (x := 0) (y := 0) (z := 0) rfl q.1 q.2.1 q.2.2
  · have q := ok_three (op := 13) rfl h
    exact fin (x := 2) (y := 1) (z := 1) rfl (k2 _ q.1) (k1 _ q.2.1) (k1 _ q.2.2)
  · have q := ok_three (op := 14) rfl h
    exact fin (x := 4) (y := 0) (z := 0) rfl q.1 q.2.1 q.2.2
  · have q := ok_three (op := 15) rfl h
    exact fin (x := 1) (y := 4) (z := 0) rfl (k1 _ q.1) q.2.1 q.2.2
  · have q := ok_three (op := 16) rfl h
    exact fin (x := 1) (y := 0) (z := 0) rfl (k1 _ q.1) q.2.1 q.2.2
  · exact absurd rfl h17
  · exact absurd rfl h18
theorem spin_ok {n m lk rg : Nat} {L : Nat → Nat} {X : Nat → Nat → Nat → Int} (hc : COk n L X m lk rg) (hg : rg ≤ 6) : ∀ t i, t < n → i < lenR (bSpin m X) L t → ordE (8 : Nat) ((m + lk : Nat) : Int) (0 : Nat) (lenR (bSpin m X) L t) (numR (bSpin m X) L t i 0) (numR (bSpin m X) L t i 1) (numR (bSpin m X) L t i 2) (numR (bSpin m X) L t i 3) = 0 := by
  intro t j ht hj
  unfold lenR at hj
  rw [code_len] at hj
  obtain ⟨i, k, hi, hk, rfl⟩ := raw_find hj
  have h1 := code_at hk hi fenceI
  have hx : (bSpin m X t i).getD k fenceI ∈ bSpin m X t i := by
    rw [List.getD_eq_getElem?_getD, List.getElem?_eq_getElem hk]
    exact List.getElem_mem hk
  unfold numR
  rw [h1]
  exact led_ok (sz := L t) (x := (bSpin m X t i).getD k fenceI) (spin_ord hg (by omega) (hc.ord t i ht hi) hx) (fun a ha => by unfold lenR; rw [code_len]; exact pl_mono ha)
/-- All that can be wrong with the new program is that a thread has too many orders. -/
theorem spin_chk {n m lk rg : Nat} {L : Nat → Nat} {X : Nat → Nat → Nat → Int} (hc : COk n L X m lk rg) (hn : 0 < n) (hg : rg ≤ 6) (hm : m + lk ≤ 64) : chk n (lenR (bSpin m X) L) (numR (bSpin m X) L) (m + lk) 0 8 = firstThread (longR (lenR (bSpin m X) L)) n 0 := by
  have h0 : sizesE n (m + lk) 0 8 = 0 := by
    have h1 := hc.n4
    unfold sizesE
    rw [if_neg (by omega), if_neg (by omega)]
  unfold chk
  rw [h0, if_neg (by simp)]
  refine first_congr n 0 fun t _ ht => ?_
  have htn : t < n := by omega
  unfold thr longR
  by_cases e : 400 < lenR (bSpin m X) L t
  · rw [if_pos e, if_pos e]
  · rw [if_neg e, if_neg e]
    exact bad_all _ _ fun i _ hi => spin_ok hc hg t i htn (by omega)
theorem spin_cok {n m lk rg : Nat} {L : Nat → Nat} {X : Nat → Nat → Nat → Int} (hc : COk n L X m lk rg) (hg : rg ≤ 6) (hm : m + lk ≤ 64) (hl : ∀ t, t < n → lenR (bSpin m X) L t ≤ 1000) : COk n (lenR (bSpin m X) L) (numR (bSpin m X) L) (m + lk) 0 8 := ⟨hc.n4, hl, hm, by omega, by omega, by omega, spin_ok hc hg⟩
/-- What orders become may be led on. -/
theorem spin_led {n m lk rg : Nat} {L : Nat → Nat} {X : Nat → Nat → Nat → Int} (hc : COk n L X m lk rg) (hg : rg ≤ 6) {t i : Nat} (ht : t < n) (hi : i < L t) {x : I4} (hx : x ∈ bSpin m X t i) : (1 ≤ x.1 ∧ x.1 ≤ 18) ∧ (x.1 = 14 → 0 ≤ x.2.1 ∧ x.2.1 ≤ L t) ∧ (x.1 = 15 → 0 ≤ x.2.2.1 ∧ x.2.2.1 ≤ L t) := by
  have h := spin_ord hg (Nat.le_of_lt hi) (hc.ord t i ht hi) hx
  obtain ⟨o, a, b, c⟩ := x
  refine ⟨ok_op h, fun e => ?_, fun e => ?_⟩
  · have e' : o = 14 := e
    subst e'
    exact ok_jump h
  · have e' : o = 15 := e
    subst e'
    exact (ok_zero h).2
end

end Go.Proofs.YtefnmbnakphhfadGreatDoor
