/-
  Numbers in the place of what is always the same: the runs come to the same.
-/
import Derived.Test.YtkailbdjilkneaaDoorSimP
import Derived.Test.YtkailbdjilkneaaDoorCheckA
namespace Go.Proofs.YtkailbdjilkneaaDoor
open Go.RowKit

theorem getD_setI {rs : List Int} {a q : Nat} {v : Int} (ha : a < rs.length) : (rs.set a v).getD q 0 = if q = a then v else rs.getD q 0 := by
  rw [List.getD_eq_getElem?_getD, List.getD_eq_getElem?_getD]
  by_cases e : q = a
  · subst e
    rw [List.getElem?_set_self ha, if_pos rfl]
    rfl
  · rw [List.getElem?_set_ne (fun x => e x.symm), if_neg e]
section
variable {X : Nat → Nat → Int} {l rg m0 lk : Nat} {e : Nat → Vl}
/-- What an order makes is what is known behind it. -/
theorem eff_sound {i : Nat} (ho : ordE rg m0 lk l (X i 0) (X i 1) (X i 2) (X i 3) = 0) {rs : List Int} (hlen : rs.length = rg) (he : ∀ r, r < rg → (Vl.num (rs.getD r 0)).le (e r)) {rd : Int → Int} {fr : Int → Bool} {m p : Nat} {r : List Int} {k : Ak} (h : effX (i + 1) rs rd fr m (X i 0) (X i 1) (X i 2) (X i 3) = some (p, r, k)) :
    p ∈ wyX X i e ∧ ∀ q, q < rg → (Vl.num (r.getD q 0)).le (bhV X i e q) := by
  obtain ⟨op, hop⟩ : ∃ x, X i 0 = x := ⟨_, rfl⟩
  obtain ⟨a, ha⟩ : ∃ x, X i 1 = x := ⟨_, rfl⟩
  obtain ⟨b, hb⟩ : ∃ x, X i 2 = x := ⟨_, rfl⟩
  obtain ⟨c, hc⟩ : ∃ x, X i 3 = x := ⟨_, rfl⟩
  have hw : wyX X i e = wyL op a b i (e a.toNat) := by unfold wyX; rw [hop, ha, hb]
  have hbh : ∀ q, bhV X i e q = if wrL op a b = (q : Int) then mkV op b c e else e q := fun q => by unfold bhV wrX; rw [hop, ha, hb, hc]
  rw [hop, ha, hb, hc] at h ho
  rw [hw]
  simp only [hbh]
  clear hw hbh hop ha hb hc
  -- a register is set
  have set1 : ∀ (x : Int) (v : Int), 0 ≤ x ∧ x < rg → wrL op a b = x → (Vl.num v).le (mkV op b c e) → ∀ q, q < rg → (Vl.num ((rs.set x.toNat v).getD q 0)).le (if wrL op a b = (q : Int) then mkV op b c e else e q) := fun x v hx hwx hv q hq => by
    rw [getD_setI (by omega), hwx]
    by_cases hq1 : q = x.toNat
    · rw [if_pos hq1, if_pos (by omega)]
      exact hv
    · rw [if_neg hq1, if_neg (by omega)]
      exact he q hq
  have same1 : wrL op a b = -1 → ∀ q, q < rg → (Vl.num (rs.getD q 0)).le (if wrL op a b = (q : Int) then mkV op b c e else e q) := fun hwx q hq => by
    rw [hwx, if_neg (by omega)]
    exact he q hq
  have any1 : ∀ v, mkV op b c e = .any → (Vl.num v).le (mkV op b c e) := fun v h => by rw [h]; exact Vl.le_any _
  have nx1 : op ≠ 14 → op ≠ 15 → i + 1 ∈ wyL op a b i (e a.toNat) := fun h1 h2 => by
    unfold wyL nxL
    rw [if_neg h2, if_neg h1, if_neg h2]
    simp
  have rk1 : 3 ≤ op ∧ op ≤ 7 → (Vl.num (rcI op (rs.getD b.toNat 0) (rs.getD c.toNat 0))).le (mkV op b c e) := fun h37 => by
    obtain ⟨_, h1, h2⟩ := ok_rrr (by omega) ho
    have h3 := rcV_mono (op := op) (he b.toNat (by omega)) (he c.toNat (by omega))
    unfold mkV
    rw [if_neg (by omega), if_neg (by omega), if_pos (by omega)]
    exact h3
  have hr := ok_op ho
  unfold effX at h
  rcases (by omega : op = 1 ∨ op = 2 ∨ op = 3 ∨ op = 4 ∨ op = 5 ∨ op = 6 ∨ op = 7 ∨ op = 8 ∨ op = 9 ∨ op = 10 ∨ op = 11 ∨ op = 12 ∨ op = 13 ∨ op = 14 ∨ op = 15 ∨ op = 16 ∨ op = 17 ∨ op = 18) with rfl | rfl | rfl | rfl | rfl | rfl | rfl | rfl | rfl | rfl | rfl | rfl | rfl | rfl | rfl | rfl | rfl | rfl
  all_goals simp only [Int.reduceEq, ↓reduceIte, Option.some.injEq, Prod.mk.injEq] at h
  · obtain ⟨rfl, rfl, _⟩ := h
    exact ⟨nx1 (by decide) (by decide), set1 a b (ok_const ho) rfl (by unfold mkV; rw [if_pos rfl]; exact Vl.le_refl _)⟩
  · obtain ⟨rfl, rfl, _⟩ := h
    have h1 := ok_rr (by omega) ho
    exact ⟨nx1 (by decide) (by decide), set1 a _ h1.1 rfl (by unfold mkV; rw [if_neg (by decide), if_pos rfl]; exact he _ (by omega))⟩
  · obtain ⟨rfl, rfl, _⟩ := h
    exact ⟨nx1 (by decide) (by decide), set1 a _ (ok_rrr (by omega) ho).1 rfl (rk1 (by omega))⟩
  · obtain ⟨rfl, rfl, _⟩ := h
    exact ⟨nx1 (by decide) (by decide), set1 a _ (ok_rrr (by omega) ho).1 rfl (rk1 (by omega))⟩
  · obtain ⟨rfl, rfl, _⟩ := h
    exact ⟨nx1 (by decide) (by decide), set1 a _ (ok_rrr (by omega) ho).1 rfl (rk1 (by omega))⟩
  · obtain ⟨rfl, rfl, _⟩ := h
    exact ⟨nx1 (by decide) (by decide), set1 a _ (ok_rrr (by omega) ho).1 rfl (rk1 (by omega))⟩
  · obtain ⟨rfl, rfl, _⟩ := h
    exact ⟨nx1 (by decide) (by decide), set1 a _ (ok_rrr (by omega) ho).1 rfl (rk1 (by omega))⟩
  · obtain ⟨rfl, rfl, _⟩ := h
    exact ⟨nx1 (by decide) (by decide), set1 a _ (ok_load ho).1 rfl (any1 _ rfl)⟩
  · obtain ⟨rfl, rfl, _⟩ := h
    exact ⟨nx1 (by decide) (by decide), same1 rfl⟩
  · split at h
    · cases h
    · simp only [Option.some.injEq, Prod.mk.injEq] at h
      obtain ⟨rfl, rfl, _⟩ := h
      exact ⟨nx1 (by decide) (by decide), set1 a _ (ok_rr (by omega) ho).1 rfl (any1 _ rfl)⟩
  · split at h
    · cases h
    · simp only [Option.some.injEq, Prod.mk.injEq] at h
      obtain ⟨rfl, rfl, _⟩ := h
      exact ⟨nx1 (by decide) (by decide), same1 rfl⟩
  · obtain ⟨rfl, rfl, _⟩ := h
    exact ⟨nx1 (by decide) (by decide), same1 rfl⟩
  · split at h
    all_goals simp only [Option.some.injEq, Prod.mk.injEq] at h
    all_goals obtain ⟨rfl, rfl, _⟩ := h
    all_goals exact ⟨nx1 (by decide) (by decide), set1 b _ (ok_cas ho).2.1 rfl (any1 _ rfl)⟩
  · obtain ⟨rfl, rfl, _⟩ := h
    refine ⟨?_, same1 rfl⟩
    show a.toNat ∈ wyL 14 a b i (e a.toNat)
    unfold wyL nxL
    simp
  · have hz := ok_zero ho
    have hea := he a.toNat (by omega)
    split at h
    all_goals simp only [Option.some.injEq, Prod.mk.injEq] at h
    all_goals obtain ⟨rfl, rfl, _⟩ := h
    · rename_i h0 _
      rw [h0] at hea
      refine ⟨?_, same1 rfl⟩
      unfold wyL
      rw [if_pos rfl]
      rcases Vl.num_le hea with h1 | h1
      · rw [h1]; simp
      · rw [h1]; simp
    · rename_i h0 _
      refine ⟨?_, same1 rfl⟩
      unfold wyL
      rw [if_pos rfl]
      rcases Vl.num_le hea with h1 | h1
      · rw [h1]; simp
      · rw [h1]; simp only; rw [if_neg h0]; simp
  · obtain ⟨rfl, rfl, _⟩ := h
    exact ⟨nx1 (by decide) (by decide), same1 rfl⟩
  · obtain ⟨rfl, rfl, _⟩ := h
    exact ⟨nx1 (by decide) (by decide), same1 rfl⟩
  · split at h
    · simp only [Option.some.injEq, Prod.mk.injEq] at h
      obtain ⟨rfl, rfl, _⟩ := h
      exact ⟨nx1 (by decide) (by decide), same1 rfl⟩
    · cases h
end
/-- Threads of the program and of the one with numbers, that stand together. -/
def QC (X : Nat → Nat → Nat → Int) (L : Nat → Nat) (rg : Nat) (E : Nat → Nat → Nat → Vl) (t i : Nat) (rs : List Int) (i' : Nat) (rs' : List Int) : Prop :=
  i ≤ L t ∧ i' = plR (bCon X E t) i ∧ rs' = rs ∧ ∀ r, r < rg → (Vl.num (rs.getD r 0)).le (E t i r)
theorem con_sim {n m lk rg : Nat} {L : Nat → Nat} {X : Nat → Nat → Nat → Int} (hc : COk n L X m lk rg) {E : Nat → Nat → Nat → Vl} (hE : ∀ t, t < n → LsV (X t) (L t) rg (E t)) :
    SimT n L X (lenR (bCon X E) L) (numR (bCon X E) L) rg (fun t i => (bCon X E t i).isEmpty) (fun t i => L t - i) (QC X L rg E) := by
  have hrg : 0 < rg := hc.rg0
  -- what an order makes stands with what its own one makes
  have hto : ∀ t i rs rd fr m' p r k, t < n → i < L t → rs.length = rg → (∀ q, q < rg → (Vl.num (rs.getD q 0)).le (E t i q)) → effX (i + 1) rs rd fr m' (X t i 0) (X t i 1) (X t i 2) (X t i 3) = some (p, r, k) → p ≤ L t ∧ ∀ q, q < rg → (Vl.num (r.getD q 0)).le (E t p q) := fun t i rs rd fr m' p r k ht hi hlen he h => by
    obtain ⟨h1, h2⟩ := eff_sound (X := X t) (hc.ord t i ht hi) hlen he h
    refine ⟨wy_le (hc.ord t · ht) hi h1, fun q hq => Vl.le_trans (h2 q hq) ((hE t ht).sol.s i 0 hi hrg (ne_of_le (he 0 hrg) (num_ne _)) p h1 q hq)⟩
  refine ⟨fun t ht => ⟨Nat.zero_le _, rfl, rfl, fun r hr => ?_⟩, fun t rs i' rs' ht hq => ?_, fun t i rs i' rs' ht hq hi hd => ?_, fun t i rs i' rs' ht hlen hq hi hd => ?_, fun t i rs i' rs' ht hq hi hd => ?_, fun t i rs i' rs' ht hlen hq hi hd rd fr m' => ?_⟩
  · have : (List.replicate rg (0 : Int)).getD r 0 = 0 := by simp [List.getD, hr]
    rw [this]
    exact (hE t ht).sol.z r hr
  · rw [hq.2.1]
    unfold lenR
    rw [code_len]
  · obtain ⟨x, hx⟩ : ∃ x, bCon X E t i = [x] := by
      have h1 := bConX_len (X t) i (E t i)
      have h2 : bCon X E t i ≠ [] := fun e => by simp [e] at hd
      exact List.length_eq_one_iff.1 (by have := List.length_pos_iff.2 h2; have : (bCon X E t i).length ≤ 1 := h1; omega)
    rw [hq.2.1]
    unfold lenR
    rw [code_len]
    exact pl_lt hi hx
  · have hb : bCon X E t i = [] := by simpa using hd
    have hg : E t i 0 ≠ .no := ne_of_le (hq.2.2.2 0 hrg) (num_ne _)
    rcases con_cases (X := X t) (i := i) hg with ⟨_, _, h1⟩ | ⟨h15, ⟨k, hv, hk⟩, h1⟩ | ⟨_, k, _, h1⟩ | ⟨h1, _⟩
    · have hb' : bConX (X t) i (E t i) = [] := hb
      rw [h1] at hb'; cases hb'
    · refine ⟨by rw [h15]; rfl, fun rd fr m' => ⟨i + 1, rs, ?_, ?_, by omega⟩⟩
      · have ho := hc.ord t i ht hi
        rw [h15] at ho
        have hz := (ok_zero ho).1
        have hea := hq.2.2.2 (X t i 1).toNat (by omega)
        rw [hv] at hea
        rcases Vl.num_le hea with h2 | h2
        · cases h2
        · simp only [Vl.num.injEq] at h2
          unfold effX
          rw [h15]
          simp only [Int.reduceEq, ↓reduceIte]
          rw [if_neg (by rw [← h2]; exact hk)]
      · have he : effX (i + 1) rs (fun _ => 0) (fun _ => false) 0 (X t i 0) (X t i 1) (X t i 2) (X t i 3) = some (i + 1, rs, .no) := by
          have ho := hc.ord t i ht hi
          rw [h15] at ho
          have hz := (ok_zero ho).1
          have hea := hq.2.2.2 (X t i 1).toNat (by omega)
          rw [hv] at hea
          rcases Vl.num_le hea with h2 | h2
          · cases h2
          · simp only [Vl.num.injEq] at h2
            unfold effX
            rw [h15]
            simp only [Int.reduceEq, ↓reduceIte]
            rw [if_neg (by rw [← h2]; exact hk)]
        obtain ⟨g1, g2⟩ := hto t i rs _ _ _ _ _ _ ht hi hlen hq.2.2.2 he
        exact ⟨g1, by rw [hq.2.1, pl_gone hb], hq.2.2.1, g2⟩
    · have hb' : bConX (X t) i (E t i) = [] := hb
      rw [h1] at hb'; cases hb'
    · have hb' : bConX (X t) i (E t i) = [] := hb
      rw [h1] at hb'; cases hb'
  · have hg : E t i 0 ≠ .no := ne_of_le (hq.2.2.2 0 hrg) (num_ne _)
    have hnum : ∀ q, numR (bCon X E) L t (plR (bCon X E t) i) q = X1 (bCon X E t) (L t) (plR (bCon X E t) i) q := fun _ => rfl
    rw [hq.2.1]
    rcases con_cases (X := X t) (i := i) hg with ⟨h15, _, h1⟩ | ⟨_, _, h1⟩ | ⟨h27, k, _, h1⟩ | ⟨h1, _⟩
    · have e0 := X1_at (l := L t) (b := bCon X E t) hi h1 0
      rw [hnum, e0, h15]
      exact ⟨rfl, fun h => by omega⟩
    · have hb' : bCon X E t i = [] := h1
      rw [hb'] at hd; cases hd
    · have e0 := X1_at (l := L t) (b := bCon X E t) hi h1 0
      rw [hnum, e0]
      refine ⟨?_, fun h => by omega⟩
      show abK 1 = _
      unfold abK
      rw [if_neg (by omega), if_neg (by omega), if_neg (by omega), if_neg (by omega), if_neg (by omega), if_neg (by omega)]
    · obtain ⟨e0, e1, _, _⟩ := same_X1 (X := X t) (l := L t) (b := bCon X E t) hi h1
      rw [hnum, hnum, e0, e1]
      exact ⟨rfl, fun h => by rw [if_neg (by omega)]⟩
  · have hg : E t i 0 ≠ .no := ne_of_le (hq.2.2.2 0 hrg) (num_ne _)
    have ho := hc.ord t i ht hi
    have hnum : ∀ q, numR (bCon X E) L t (plR (bCon X E t) i) q = X1 (bCon X E t) (L t) (plR (bCon X E t) i) q := fun _ => rfl
    have htt := hto t i rs rd fr m'
    rw [hq.2.1, hq.2.2.1]
    rcases con_cases (X := X t) (i := i) hg with ⟨h15, hv, h1⟩ | ⟨_, _, h1⟩ | ⟨h27, k, hv, h1⟩ | ⟨h1, _⟩
    · have e0 := X1_at (l := L t) (b := bCon X E t) hi h1 0
      have e1 := X1_at (l := L t) (b := bCon X E t) hi h1 1
      rw [hnum, hnum, hnum, hnum, e0, e1]
      have e0' : nth4 (ledO (plR (bCon X E t)) (14, X t i 2, 0, 0)) 0 = 14 := rfl
      have e1' : nth4 (ledO (plR (bCon X E t)) (14, X t i 2, 0, 0)) 1 = (plR (bCon X E t) (X t i 2).toNat : Int) := rfl
      rw [e0', e1']
      have hz : rs.getD (X t i 1).toNat 0 = 0 := by
        rw [h15] at ho
        have hz := (ok_zero ho).1
        have hea := hq.2.2.2 (X t i 1).toNat (by omega)
        rw [hv] at hea
        rcases Vl.num_le hea with h2 | h2
        · cases h2
        · simp only [Vl.num.injEq] at h2
          exact h2.symm
      have hX : effX (i + 1) rs rd fr m' (X t i 0) (X t i 1) (X t i 2) (X t i 3) = some ((X t i 2).toNat, rs, .no) := by
        unfold effX
        rw [h15]
        simp only [Int.reduceEq, ↓reduceIte]
        rw [if_pos hz]
      have hX2 : ∀ y z, effX (plR (bCon X E t) i + 1) rs rd fr m' 14 (plR (bCon X E t) (X t i 2).toNat : Int) y z = some (plR (bCon X E t) (X t i 2).toNat, rs, .no) := fun y z => by
        unfold effX
        simp
      rw [hX, hX2]
      obtain ⟨g1, g2⟩ := htt _ _ _ ht hi hlen hq.2.2.2 hX
      exact ⟨rfl, g1, rfl, rfl, g2⟩
    · have hb' : bCon X E t i = [] := h1
      rw [hb'] at hd; cases hd
    · have e0 := X1_at (l := L t) (b := bCon X E t) hi h1 0
      have e1 := X1_at (l := L t) (b := bCon X E t) hi h1 1
      have e2 := X1_at (l := L t) (b := bCon X E t) hi h1 2
      rw [hnum, hnum, hnum, hnum, e0, e1, e2]
      have e0' : nth4 (ledO (plR (bCon X E t)) (1, X t i 1, k, 0)) 0 = 1 := rfl
      have e1' : nth4 (ledO (plR (bCon X E t)) (1, X t i 1, k, 0)) 1 = X t i 1 := rfl
      have e2' : nth4 (ledO (plR (bCon X E t)) (1, X t i 1, k, 0)) 2 = k := rfl
      rw [e0', e1', e2']
      have hX2 : ∀ z, effX (plR (bCon X E t) i + 1) rs rd fr m' 1 (X t i 1) k z = some (plR (bCon X E t) i + 1, rs.set (X t i 1).toNat k, .no) := fun z => by
        unfold effX
        simp
      rw [hX2]
      cases hX : effX (i + 1) rs rd fr m' (X t i 0) (X t i 1) (X t i 2) (X t i 3) with
      | none =>
        exfalso
        unfold effX at hX
        rcases (by omega : X t i 0 = 2 ∨ X t i 0 = 3 ∨ X t i 0 = 4 ∨ X t i 0 = 5 ∨ X t i 0 = 6 ∨ X t i 0 = 7) with h2 | h2 | h2 | h2 | h2 | h2
        all_goals rw [h2] at hX
        all_goals simp at hX
      | some y =>
        obtain ⟨p, r, kk⟩ := y
        obtain ⟨h3, h4⟩ := eff_sound (X := X t) ho hlen hq.2.2.2 hX
        obtain ⟨g1, g2⟩ := htt _ _ _ ht hi hlen hq.2.2.2 hX
        have hreg : 0 ≤ X t i 1 ∧ X t i 1 < rg := by
          by_cases h2 : X t i 0 = 2
          · rw [h2] at ho
            exact (ok_rr (by omega) ho).1
          · exact (ok_rrr (by omega) ho).1
        have hval := h4 (X t i 1).toNat (by omega)
        have hbh : bhV (X t) i (E t i) (X t i 1).toNat = .num k := by
          unfold bhV wrX wrL
          rw [if_pos (by omega), hv]
        rw [hbh] at hval
        have hrk : r = rs.set (X t i 1).toNat k ∧ p = i + 1 ∧ kk = .no := by
          unfold effX at hX
          rcases (by omega : X t i 0 = 2 ∨ X t i 0 = 3 ∨ X t i 0 = 4 ∨ X t i 0 = 5 ∨ X t i 0 = 6 ∨ X t i 0 = 7) with h2 | h2 | h2 | h2 | h2 | h2
          all_goals rw [h2] at hX
          all_goals simp only [Int.reduceEq, ↓reduceIte, Option.some.injEq, Prod.mk.injEq] at hX
          all_goals obtain ⟨rfl, rfl, rfl⟩ := hX
          all_goals rw [getD_setI (by omega), if_pos rfl] at hval
          all_goals rcases Vl.num_le hval with h5 | h5
          all_goals first
            | (cases h5; done)
            | (simp only [Vl.num.injEq] at h5; exact ⟨by rw [h5], rfl, rfl⟩)
        obtain ⟨rfl, rfl, rfl⟩ := hrk
        exact ⟨rfl, g1, (pl_kept h1).symm, rfl, g2⟩
    · have hmv : MovO (plR (bCon X E t)) (X t i 0) (X t i 1) (X t i 2) (X t i 3) (numR (bCon X E) L t (plR (bCon X E t) i) 0) (numR (bCon X E) L t (plR (bCon X E t) i) 1) (numR (bCon X E) L t (plR (bCon X E t) i) 2) (numR (bCon X E) L t (plR (bCon X E t) i) 3) := by
        obtain ⟨e0, e1, e2, e3⟩ := same_X1 (X := X t) (l := L t) (b := bCon X E t) hi h1
        exact ⟨e0, e1, e2, e3⟩
      have hmm := eff_mov hmv (i + 1) rs rd fr m'
      rw [pl_kept (b := bCon X E t) h1] at hmm
      rw [hmm]
      cases hX : effX (i + 1) rs rd fr m' (X t i 0) (X t i 1) (X t i 2) (X t i 3) with
      | none => exact True.intro
      | some y =>
        obtain ⟨p, r, kk⟩ := y
        obtain ⟨g1, g2⟩ := htt _ _ _ ht hi hlen hq.2.2.2 hX
        exact ⟨rfl, g1, rfl, rfl, g2⟩

end Go.Proofs.YtkailbdjilkneaaDoor
