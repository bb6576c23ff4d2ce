/-
  Constants are found just once: a second time nothing changes.
-/
import Derived.Test.YtkailbdjilkneaaDoorOptI
namespace Go.Proofs.YtkailbdjilkneaaDoor
open Go.RowKit

theorem mk_const {rg m lk sz a n : Int} (h : 0 ≤ a ∧ a < rg) : ordE rg m lk sz 1 a n 0 = 0 := by
  unfold ordE
  simp only [kd, ↓reduceIte]
  have h1 : okN rg m lk sz 1 a = true := by unfold okN lim; simp [h.1, h.2]
  have h2 : okN rg m lk sz 5 n = true := rfl
  have h3 : okN rg m lk sz 0 0 = true := rfl
  rw [h1, h2, h3]
  rfl
theorem mk_jump {rg m lk sz a : Int} (h : 0 ≤ a ∧ a ≤ sz) : ordE rg m lk sz 14 a 0 0 = 0 := by
  unfold ordE
  simp only [kd, Int.reduceEq, ↓reduceIte]
  have h1 : okN rg m lk sz 4 a = true := by unfold okN lim; simp; omega
  have h3 : okN rg m lk sz 0 0 = true := rfl
  rw [h1, h3]
  rfl
/-- What an order becomes may be. -/
theorem bCon_ok {rg m lk sz : Nat} {X : Nat → Nat → Int} {i : Nat} {e : Nat → Vl} (ho : ordE rg m lk sz (X i 0) (X i 1) (X i 2) (X i 3) = 0) : ∀ x, x ∈ bConX X i e → ordE rg m lk sz x.1 x.2.1 x.2.2.1 x.2.2.2 = 0 := fun x hx => by
  by_cases hg : e 0 = .no
  · unfold bConX at hx
    rw [if_pos hg] at hx
    cases hx
  · rcases con_cases (X := X) (i := i) hg with ⟨h15, _, h1⟩ | ⟨_, _, h1⟩ | ⟨h27, n, _, h1⟩ | ⟨h1, _⟩
    · rw [h1, List.mem_singleton] at hx
      subst hx
      rw [h15] at ho
      exact mk_jump (ok_zero ho).2
    · rw [h1] at hx
      cases hx
    · rw [h1, List.mem_singleton] at hx
      subst hx
      refine mk_const ?_
      by_cases h2 : X i 0 = 2
      · rw [h2] at ho
        exact (ok_rr (by omega) ho).1
      · exact (ok_rrr (by omega) ho).1
    · rw [h1, List.mem_singleton] at hx
      subst hx
      exact ho
section
variable {X : Nat → Nat → Int} {l rg m lk : Nat} {E E1 : Nat → Nat → Vl} {b : Nat → List I4}
theorem X1_ok (hok : ∀ i, i < l → ordE rg m lk l (X i 0) (X i 1) (X i 2) (X i 3) = 0) (hb : ∀ i, i < l → b i = bConX X i (E i)) : ∀ i, i < plR b l → ordE rg m lk (plR b l) (X1 b l i 0) (X1 b l i 1) (X1 b l i 2) (X1 b l i 3) = 0 := fun i' hi' => by
  obtain ⟨i, k, hi, hk, rfl⟩ := raw_find hi'
  have h1 := code_at hk hi fenceI
  have hx : (b i).getD k fenceI ∈ b i := by
    rw [List.getD_eq_getElem?_getD, List.getElem?_eq_getElem hk]
    exact List.getElem_mem hk
  rw [hb i hi] at hx
  have h2 := led_ok (sz := l) (pl := plR b) (sz' := plR b l) (bCon_ok (hok i hi) _ hx) (fun a ha => pl_mono ha)
  unfold X1
  rw [h1, hb i hi]
  exact h2
/-- What is known of the orders that were made holds of those that they came of. -/
theorem down_sol (h : LsV X l rg E) (h1 : SolV (X1 b l) (plR b l) rg E1) (hok : ∀ i, i < l → ordE rg m lk l (X i 0) (X i 1) (X i 2) (X i 3) = 0) (hrg : 0 < rg) (hb : ∀ i, i < l → b i = bConX X i (E i)) : SolV X l rg (fun i r => (E i r).glb (E1 (plR b i) r)) := by
  have hs := h.sol
  refine ⟨fun r hr => Vl.le_glb (hs.z r hr) (h1.z r hr), fun i s hi hsr hne j hj r hr => ?_⟩
  have hgE : E i s ≠ .no := ne_of_le (Vl.glb_l _ _) hne
  have hg1 : E1 (plR b i) s ≠ .no := ne_of_le (Vl.glb_r _ _) hne
  have hg := h.there hok (by omega) hsr hgE 0 hrg
  have hleE : ∀ q, q < rg → ((E i q).glb (E1 (plR b i) q)).le (E i q) := fun q _ => Vl.glb_l _ _
  have hle1 : ∀ q, q < rg → ((E i q).glb (E1 (plR b i) q)).le (E1 (plR b i) q) := fun q _ => Vl.glb_r _ _
  have hjE : j ∈ wyX X i (E i) := wy_reg hok hi hleE hj
  have hbE : (bhV X i (fun r => (E i r).glb (E1 (plR b i) r)) r).le (bhV X i (E i) r) := bhV_mono hok hi hleE hr
  refine Vl.le_glb (Vl.le_trans hbE (hs.s i s hi hsr hgE j hjE r hr)) ?_
  have hbi := hb i hi
  rcases con_cases (X := X) (i := i) hg with ⟨h15, hv, hc⟩ | ⟨h15, ⟨n, hv, hn⟩, hc⟩ | ⟨h27, n, hv, hc⟩ | ⟨hc, _⟩
  · have hb1 := hbi.trans hc
    have w0 : wyX X i (E i) = [(X i 2).toNat] := by
      unfold wyX wyL
      rw [if_pos h15, hv]
      simp
    have e0 : X1 b l (plR b i) 0 = 14 := X1_at hi hb1 0
    have e1 : X1 b l (plR b i) 1 = (plR b (X i 2).toNat : Int) := X1_at hi hb1 1
    have w1 : plR b j ∈ wyX (X1 b l) (plR b i) (E1 (plR b i)) := by
      rw [w0, List.mem_singleton] at hjE
      unfold wyX wyL nxL
      rw [e0, e1, hjE]
      simp
    have z : ∀ e : Nat → Vl, bhV X i e r = e r ∧ bhV (X1 b l) (plR b i) e r = e r := fun e => by
      unfold bhV wrX
      rw [e0, h15]
      have z1 : ∀ a b : Int, wrL 14 a b = -1 := fun _ _ => rfl
      have z2 : ∀ a b : Int, wrL 15 a b = -1 := fun _ _ => rfl
      rw [z1, z2, if_neg (by omega), if_neg (by omega)]
      exact ⟨rfl, rfl⟩
    have := h1.s _ s (pl_lt hi hb1) hsr hg1 _ w1 r hr
    rw [(z _).2] at this
    rw [(z _).1]
    exact Vl.le_trans (hle1 r hr) this
  · have w0 : wyX X i (E i) = [i + 1] := by
      unfold wyX wyL
      rw [if_pos h15, hv]
      simp [hn]
    rw [w0, List.mem_singleton] at hjE
    subst hjE
    have z : ∀ e : Nat → Vl, bhV X i e r = e r := fun e => by
      unfold bhV wrX
      rw [h15]
      have z2 : ∀ a b : Int, wrL 15 a b = -1 := fun _ _ => rfl
      rw [z2, if_neg (by omega)]
    rw [z, pl_gone (hbi.trans hc)]
    exact hle1 r hr
  · have hb1 := hbi.trans hc
    have e0 : X1 b l (plR b i) 0 = 1 := X1_at hi hb1 0
    have e1 : X1 b l (plR b i) 1 = X i 1 := X1_at hi hb1 1
    have e2 : X1 b l (plR b i) 2 = n := X1_at hi hb1 2
    have w0 : wyX X i (E i) = [i + 1] := by
      unfold wyX wyL nxL
      rw [if_neg (by omega), if_neg (by omega), if_neg (by omega)]
    rw [w0, List.mem_singleton] at hjE
    subst hjE
    have w1 : plR b (i + 1) ∈ wyX (X1 b l) (plR b i) (E1 (plR b i)) := by
      unfold wyX wyL nxL
      rw [e0, pl_kept hb1]
      simp
    have h3 := h1.s _ s (pl_lt hi hb1) hsr hg1 _ w1 r hr
    have z2 : wrL (X i 0) (X i 1) (X i 2) = X i 1 := by
      unfold wrL
      rw [if_pos (by omega)]
    have z3 : ∀ c e, mkV 1 n c e = .num n := fun c e => by unfold mkV; rw [if_pos rfl]
    have z1 : wrL 1 (X i 1) n = X i 1 := rfl
    unfold bhV wrX at h3
    rw [e0, e1, e2, z1, z3] at h3
    by_cases hr1 : X i 1 = (r : Int)
    · rw [if_pos hr1] at h3
      refine Vl.le_trans hbE ?_
      unfold bhV wrX
      rw [z2, if_pos hr1, hv]
      exact h3
    · rw [if_neg hr1] at h3
      unfold bhV wrX
      rw [z2, if_neg hr1]
      exact Vl.le_trans (hle1 r hr) h3
  · have hb1 := hbi.trans hc
    have hmem : plR b j ∈ wyX (X1 b l) (plR b i) (fun r => (E i r).glb (E1 (plR b i) r)) := by
      rw [same_wy hi hb1]
      exact List.mem_map_of_mem hj
    have hmem2 := wy_reg (X1_ok hok hb) (pl_lt hi hb1) hle1 hmem
    have h3 := h1.s _ s (pl_lt hi hb1) hsr hg1 _ hmem2 r hr
    refine Vl.le_trans ?_ h3
    rw [same_bh hi hb1]
    exact bhV_mono hok hi hle1 hr
/-- What is known of an order that was made is what was known of the one that it came of. -/
theorem twice_same (h : LsV X l rg E) (h1 : LsV (X1 b l) (plR b l) rg E1) (hok : ∀ i, i < l → ordE rg m lk l (X i 0) (X i 1) (X i 2) (X i 3) = 0) (hrg : 0 < rg) (hb : ∀ i, i < l → b i = bConX X i (E i)) {i : Nat} (hi : i < l) {x : I4} (hx : b i = [x]) {r : Nat} (hr : r < rg) : E1 (plR b i) r = E i r := by
  refine Vl.le_antisymm ?_ ?_
  · have h2 := h1.least _ (upV_sol h hok hrg hb) (plR b i) r (Nat.le_of_lt (pl_lt hi hx)) hr
    rw [upV_at hi ⟨x, hx⟩] at h2
    exact h2
  · exact Vl.le_trans (h.least _ (down_sol h h1.sol hok hrg hb) i r (by omega) hr) (Vl.glb_r _ _)
/-- A second time nothing changes. -/
theorem con_twice (h : LsV X l rg E) (h1 : LsV (X1 b l) (plR b l) rg E1) (hok : ∀ i, i < l → ordE rg m lk l (X i 0) (X i 1) (X i 2) (X i 3) = 0) (hrg : 0 < rg) (hb : ∀ i, i < l → b i = bConX X i (E i)) {i' : Nat} (hi' : i' < plR b l) : bConX (X1 b l) i' (E1 i') = [(X1 b l i' 0, X1 b l i' 1, X1 b l i' 2, X1 b l i' 3)] := by
  have hok1 := X1_ok hok hb i' hi'
  obtain ⟨i, k, hi, hk, rfl⟩ := raw_find hi'
  have hkl := bConX_len X i (E i)
  rw [← hb i hi] at hkl
  have hk0 : k = 0 := by omega
  subst hk0
  rw [Nat.add_zero] at hok1 ⊢
  obtain ⟨x, hx⟩ : ∃ x, b i = [x] := List.length_eq_one_iff.1 (by omega)
  have hsame : ∀ r, r < rg → E1 (plR b i) r = E i r := fun r hr => twice_same h h1 hok hrg hb hi hx hr
  rw [bConX_congr hrg hok1 hsame]
  have hg : E i 0 ≠ .no := fun e => by
    have := hb i hi
    unfold bConX at this
    rw [if_pos e, hx] at this
    cases this
  have hbi := hb i hi
  rcases con_cases (X := X) (i := i) hg with ⟨h15, hv, hc⟩ | ⟨_, _, hc⟩ | ⟨h27, n, hv, hc⟩ | ⟨hc, h15, h27⟩
  · have hb1 := hbi.trans hc
    have e0 : X1 b l (plR b i) 0 = 14 := X1_at hi hb1 0
    unfold bConX
    rw [if_neg hg, e0, if_neg (by omega), if_neg (by omega)]
  · rw [hbi.trans hc] at hx
    cases hx
  · have hb1 := hbi.trans hc
    have e0 : X1 b l (plR b i) 0 = 1 := X1_at hi hb1 0
    unfold bConX
    rw [if_neg hg, e0, if_neg (by omega), if_neg (by omega)]
  · have hb1 := hbi.trans hc
    obtain ⟨e0, e1, e2, e3⟩ := same_X1 hi hb1
    unfold bConX
    rw [if_neg hg, e0, e1, e2, e3]
    by_cases g15 : X i 0 = 15
    · rw [if_pos g15, if_neg (by omega)]
      split
      · rename_i n hv
        exact absurd hv (h15 g15 n)
      · rfl
    · rw [if_neg g15, if_neg g15]
      by_cases g27 : 2 ≤ X i 0 ∧ X i 0 ≤ 7
      · rw [if_pos (by omega), if_neg (by omega)]
        split
        · rename_i n hv
          exact absurd hv (h27 g27 n)
        · rfl
      · rw [if_neg (by omega)]
theorem pl_all {c : Nat → List I4} {y : Nat → I4} : ∀ {n : Nat}, (∀ i, i < n → c i = [y i]) → ∀ i, i ≤ n → plR c i = i
  | n, h, 0, _ => rfl
  | n, h, i + 1, hi => by rw [plR, h i (by omega), pl_all h i (by omega)]; rfl
theorem raw_all {c : Nat → List I4} {y : Nat → I4} : ∀ {n : Nat}, (∀ i, i < n → c i = [y i]) → rawR c n = (List.range n).map y
  | 0, _ => rfl
  | n + 1, h => by
    rw [rawR, raw_all (fun i hi => h i (by omega)), h n (by omega), List.range_succ, List.map_append]
    rfl
/-- The orders that are made of those that were made. -/
theorem code_twice (h : LsV X l rg E) (h1 : LsV (X1 b l) (plR b l) rg E1) (hok : ∀ i, i < l → ordE rg m lk l (X i 0) (X i 1) (X i 2) (X i 3) = 0) (hrg : 0 < rg) (hb : ∀ i, i < l → b i = bConX X i (E i)) {c : Nat → List I4} (hc : ∀ i, i < plR b l → c i = bConX (X1 b l) i (E1 i)) : codeR c (plR b l) = codeR b l := by
  have h2 : ∀ i, i < plR b l → c i = [(X1 b l i 0, X1 b l i 1, X1 b l i 2, X1 b l i 3)] := fun i hi => (hc i hi).trans (con_twice h h1 hok hrg hb hi)
  have hpl := pl_all h2
  unfold codeR
  rw [raw_all h2, List.map_map]
  have hlen : ((rawR b l).map (ledO (plR b))).length = plR b l := by rw [List.length_map, raw_len]
  refine List.ext_getElem? fun i => ?_
  by_cases hi : i < plR b l
  · rw [List.getElem?_map, List.getElem?_range hi, Option.map_some]
    have hok1 := X1_ok hok hb i hi
    have hg : (codeR b l)[i]? = some ((codeR b l).getD i fenceI) := by
      rw [List.getD_eq_getElem?_getD, List.getElem?_eq_getElem (by rw [code_len]; exact hi)]
      rfl
    have hg2 : ((rawR b l).map (ledO (plR b)))[i]? = some ((codeR b l).getD i fenceI) := hg
    rw [hg2]
    congr 1
    obtain ⟨y, hy⟩ : ∃ y, (codeR b l).getD i fenceI = y := ⟨_, rfl⟩
    have e0 : X1 b l i 0 = y.1 := by unfold X1; rw [hy]; rfl
    have e1 : X1 b l i 1 = y.2.1 := by unfold X1; rw [hy]; rfl
    have e2 : X1 b l i 2 = y.2.2.1 := by unfold X1; rw [hy]; rfl
    have e3 : X1 b l i 3 = y.2.2.2 := by unfold X1; rw [hy]; rfl
    rw [e0, e1, e2, e3] at hok1
    have hld := ok_lead hok1
    rw [hy]
    show ledO (plR c) (X1 b l i 0, X1 b l i 1, X1 b l i 2, X1 b l i 3) = y
    rw [e0, e1, e2, e3]
    obtain ⟨y0, y1, y2, y3⟩ := y
    simp only at hld
    unfold ledO
    simp only
    by_cases h14 : y0 = 14
    · have := hld.1 h14
      rw [if_pos h14, if_neg (by omega), hpl _ (by omega)]
      congr 2
      omega
    · rw [if_neg h14]
      by_cases h15 : y0 = 15
      · have := hld.2 h15
        rw [if_pos h15, hpl _ (by omega)]
        congr 3
        omega
      · rw [if_neg h15]
  · rw [List.getElem?_eq_none (by simp; omega), List.getElem?_eq_none (by rw [hlen]; omega)]
end

section
variable {n m lk rg : Nat} {L : Nat → Nat} {X : Nat → Nat → Nat → Int}
theorem bCon_in (hc : COk n L X m lk rg) (E : Nat → Nat → Nat → Vl) : ∀ t i, t < n → i < L t → ∀ x, x ∈ bCon X E t i → ordE rg m lk (L t) x.1 x.2.1 x.2.2.1 x.2.2.2 = 0 := fun t i ht hi x hx => bCon_ok (X := X t) (hc.ord t i ht hi) x hx
theorem bCon_one (X : Nat → Nat → Nat → Int) (E : Nat → Nat → Nat → Vl) (t i : Nat) : (bCon X E t i).length ≤ 1 := bConX_len _ _ _
end

end Go.Proofs.YtkailbdjilkneaaDoor
