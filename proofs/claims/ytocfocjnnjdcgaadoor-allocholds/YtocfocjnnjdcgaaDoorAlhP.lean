/-
  An order with colours for registers, what is fetched for it and what is kept of it: what they make of a thread, against what the order makes. Plain functions.
  Threads with colours and threads without stand together, whatever they do.
-/
import Derived.Test.YtocfocjnnjdcgaaDoorAlpH
import Derived.Test.YtocfocjnnjdcgaaDoorAlpF
import Derived.Test.YtocfocjnnjdcgaaDoorBox
import Derived.Test.YtocfocjnnjdcgaaDoorRDo5
import Derived.Laws.OwnMore
import Derived.Test.YtocfocjnnjdcgaaDoorRDo4
import Derived.Test.YtocfocjnnjdcgaaDoorAlcJ
import Derived.Deep.LoopGhost
import Derived.Test.YtocfocjnnjdcgaaDoorSimA
namespace Go.Proofs.YtocfocjnnjdcgaaDoor
section
open Go.RowKit

/-- A program's orders out of what each one became. -/
def XA (b : Nat → List I4) (l p q : Nat) : Int := nth4 ((codeR b l).getD p fenceI) q
theorem xa_at {b : Nat → List I4} {l i j : Nat} (hi : i < l) (hj : j < (b i).length) {x : I4} (hx : (b i).getD j fenceI = x) (q : Nat) : XA b l (plR b i + j) q = nth4 (ledO (plR b) x) q := by
  unfold XA
  rw [code_at hj hi fenceI, hx]
/-- An order of a thread. -/
def oA (X : Nat → Nat → Int) (i : Nat) : I4 := (X i 0, X i 1, X i 2, X i 3)
def bA (X : Nat → Nat → Int) (k : List Int) (wd : Nat → Nat) (i : Nat) : List I4 := pnB k wd (oA X i)
/-- How many registers an order reads; the one that it reads q-th. -/
def nrA (X : Nat → Nat → Int) (i : Nat) : Nat := (usR (X i 0)).length
def rdA (X : Nat → Nat → Int) (i q : Nat) : Int := (rdO (oA X i)).getD q 0
/-- What stands for a register. -/
def vlA (k : List Int) (wd : Nat → Nat) (rs ws : List Int) (r : Nat) : Int := if k.getD r 0 < 0 then ws.getD (wd r) 0 else rs.getD (k.getD r 0).toNat 0
/-- The colours of a thread, and its words. -/
structure AlS (X : Nat → Nat → Int) (l rg m0 m lk : Nat) (k : List Int) (wd : Nat → Nat) : Prop where
  col : ColT k (Cl X l) rg
  ord : ∀ i, i < l → ordE rg m0 lk l (X i 0) (X i 1) (X i 2) (X i 3) = 0
  wlo : ∀ r, r < rg → k.getD r 0 < 0 → m0 ≤ wd r ∧ wd r < m
  inj : ∀ r s, r < rg → s < rg → k.getD r 0 < 0 → k.getD s 0 < 0 → wd r = wd s → r = s
/-- What is needed ahead of order i is alike. -/
def AgA (X : Nat → Nat → Int) (l rg : Nat) (k : List Int) (wd : Nat → Nat) (i : Nat) (rs ws rs' : List Int) : Prop := ∀ r, r < rg → Lv X l r i → vlA k wd rs ws r = rs'.getD r 0
/-- The first q registers that order i reads are fetched. -/
def LdA (X : Nat → Nat → Int) (k : List Int) (i q : Nat) (rs rs' : List Int) : Prop := ∀ j, j < q → k.getD (rdA X i j).toNat 0 < 0 → rs.getD (6 + j) 0 = rs'.getD (rdA X i j).toNat 0
/-- A thread with colours (at p) and one without (at i) stand together: ahead of order i, something fetched; or behind one of which something is still to be kept. -/
def QA (X : Nat → Nat → Int) (l rg : Nat) (k : List Int) (wd : Nat → Nat) (p : Nat) (rs ws : List Int) (i : Nat) (rs' : List Int) : Prop :=
  i ≤ l ∧ ((∃ q, (i < l → q ≤ nrA X i) ∧ (i = l → q = 0) ∧ p = plR (bA X k wd) i + (loS k wd (oA X i) q).length ∧ AgA X l rg k wd i rs ws rs' ∧ LdA X k i q rs rs') ∨
    ∃ i0 w : Nat, i = i0 + 1 ∧ w < rg ∧ wrX X i0 = (w : Int) ∧ usW (X i0 0) ≠ 0 ∧ k.getD w 0 < 0 ∧ p + 1 = plR (bA X k wd) i ∧ (∀ r, r < rg → r ≠ w → Lv X l r i → vlA k wd rs ws r = rs'.getD r 0) ∧ rs.getD 6 0 = rs'.getD w 0)

theorem lo_pre (k : List Int) (wd : Nat → Nat) (x : I4) (q : Nat) : ∀ n, q ≤ n → ∃ tl, loS k wd x n = loS k wd x q ++ tl
  | 0, h => by obtain rfl : q = 0 := by omega
               exact ⟨[], by simp⟩
  | n + 1, h => by
    by_cases e : q = n + 1
    · subst e; exact ⟨[], by simp⟩
    · obtain ⟨tl, h1⟩ := lo_pre k wd x q n (by omega)
      exact ⟨tl ++ feT k wd (6 + n) ((rdO x).getD n 0), by rw [loS, h1, List.append_assoc]⟩
theorem getD_mid (a c : List I4) (x d : I4) : (a ++ (x :: c)).getD a.length d = x := by
  rw [List.getD_eq_getElem?_getD, List.getElem?_append_right (Nat.le_refl _)]
  simp
theorem take_getD {l : List Int} {m a : Nat} (h : a < m) : (l.take m).getD a 0 = l.getD a 0 := by
  rw [List.getD_eq_getElem?_getD, List.getD_eq_getElem?_getD, List.getElem?_take, if_pos h]
section
variable {X : Nat → Nat → Int} {l rg m0 m lk : Nat} {k : List Int} {wd : Nat → Nat} {p i q : Nat} {rs ws rs' : List Int}
/-- A fetch. -/
theorem bl_load (hq : q < nrA X i) (hs : k.getD (rdA X i q).toNat 0 < 0) : (bA X k wd i).getD (loS k wd (oA X i) q).length fenceI = (8, 6 + (q : Int), ((wd (rdA X i q).toNat : Nat) : Int), 0) ∧ (loS k wd (oA X i) q).length < (bA X k wd i).length ∧ (loS k wd (oA X i) (q + 1)).length = (loS k wd (oA X i) q).length + 1 := by
  have hf : feT k wd (6 + q) ((rdO (oA X i)).getD q 0) = [(8, 6 + (q : Int), ((wd (rdA X i q).toNat : Nat) : Int), 0)] := by
    unfold feT
    exact if_pos hs
  have h1 : loS k wd (oA X i) (q + 1) = loS k wd (oA X i) q ++ [(8, 6 + (q : Int), ((wd (rdA X i q).toNat : Nat) : Int), 0)] := by rw [loS, hf]
  obtain ⟨tl, h2⟩ := lo_pre k wd (oA X i) (q + 1) (nrA X i) hq
  have h3 : bA X k wd i = loS k wd (oA X i) q ++ ((8, 6 + (q : Int), ((wd (rdA X i q).toNat : Nat) : Int), 0) :: (tl ++ [pnX k (oA X i)] ++ keS k wd (oA X i))) := by
    show loS k wd (oA X i) (nrA X i) ++ [pnX k (oA X i)] ++ keS k wd (oA X i) = _
    rw [h2, h1]
    simp
  refine ⟨by rw [h3, getD_mid], ?_, by rw [h1]; simp⟩
  rw [h3]
  simp
/-- The order itself. -/
theorem bl_main : (bA X k wd i).getD (loS k wd (oA X i) (nrA X i)).length fenceI = pnX k (oA X i) ∧ (loS k wd (oA X i) (nrA X i)).length < (bA X k wd i).length := by
  have h3 : bA X k wd i = loS k wd (oA X i) (nrA X i) ++ (pnX k (oA X i) :: keS k wd (oA X i)) := by
    show loS k wd (oA X i) (nrA X i) ++ [pnX k (oA X i)] ++ keS k wd (oA X i) = _
    simp
  refine ⟨by rw [h3, getD_mid], ?_⟩
  rw [h3]
  simp
/-- What is kept. -/
theorem bl_keep {w : Nat} (hw : wrX X i = (w : Int)) (hu : usW (X i 0) ≠ 0) (hs : k.getD w 0 < 0) : (bA X k wd i).getD ((loS k wd (oA X i) (nrA X i)).length + 1) fenceI = (9, ((wd w : Nat) : Int), 6, 0) ∧ (bA X k wd i).length = (loS k wd (oA X i) (nrA X i)).length + 2 := by
  have hk : keS k wd (oA X i) = [(9, ((wd w : Nat) : Int), 6, 0)] := by
    show (if usW (X i 0) = 0 then [] else keT k wd (wrX X i)) = _
    rw [if_neg hu, hw]
    unfold keT
    rw [show ((w : Int)).toNat = w by omega, if_pos hs]
  have h3 : bA X k wd i = (loS k wd (oA X i) (nrA X i) ++ [pnX k (oA X i)]) ++ ((9, ((wd w : Nat) : Int), 6, 0) :: []) := by
    show loS k wd (oA X i) (nrA X i) ++ [pnX k (oA X i)] ++ keS k wd (oA X i) = _
    rw [hk]
  have h4 : (loS k wd (oA X i) (nrA X i)).length + 1 = (loS k wd (oA X i) (nrA X i) ++ [pnX k (oA X i)]).length := by simp
  refine ⟨by rw [h3, h4, getD_mid], ?_⟩
  rw [h3]
  simp
theorem bl_none (h : usW (X i 0) = 0 ∨ ∃ w : Nat, wrX X i = (w : Int) ∧ ¬ k.getD w 0 < 0) : (bA X k wd i).length = (loS k wd (oA X i) (nrA X i)).length + 1 := by
  have hk : keS k wd (oA X i) = [] := by
    show (if usW (X i 0) = 0 then [] else keT k wd (wrX X i)) = _
    by_cases hu : usW (X i 0) = 0
    · exact if_pos hu
    · rw [if_neg hu]
      rcases h with h | ⟨w, h1, h2⟩
      · exact absurd h hu
      · rw [h1]
        unfold keT
        rw [show ((w : Int)).toNat = w by omega, if_neg h2]
  show (loS k wd (oA X i) (nrA X i) ++ [pnX k (oA X i)] ++ keS k wd (oA X i)).length = _
  rw [hk]
  simp
/-- What order i reads are registers, and needed ahead of it. -/
theorem AlS.rd (h : AlS X l rg m0 m lk k wd) (hi : i < l) (hq : q < nrA X i) : 0 ≤ rdA X i q ∧ rdA X i q < rg ∧ Lv X l (rdA X i q).toNat i := by
  have ho := h.ord i hi
  have hl : q < (rdO (oA X i)).length := by
    unfold rdO oA
    rw [(us_rd (X i 1) (X i 2) (X i 3) (ok_op ho)).1, List.length_map]
    exact hq
  have hm : rdA X i q ∈ rdX X i := by
    show (rdO (oA X i)).getD q 0 ∈ rdO (oA X i)
    rw [List.getD_eq_getElem?_getD, List.getElem?_eq_getElem hl]
    exact List.getElem_mem _
  obtain ⟨h1, h2⟩ := ok_rd ho _ hm
  exact ⟨h1, h2, .read hi (by rw [show ((rdA X i q).toNat : Int) = rdA X i q by omega]; exact hm)⟩
theorem QA.norm : ∀ (f q : Nat), nrA X i - q ≤ f → q ≤ nrA X i → LdA X k i q rs rs' → (∃ q2, q2 < nrA X i ∧ k.getD (rdA X i q2).toNat 0 < 0 ∧ (loS k wd (oA X i) q2).length = (loS k wd (oA X i) q).length ∧ LdA X k i q2 rs rs') ∨ ((loS k wd (oA X i) (nrA X i)).length = (loS k wd (oA X i) q).length ∧ LdA X k i (nrA X i) rs rs')
  | f, q, hf, hq, hL => by
    by_cases e : q = nrA X i
    · rw [← e]; exact Or.inr ⟨rfl, hL⟩
    · by_cases hs : k.getD (rdA X i q).toNat 0 < 0
      · exact Or.inl ⟨q, by omega, hs, rfl, hL⟩
      · match f, hf with
        | 0, hf => omega
        | f + 1, hf =>
          have h1 : (loS k wd (oA X i) (q + 1)).length = (loS k wd (oA X i) q).length := by
            have hf : feT k wd (6 + q) ((rdO (oA X i)).getD q 0) = [] := by
              unfold feT
              exact if_neg hs
            rw [loS, hf, List.append_nil]
          have := QA.norm f (q + 1) (by omega) (by omega) (fun j hj hs2 => by
            by_cases e2 : j = q
            · subst e2; exact absurd hs2 hs
            · exact hL j (by omega) hs2)
          rw [h1] at this
          exact this
/-- Where a thread stands: at a fetch, at an order, or at what is kept. -/
theorem QA.cases (h : QA X l rg k wd p rs ws i rs') (hp : p < plR (bA X k wd) l) :
    (∃ q, i < l ∧ q < nrA X i ∧ k.getD (rdA X i q).toNat 0 < 0 ∧ p = plR (bA X k wd) i + (loS k wd (oA X i) q).length ∧ AgA X l rg k wd i rs ws rs' ∧ LdA X k i q rs rs') ∨
    (i < l ∧ p = plR (bA X k wd) i + (loS k wd (oA X i) (nrA X i)).length ∧ AgA X l rg k wd i rs ws rs' ∧ LdA X k i (nrA X i) rs rs') ∨
    ∃ i0 w : Nat, i0 < l ∧ i = i0 + 1 ∧ w < rg ∧ wrX X i0 = (w : Int) ∧ usW (X i0 0) ≠ 0 ∧ k.getD w 0 < 0 ∧ p = plR (bA X k wd) i0 + ((loS k wd (oA X i0) (nrA X i0)).length + 1) ∧ (∀ r, r < rg → r ≠ w → Lv X l r i → vlA k wd rs ws r = rs'.getD r 0) ∧ rs.getD 6 0 = rs'.getD w 0 := by
  obtain ⟨hi, ⟨q, h1, h2, h3, h4, h5⟩ | ⟨i0, w, h1, h2, h3, h4, h5, h6, h7, h8⟩⟩ := h
  · by_cases e : i = l
    · have := h2 e
      subst e
      subst this
      rw [h3] at hp
      omega
    · rcases QA.norm (wd := wd) _ q (Nat.le_refl _) (h1 (by omega)) h5 with ⟨q2, g1, g2, g3, g4⟩ | ⟨g1, g2⟩
      · exact Or.inl ⟨q2, by omega, g1, g2, by rw [g3]; exact h3, h4, g4⟩
      · exact Or.inr (Or.inl ⟨by omega, by rw [g1]; exact h3, h4, g2⟩)
  · refine Or.inr (Or.inr ⟨i0, w, by omega, h1, h2, h3, h4, h5, ?_, h7, h8⟩)
    subst h1
    have := (bl_keep (wd := wd) h3 h4 h5).2
    rw [plR, this] at h6
    omega
/-- The words' own: a thread goes on to be ahead of order s. -/
theorem AlS.land (h : AlS X l rg m0 m lk k wd) (hi : i < l) (hu : wrX X i = -1) (hag : AgA X l rg k wd i rs ws rs') {s : Nat} (hs : s ∈ nxP X i) : QA X l rg k wd (plR (bA X k wd) s) rs ws s rs' := by
  refine ⟨ok_nx hi (h.ord i hi) s hs, Or.inl ⟨0, fun _ => Nat.zero_le _, fun _ => rfl, rfl, fun r hr hl => ?_, fun j hj => absurd hj (Nat.not_lt_zero _)⟩⟩
  exact hag r hr (.pass hi (by rw [hu]; omega) hs hl)
theorem getD_setL {l : List Int} {a b : Nat} {v : Int} (ha : a < l.length) : (l.set a v).getD b 0 = if b = a then v else l.getD b 0 := by
  by_cases e : b = a
  · subst e
    rw [if_pos rfl, List.getD_eq_getElem?_getD, List.getElem?_set_self ha]
    rfl
  · rw [if_neg e]
    exact getD_set_ne v e
theorem AlS.landW (h : AlS X l rg m0 m lk k wd) (hi : i < l) {w : Nat} (hwr : w < rg) (hw : wrX X i = (w : Int)) (hu : usW (X i 0) ≠ 0) (hnx : nxP X i = [i + 1]) (hag : AgA X l rg k wd i rs ws rs') (h8 : rs.length = 8) (hrg : rs'.length = rg) (v : Int) :
    QA X l rg k wd (plR (bA X k wd) i + (loS k wd (oA X i) (nrA X i)).length + 1) (rs.set (seT k 6 (w : Int)).toNat v) ws (i + 1) (rs'.set w v) := by
  have hin : i + 1 ∈ nxP X i := by rw [hnx]; simp
  have hold : ∀ r, r < rg → r ≠ w → Lv X l r (i + 1) → vlA k wd rs ws r = rs'.getD r 0 := fun r hr hne hl => hag r hr (.pass hi (by rw [hw]; omega) hin hl)
  have hc6 : ∀ r, r < rg → k.getD r 0 < 6 := fun r hr => (h.col.2 r hr).2.1
  refine ⟨by omega, ?_⟩
  by_cases hs : k.getD w 0 < 0
  · have hse : seT k 6 (w : Int) = 6 := by
      unfold seT
      rw [show ((w : Int)).toNat = w by omega, if_pos hs]
    rw [hse]
    refine Or.inr ⟨i, w, rfl, hwr, hw, hu, hs, ?_, fun r hr hne hl => ?_, ?_⟩
    · rw [plR, (bl_keep (wd := wd) hw hu hs).2]
      omega
    · rw [getD_set_ne v hne, ← hold r hr hne hl]
      unfold vlA
      split
      · rfl
      · exact getD_set_ne v (by have := hc6 r hr; show (k.getD r 0).toNat ≠ 6; omega)
    · rw [show ((6 : Int)).toNat = 6 from rfl, getD_setL (by omega), if_pos rfl, getD_setL (by omega), if_pos rfl]
  · have hse : seT k 6 (w : Int) = k.getD w 0 := by
      unfold seT
      rw [show ((w : Int)).toNat = w by omega, if_neg hs]
    rw [hse]
    refine Or.inl ⟨0, fun _ => Nat.zero_le _, fun _ => rfl, ?_, fun r hr hl => ?_, fun j hj => absurd hj (Nat.not_lt_zero _)⟩
    · rw [plR, bl_none (Or.inr ⟨w, hw, hs⟩)]
      simp [loS]
      omega
    · have h6 := hc6 w hwr
      by_cases e : r = w
      · subst e
        rw [getD_setL (by omega), if_pos rfl]
        unfold vlA
        rw [if_neg hs, getD_setL (by omega), if_pos rfl]
      · rw [getD_set_ne v e, ← hold r hr e hl]
        unfold vlA
        split
        · rfl
        · rename_i hr0
          refine getD_set_ne v ?_
          have hcl : Cl X l w r := ⟨fun x => e x.symm, i, hi, Or.inl ⟨hw, i + 1, hin, hl⟩⟩
          have := (h.col.2 w hwr).2.2 r (by rw [h.col.1]; exact hr) hcl (by omega)
          omega
/-- What an order finds in a register. -/
theorem AlS.val (h : AlS X l rg m0 m lk k wd) (hi : i < l) (hag : AgA X l rg k wd i rs ws rs') (hld : LdA X k i (nrA X i) rs rs') {q : Nat} (hq : q < nrA X i) {a : Int} (ha : rdA X i q = a) : rs.getD (seT k (6 + (q : Int)) a).toNat 0 = rs'.getD a.toNat 0 := by
  subst ha
  obtain ⟨h0, h1, h2⟩ := h.rd hi hq
  unfold seT
  by_cases hs : k.getD (rdA X i q).toNat 0 < 0
  · rw [if_pos hs, show (6 + (q : Int)).toNat = 6 + q by omega]
    exact hld q hq hs
  · rw [if_neg hs, ← hag _ (by omega) h2]
    unfold vlA
    rw [if_neg hs]
end
end

section
open Go.RowKit

/-- Which steps the program without colours has not: fetches, and what is kept. -/
def dA (m0 : Nat) (b : Nat → List I4) (l p : Nat) : Bool := decide ((XA b l p 0 = 8 ∧ (m0 : Int) ≤ XA b l p 2) ∨ (XA b l p 0 = 9 ∧ (m0 : Int) ≤ XA b l p 1))
section
variable {X : Nat → Nat → Int} {l rg m0 m lk : Nat} {k : List Int} {wd : Nat → Nat} {p i q : Nat} {rs ws rs' : List Int}
theorem xa_load (hi : i < l) (hq : q < nrA X i) (hs : k.getD (rdA X i q).toNat 0 < 0) : XA (bA X k wd) l (plR (bA X k wd) i + (loS k wd (oA X i) q).length) 0 = 8 ∧ XA (bA X k wd) l (plR (bA X k wd) i + (loS k wd (oA X i) q).length) 1 = 6 + (q : Int) ∧ XA (bA X k wd) l (plR (bA X k wd) i + (loS k wd (oA X i) q).length) 2 = ((wd (rdA X i q).toNat : Nat) : Int) := by
  obtain ⟨h1, h2, _⟩ := bl_load (wd := wd) hq hs
  rw [xa_at hi h2 h1 0, xa_at hi h2 h1 1, xa_at hi h2 h1 2]
  exact ⟨rfl, rfl, rfl⟩
theorem xa_keep {w : Nat} (hi : i < l) (hw : wrX X i = (w : Int)) (hu : usW (X i 0) ≠ 0) (hs : k.getD w 0 < 0) : XA (bA X k wd) l (plR (bA X k wd) i + ((loS k wd (oA X i) (nrA X i)).length + 1)) 0 = 9 ∧ XA (bA X k wd) l (plR (bA X k wd) i + ((loS k wd (oA X i) (nrA X i)).length + 1)) 1 = ((wd w : Nat) : Int) ∧ XA (bA X k wd) l (plR (bA X k wd) i + ((loS k wd (oA X i) (nrA X i)).length + 1)) 2 = 6 := by
  obtain ⟨h1, h2⟩ := bl_keep (wd := wd) hw hu hs
  have h3 : (loS k wd (oA X i) (nrA X i)).length + 1 < (bA X k wd i).length := by omega
  rw [xa_at hi h3 h1 0, xa_at hi h3 h1 1, xa_at hi h3 h1 2]
  exact ⟨rfl, rfl, rfl⟩
theorem xa_main (hi : i < l) (q : Nat) : XA (bA X k wd) l (plR (bA X k wd) i + (loS k wd (oA X i) (nrA X i)).length) q = nth4 (ledO (plR (bA X k wd)) (pnX k (oA X i))) q := by
  obtain ⟨h1, h2⟩ := bl_main (X := X) (k := k) (wd := wd) (i := i)
  exact xa_at hi h2 h1 q
theorem AlS.d_load (h : AlS X l rg m0 m lk k wd) (hi : i < l) (hq : q < nrA X i) (hs : k.getD (rdA X i q).toNat 0 < 0) : dA m0 (bA X k wd) l (plR (bA X k wd) i + (loS k wd (oA X i) q).length) = true := by
  obtain ⟨h1, _, h2⟩ := xa_load (wd := wd) hi hq hs
  obtain ⟨g0, g1, _⟩ := h.rd hi hq
  have := (h.wlo (rdA X i q).toNat (by omega) hs).1
  exact decide_eq_true (Or.inl ⟨h1, by rw [h2]; omega⟩)
theorem AlS.d_keep (h : AlS X l rg m0 m lk k wd) {w : Nat} (hi : i < l) (hwr : w < rg) (hw : wrX X i = (w : Int)) (hu : usW (X i 0) ≠ 0) (hs : k.getD w 0 < 0) : dA m0 (bA X k wd) l (plR (bA X k wd) i + ((loS k wd (oA X i) (nrA X i)).length + 1)) = true := by
  obtain ⟨h1, h2, _⟩ := xa_keep (wd := wd) hi hw hu hs
  have := (h.wlo w hwr hs).1
  exact decide_eq_true (Or.inr ⟨h1, by rw [h2]; omega⟩)
theorem pnX_op (k : List Int) {op a b c : Int} (ho : 1 ≤ op ∧ op ≤ 18) : (pnX k (op, a, b, c)).1 = op := (nwC_all k op a b c ho).2
theorem AlS.d_main (h : AlS X l rg m0 m lk k wd) (hi : i < l) : dA m0 (bA X k wd) l (plR (bA X k wd) i + (loS k wd (oA X i) (nrA X i)).length) = false := by
  have ho := h.ord i hi
  have hr := ok_op ho
  unfold dA
  rw [xa_main hi 0, xa_main hi 1, xa_main hi 2]
  obtain ⟨op, hop⟩ : ∃ x, X i 0 = x := ⟨_, rfl⟩
  obtain ⟨a, ha⟩ : ∃ x, X i 1 = x := ⟨_, rfl⟩
  obtain ⟨b, hb⟩ : ∃ x, X i 2 = x := ⟨_, rfl⟩
  obtain ⟨c, hc⟩ : ∃ x, X i 3 = x := ⟨_, rfl⟩
  have hoA : oA X i = (op, a, b, c) := by unfold oA; rw [hop, ha, hb, hc]
  rw [hop] at hr
  rw [hop, ha, hb, hc] at ho
  rw [hoA]
  refine decide_eq_false ?_
  rintro (⟨h1, h2⟩ | ⟨h1, h2⟩)
  · have e : op = 8 := by rw [← pnX_op k (a := a) (b := b) (c := c) hr]; exact h1
    subst e
    have h3 : (m0 : Int) ≤ b := h2
    have := ok_load ho
    omega
  · have e : op = 9 := by rw [← pnX_op k (a := a) (b := b) (c := c) hr]; exact h1
    subst e
    have h3 : (m0 : Int) ≤ a := h2
    have := ok_store ho
    omega
/-- A step that the program without colours has not. -/
theorem AlS.dr (h : AlS X l rg m0 m lk k wd) (hQ : QA X l rg k wd p rs ws i rs') (hp : p < plR (bA X k wd) l) (hd : dA m0 (bA X k wd) l p = true) (h8 : rs.length = 8) (hws : ws.length = m) : abK (XA (bA X k wd) l p 0) ≤ 1 ∧ ∃ r k2, (∀ fr, effX (p + 1) rs (fun a => ws.getD a.toNat 0) fr m (XA (bA X k wd) l p 0) (XA (bA X k wd) l p 1) (XA (bA X k wd) l p 2) (XA (bA X k wd) l p 3) = some (p + 1, r, k2)) ∧ ((k2 = .no ∧ QA X l rg k wd (p + 1) r ws i rs') ∨ ∃ (a : Nat) (v : Int), k2 = .put a v ∧ (∃ w, w < rg ∧ k.getD w 0 < 0 ∧ a = wd w) ∧ QA X l rg k wd (p + 1) r (ws.set a v) i rs') := by
  have hc6 : ∀ r, r < rg → k.getD r 0 < 6 := fun r hr => (h.col.2 r hr).2.1
  rcases hQ.cases hp with ⟨q, hi, hq, hs, rfl, hag, hld⟩ | ⟨hi, rfl, _, _⟩ | ⟨i0, w, hi, rfl, hwr, hw, hu, hs, rfl, hag, h6⟩
  · obtain ⟨e0, e1, e2⟩ := xa_load (wd := wd) hi hq hs
    obtain ⟨g0, g1, g2⟩ := h.rd hi hq
    have hq2 : q < 2 := Nat.lt_of_lt_of_le hq (usR_len _)
    rw [e0, e1, e2]
    refine ⟨by decide, rs.set (6 + q) (ws.getD (wd (rdA X i q).toNat) 0), .no, fun fr => ?_, Or.inl ⟨rfl, ?_⟩⟩
    · unfold effX
      simp only [Int.reduceEq, ↓reduceIte]
      rw [show (6 + (q : Int)).toNat = 6 + q by omega]
      rfl
    · refine ⟨hQ.1, Or.inl ⟨q + 1, fun _ => hq, fun e => absurd hi (by omega), ?_, fun r hr hl => ?_, fun j hj hj2 => ?_⟩⟩
      · rw [(bl_load (wd := wd) hq hs).2.2]
        omega
      · rw [← hag r hr hl]
        unfold vlA
        split
        · rfl
        · exact getD_set_ne _ (by have := hc6 r hr; omega)
      · by_cases e : j = q
        · subst e
          rw [getD_setL (by omega), if_pos rfl, ← hag _ (by omega) g2]
          unfold vlA
          rw [if_pos hs]
        · rw [getD_set_ne _ (by omega)]
          exact hld j (by omega) hj2
  · rw [h.d_main hi] at hd
    cases hd
  · obtain ⟨e0, e1, e2⟩ := xa_keep (wd := wd) hi hw hu hs
    rw [e0, e1, e2]
    refine ⟨by decide, rs, .put ((wd w : Nat) : Int) (rs.getD 6 0), fun fr => ?_, Or.inr ⟨wd w, rs.getD 6 0, rfl, ⟨w, hwr, hs, rfl⟩, ?_⟩⟩
    · unfold effX
      simp only [Int.reduceEq, ↓reduceIte]
      rfl
    · have hwm := (h.wlo w hwr hs).2
      refine ⟨hQ.1, Or.inl ⟨0, fun _ => Nat.zero_le _, fun _ => rfl, ?_, fun r hr hl => ?_, fun j hj => absurd hj (Nat.not_lt_zero _)⟩⟩
      · rw [plR, (bl_keep (wd := wd) hw hu hs).2]
        simp [loS]
        omega
      · by_cases e : r = w
        · subst e
          unfold vlA
          rw [if_pos hs, getD_setL (by omega), if_pos rfl, h6]
        · rw [← hag r hr e hl]
          unfold vlA
          split
          · rename_i hr0
            exact getD_set_ne _ (fun x => e (h.inj r w hr hwr hr0 hs x))
          · rfl
set_option maxHeartbeats 1600000 in
/-- An order. -/
theorem AlS.ef (h : AlS X l rg m0 m lk k wd) (hm : m0 ≤ m) (hi : i < l) (hag : AgA X l rg k wd i rs ws rs') (hld : LdA X k i (nrA X i) rs rs') (hp : p = plR (bA X k wd) i + (loS k wd (oA X i) (nrA X i)).length) (h8 : rs.length = 8) (hrg : rs'.length = rg) (fr : Int → Bool)
    (hnf : rkO (X i 0) → effX (i + 1) rs' (fun a => (ws.take m0).getD a.toNat 0) fr m0 (X i 0) (X i 1) (X i 2) (X i 3) ≠ none) :
    EfA m0 (fun p r p' r' => QA X l rg k wd p r ws p' r') (effX (p + 1) rs (fun a => ws.getD a.toNat 0) fr m (XA (bA X k wd) l p 0) (XA (bA X k wd) l p 1) (XA (bA X k wd) l p 2) (XA (bA X k wd) l p 3)) (effX (i + 1) rs' (fun a => (ws.take m0).getD a.toNat 0) fr m0 (X i 0) (X i 1) (X i 2) (X i 3)) := by
  have ho := h.ord i hi
  have hr := ok_op ho
  -- behind an order that writes nothing
  have ln0 : ∀ s, wrX X i = -1 → s ∈ nxP X i → QA X l rg k wd (plR (bA X k wd) s) rs ws s rs' := fun s hu hs => h.land hi hu hag hs
  have ln1 : usW (X i 0) = 0 → wrX X i = -1 → i + 1 ∈ nxP X i → QA X l rg k wd (p + 1) rs ws (i + 1) rs' := fun hu hw hs => by
    have := ln0 (i + 1) hw hs
    rw [plR, bl_none (Or.inl hu)] at this
    rw [hp]
    exact this
  -- behind one that writes
  have lnW : ∀ (w : Int) (v v' : Int), 0 ≤ w ∧ w < rg → wrX X i = w → usW (X i 0) ≠ 0 → nxP X i = [i + 1] → v = v' → QA X l rg k wd (p + 1) (rs.set (seT k 6 w).toNat v) ws (i + 1) (rs'.set w.toNat v') := fun w v v' hw hwx hu hnx e => by
    subst e
    obtain ⟨w, rfl⟩ : ∃ y : Nat, w = y := ⟨w.toNat, by omega⟩
    rw [hp, show ((w : Nat) : Int).toNat = w by omega]
    exact h.landW hi (by omega) hwx hu hnx hag h8 hrg v
  have v0 : ∀ a, 0 < nrA X i → rdA X i 0 = a → rs.getD (seT k 6 a).toNat 0 = rs'.getD a.toNat 0 := fun a h1 h2 => h.val hi hag hld h1 h2
  have v1 : ∀ a, 1 < nrA X i → rdA X i 1 = a → rs.getD (seT k 7 a).toNat 0 = rs'.getD a.toNat 0 := fun a h1 h2 => h.val hi hag hld h1 h2
  rw [hp, xa_main hi 0, xa_main hi 1, xa_main hi 2, xa_main hi 3, ← hp]
  clear hp
  obtain ⟨op, hop⟩ : ∃ x, X i 0 = x := ⟨_, rfl⟩
  obtain ⟨a, ha⟩ : ∃ x, X i 1 = x := ⟨_, rfl⟩
  obtain ⟨b, hb⟩ : ∃ x, X i 2 = x := ⟨_, rfl⟩
  obtain ⟨c, hc⟩ : ∃ x, X i 3 = x := ⟨_, rfl⟩
  have hoA : oA X i = (op, a, b, c) := by unfold oA; rw [hop, ha, hb, hc]
  have hwx : wrX X i = wrL op a b := by unfold wrX; rw [hop, ha, hb]
  have hnx : nxP X i = nxL op a b i := by unfold nxP; rw [hop, ha, hb]
  have hrd : ∀ q, rdA X i q = (rdL op a b c).getD q 0 := fun q => by unfold rdA; rw [hoA]; rfl
  have hnr : nrA X i = (usR op).length := by unfold nrA; rw [hop]
  rw [hoA]
  rw [hop, ha, hb, hc] at ho hnf
  rw [hop] at hr ln1 lnW
  rw [hop, ha, hb, hc]
  simp only [hwx, hnx] at ln0 ln1 lnW
  simp only [hrd, hnr] at v0 v1
  clear hoA hwx hnx hrd hnr hop ha hb hc
  obtain ⟨pl, hpl⟩ : ∃ f, plR (bA X k wd) = f := ⟨_, rfl⟩
  rw [hpl] at ln0 ⊢
  clear hpl
  rcases (by omega : op = 1 ∨ op = 2 ∨ op = 3 ∨ op = 4 ∨ op = 5 ∨ op = 6 ∨ op = 7 ∨ op = 8 ∨ op = 9 ∨ op = 10 ∨ op = 11 ∨ op = 12 ∨ op = 13 ∨ op = 14 ∨ op = 15 ∨ op = 16 ∨ op = 17 ∨ op = 18) with rfl | rfl | rfl | rfl | rfl | rfl | rfl | rfl | rfl | rfl | rfl | rfl | rfl | rfl | rfl | rfl | rfl | rfl
  · have e : ledO pl (pnX k (1, a, b, c)) = (1, seT k 6 a, b, c) := rfl
    rw [e]
    show EfA m0 _ (effX (p + 1) rs (fun a => ws.getD a.toNat 0) fr m 1 (seT k 6 a) (b) (c)) _
    unfold effX
    simp only [↓reduceIte]
    exact ⟨rfl, True.intro, lnW a b b (ok_const ho) rfl (by decide) rfl rfl⟩
  · have e : ledO pl (pnX k (2, a, b, c)) = (2, seT k 6 a, seT k 6 b, c) := rfl
    rw [e]
    show EfA m0 _ (effX (p + 1) rs (fun a => ws.getD a.toNat 0) fr m 2 (seT k 6 a) (seT k 6 b) (c)) _
    unfold effX
    simp only [Int.reduceEq, ↓reduceIte]
    exact ⟨rfl, True.intro, lnW a _ _ (ok_rr (by omega) ho).1 rfl (by decide) rfl (v0 b (by decide) rfl)⟩
  · have e : ledO pl (pnX k (3, a, b, c)) = (3, seT k 6 a, seT k 6 b, seT k 7 c) := rfl
    rw [e]
    show EfA m0 _ (effX (p + 1) rs (fun a => ws.getD a.toNat 0) fr m 3 (seT k 6 a) (seT k 6 b) (seT k 7 c)) _
    unfold effX
    simp only [Int.reduceEq, ↓reduceIte]
    exact ⟨rfl, True.intro, lnW a _ _ (ok_rrr (by omega) ho).1 rfl (by decide) rfl (by simp only [v0 b (by decide) rfl, v1 c (by decide) rfl])⟩
  · have e : ledO pl (pnX k (4, a, b, c)) = (4, seT k 6 a, seT k 6 b, seT k 7 c) := rfl
    rw [e]
    show EfA m0 _ (effX (p + 1) rs (fun a => ws.getD a.toNat 0) fr m 4 (seT k 6 a) (seT k 6 b) (seT k 7 c)) _
    unfold effX
    simp only [Int.reduceEq, ↓reduceIte]
    exact ⟨rfl, True.intro, lnW a _ _ (ok_rrr (by omega) ho).1 rfl (by decide) rfl (by simp only [v0 b (by decide) rfl, v1 c (by decide) rfl])⟩
  · have e : ledO pl (pnX k (5, a, b, c)) = (5, seT k 6 a, seT k 6 b, seT k 7 c) := rfl
    rw [e]
    show EfA m0 _ (effX (p + 1) rs (fun a => ws.getD a.toNat 0) fr m 5 (seT k 6 a) (seT k 6 b) (seT k 7 c)) _
    unfold effX
    simp only [Int.reduceEq, ↓reduceIte]
    exact ⟨rfl, True.intro, lnW a _ _ (ok_rrr (by omega) ho).1 rfl (by decide) rfl (by simp only [v0 b (by decide) rfl, v1 c (by decide) rfl])⟩
  · have e : ledO pl (pnX k (6, a, b, c)) = (6, seT k 6 a, seT k 6 b, seT k 7 c) := rfl
    rw [e]
    show EfA m0 _ (effX (p + 1) rs (fun a => ws.getD a.toNat 0) fr m 6 (seT k 6 a) (seT k 6 b) (seT k 7 c)) _
    unfold effX
    simp only [Int.reduceEq, ↓reduceIte]
    exact ⟨rfl, True.intro, lnW a _ _ (ok_rrr (by omega) ho).1 rfl (by decide) rfl (by simp only [v0 b (by decide) rfl, v1 c (by decide) rfl])⟩
  · have e : ledO pl (pnX k (7, a, b, c)) = (7, seT k 6 a, seT k 6 b, seT k 7 c) := rfl
    rw [e]
    show EfA m0 _ (effX (p + 1) rs (fun a => ws.getD a.toNat 0) fr m 7 (seT k 6 a) (seT k 6 b) (seT k 7 c)) _
    unfold effX
    simp only [Int.reduceEq, ↓reduceIte]
    exact ⟨rfl, True.intro, lnW a _ _ (ok_rrr (by omega) ho).1 rfl (by decide) rfl (by simp only [v0 b (by decide) rfl, v1 c (by decide) rfl])⟩
  · have e : ledO pl (pnX k (8, a, b, c)) = (8, seT k 6 a, b, c) := rfl
    rw [e]
    show EfA m0 _ (effX (p + 1) rs (fun a => ws.getD a.toNat 0) fr m 8 (seT k 6 a) (b) (c)) _
    unfold effX
    simp only [Int.reduceEq, ↓reduceIte]
    exact ⟨rfl, True.intro, lnW a _ _ (ok_load ho).1 rfl (by decide) rfl (by have := ok_load ho; exact (take_getD (by omega)).symm)⟩
  · have e : ledO pl (pnX k (9, a, b, c)) = (9, a, seT k 6 b, c) := rfl
    rw [e]
    show EfA m0 _ (effX (p + 1) rs (fun a => ws.getD a.toNat 0) fr m 9 (a) (seT k 6 b) (c)) _
    unfold effX
    simp only [Int.reduceEq, ↓reduceIte]
    refine ⟨?_, ?_, ln1 (by decide) rfl (by simp [nxL])⟩
    · rw [v0 b (by decide) rfl]
    · have := ok_store ho
      exact ⟨by omega, by omega⟩
  · have e : ledO pl (pnX k (10, a, b, c)) = (10, seT k 6 a, seT k 6 b, c) := rfl
    rw [e]
    show EfA m0 _ (effX (p + 1) rs (fun a => ws.getD a.toNat 0) fr m 10 (seT k 6 a) (seT k 6 b) (c)) _
    unfold effX
    simp only [Int.reduceEq, ↓reduceIte]
    rw [v0 b (by decide) rfl]
    unfold effX at hnf
    simp only [Int.reduceEq, ↓reduceIte] at hnf
    by_cases hlt : rs'.getD b.toNat 0 < 0 ∨ (m0 : Int) ≤ rs'.getD b.toNat 0
    · exact absurd (if_pos hlt) (hnf (Or.inl rfl))
    · rw [if_neg hlt, if_neg (by omega)]
      exact ⟨rfl, True.intro, lnW a _ _ (ok_rr (by omega) ho).1 rfl (by decide) rfl (take_getD (by omega)).symm⟩
  · have e : ledO pl (pnX k (11, a, b, c)) = (11, seT k 6 a, seT k 7 b, c) := rfl
    rw [e]
    show EfA m0 _ (effX (p + 1) rs (fun a => ws.getD a.toNat 0) fr m 11 (seT k 6 a) (seT k 7 b) (c)) _
    unfold effX
    simp only [Int.reduceEq, ↓reduceIte]
    rw [v0 a (by decide) rfl, v1 b (by decide) rfl]
    unfold effX at hnf
    simp only [Int.reduceEq, ↓reduceIte] at hnf
    by_cases hlt : rs'.getD a.toNat 0 < 0 ∨ (m0 : Int) ≤ rs'.getD a.toNat 0
    · exact absurd (if_pos hlt) (hnf (Or.inr rfl))
    · rw [if_neg hlt, if_neg (by omega)]
      exact ⟨rfl, ⟨by omega, by omega⟩, ln1 (by decide) rfl (by simp [nxL])⟩
  · have e : ledO pl (pnX k (12, a, b, c)) = (12, a, b, c) := rfl
    rw [e]
    show EfA m0 _ (effX (p + 1) rs (fun a => ws.getD a.toNat 0) fr m 12 (a) (b) (c)) _
    unfold effX
    simp only [Int.reduceEq, ↓reduceIte]
    exact ⟨rfl, True.intro, ln1 (by decide) rfl (by simp [nxL])⟩
  · have e : ledO pl (pnX k (13, a, b, c)) = (13, a, seT k 6 b, seT k 7 c) := rfl
    rw [e]
    show EfA m0 _ (effX (p + 1) rs (fun a => ws.getD a.toNat 0) fr m 13 (a) (seT k 6 b) (seT k 7 c)) _
    unfold effX
    simp only [Int.reduceEq, ↓reduceIte]
    have hca := ok_cas ho
    rw [v0 b (by decide) rfl, v1 c (by decide) rfl, take_getD (by omega)]
    by_cases hcs : ws.getD a.toNat 0 = rs'.getD b.toNat 0
    · rw [if_pos hcs, if_pos hcs]
      exact ⟨rfl, ⟨by omega, by omega⟩, lnW b _ _ hca.2.1 rfl (by decide) rfl rfl⟩
    · rw [if_neg hcs, if_neg hcs]
      exact ⟨rfl, True.intro, lnW b _ _ hca.2.1 rfl (by decide) rfl rfl⟩
  · have e : ledO pl (pnX k (14, a, b, c)) = (14, (pl a.toNat : Int), b, c) := rfl
    rw [e]
    show EfA m0 _ (effX (p + 1) rs (fun a => ws.getD a.toNat 0) fr m 14 ((pl a.toNat : Int)) (b) (c)) _
    unfold effX
    simp only [Int.reduceEq, ↓reduceIte]
    exact ⟨rfl, True.intro, ln0 a.toNat rfl (by simp [nxL])⟩
  · have e : ledO pl (pnX k (15, a, b, c)) = (15, seT k 6 a, (pl b.toNat : Int), c) := rfl
    rw [e]
    show EfA m0 _ (effX (p + 1) rs (fun a => ws.getD a.toNat 0) fr m 15 (seT k 6 a) ((pl b.toNat : Int)) (c)) _
    unfold effX
    simp only [Int.reduceEq, ↓reduceIte]
    have hv := v0 a (by decide) rfl
    by_cases hz : rs'.getD a.toNat 0 = 0
    · rw [if_pos (hv.trans hz), if_pos hz]
      exact ⟨rfl, True.intro, ln0 b.toNat rfl (by simp [nxL])⟩
    · rw [if_neg (fun e => hz (hv.symm.trans e)), if_neg hz]
      exact ⟨rfl, True.intro, ln1 (by decide) rfl (by simp [nxL])⟩
  · have e : ledO pl (pnX k (16, a, b, c)) = (16, seT k 6 a, b, c) := rfl
    rw [e]
    show EfA m0 _ (effX (p + 1) rs (fun a => ws.getD a.toNat 0) fr m 16 (seT k 6 a) (b) (c)) _
    unfold effX
    simp only [Int.reduceEq, ↓reduceIte]
    refine ⟨?_, True.intro, ln1 (by decide) rfl (by simp [nxL])⟩
    rw [v0 a (by decide) rfl]
  · have e : ledO pl (pnX k (17, a, b, c)) = (17, a, b, c) := rfl
    rw [e]
    show EfA m0 _ (effX (p + 1) rs (fun a => ws.getD a.toNat 0) fr m 17 (a) (b) (c)) _
    unfold effX
    simp only [Int.reduceEq, ↓reduceIte]
    exact ⟨rfl, True.intro, ln1 (by decide) rfl (by simp [nxL])⟩
  · have e : ledO pl (pnX k (18, a, b, c)) = (18, a, b, c) := rfl
    rw [e]
    show EfA m0 _ (effX (p + 1) rs (fun a => ws.getD a.toNat 0) fr m 18 (a) (b) (c)) _
    unfold effX
    simp only [Int.reduceEq, ↓reduceIte]
    cases fr a with
    | false => exact True.intro
    | true => exact ⟨rfl, True.intro, ln1 (by decide) rfl (by simp [nxL])⟩
end
end

end Go.Proofs.YtocfocjnnjdcgaaDoor
