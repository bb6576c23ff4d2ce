/-
  Without clashes what waits cannot be seen: each outcome with stores that wait, in order or passing each other, is one without. Plain functions.
-/
import Derived.Test.YtgofbkgfonlceacGreatDoorRaceP
namespace Go.Proofs.YtgofbkgfonlceacGreatDoor
open Go.RowKit

theorem mem_order {L : Nat → Nat} {X : Nat → Nat → Nat → Int} {mode : Int} {s : Sx} {t : Nat} (ht : t < s.ths.length) (ha : ableT L X s t = true) : (8 * (t : Int)) ∈ movesX L X mode s := by
  unfold movesX
  rw [List.mem_flatMap]
  refine ⟨t, by simpa using ht, ?_⟩
  unfold movesT
  rw [ha]
  simp
theorem do_nat {X : Nat → Nat → Nat → Int} {mode : Int} {s : Sx} {t : Nat} : doX X mode s (8 * (t : Int)).toNat = doX X mode s (8 * t) := by
  rw [show (8 * (t : Int)).toNat = 8 * t by omega]
theorem rch_order {L : Nat → Nat} {X : Nat → Nat → Nat → Int} {mode : Int} {s0 s : Sx} (h : Rch (nxX L X mode) s0 s) {t : Nat} (ht : t < s.ths.length) (ha : ableT L X s t = true) (hf : (doX X mode s (8 * t)).fell = false) : Rch (nxX L X mode) s0 (doX X mode s (8 * t)) :=
  h.step (mem_nx.mpr ⟨8 * (t : Int), mem_order ht ha, do_nat, hf⟩)
theorem able_13 {L : Nat → Nat} {X : Nat → Nat → Nat → Int} {s : Sx} {t : Nat} (ha : ableT L X s t = true) (ho : opT X s t 0 = 12 ∨ opT X s t 0 = 13 ∨ opT X s t 0 = 17) : (thOf s t).wait = [] := by
  unfold ableT at ha
  split at ha
  · cases ha
  · rw [if_neg (by omega)] at ha
    rcases ho with e | e | e
    · rw [if_pos (Or.inl e)] at ha
      exact List.length_eq_zero_iff.mp (by simpa using ha)
    · rw [if_pos (Or.inr e)] at ha
      exact List.length_eq_zero_iff.mp (by simpa using ha)
    · rw [if_neg (by omega), if_pos e] at ha
      simp only [Bool.and_eq_true, decide_eq_true_eq] at ha
      exact List.length_eq_zero_iff.mp ha.1
theorem able_17 {L : Nat → Nat} {X : Nat → Nat → Nat → Int} {s : Sx} {t : Nat} (ha : ableT L X s t = true) (ho : opT X s t 0 = 17) : s.own.getD (opT X s t 1).toNat 0 = -1 := by
  unfold ableT at ha
  split at ha
  · cases ha
  · rw [if_neg (by omega), if_neg (by omega), if_pos ho] at ha
    simp only [Bool.and_eq_true, decide_eq_true_eq] at ha
    exact ha.2
theorem eff_fell {mode : Int} {s : Sx} {t : Nat} {o : Option (Nat × List Int × Ak)} (hs : s.fell = false) : (effS mode s t o).fell = o.isNone := by
  cases o with
  | none => rfl
  | some q =>
    obtain ⟨p, r, k⟩ := q
    show (actX mode _ t k).fell = false
    cases k <;> first
      | exact hs
      | skip
    all_goals
      show (storeW mode _ t _).fell = false
      unfold storeW doneW
      repeat' split
      all_goals exact hs
/-- Nothing that is done stands first. -/
def HeadG (l : List (Wt × Bool)) : Prop := ∀ p, l.head? = some p → p.2 = false
theorem head_nil {l : List (Wt × Bool)} (h : HeadG l) (e : pdG l = []) : l = [] := by
  cases l with
  | nil => rfl
  | cons p l =>
    have := h p rfl
    obtain ⟨x, d⟩ := p
    simp only at this
    subst this
    simp [pdG] at e

section
variable {n m lk rg : Nat} {L : Nat → Nat} {X : Nat → Nat → Nat → Int} {mode : Int} {s0 s : Sx} {B : List Int} {g : Nat → List (Wt × Bool)}
theorem fam_push {g : Nat → List (Wt × Bool)} {t u k : Nat} (h : t ≠ u) (x : Wt) : famG (updI g t (g t ++ [(x, false)])) u k = updI (famG g u k) t (famG g u k t ++ [x]) := by
  funext v
  by_cases e : v = t
  · rw [e, updI_at, fam_at h, fam_at h, updI_at, itsG_append]; rfl
  · rw [updI_ne _ e]
    unfold famG
    rw [updI_ne _ e]
/-- An order by which a thread puts something into its buffer. -/
theorem InvR.push (h : InvR n m lk L X s0 s B g) (hs : SOk n L m lk rg mode s) {t : Nat} (ht : t < n) (ha : ableT L X s t = true) (x : Wt) (p : Nat) (r : List Int) (hx : 0 ≤ x.wh ∧ x.wh < (if x.lk then lk else m : Nat)) (hso : x.lk = false → Sole n (fun t => itsG (g t)) x.wh t) (hop : x.lk = false → (opT X s t 0 = 9 ∧ opT X s t 1 = x.wh) ∨ (opT X s t 0 = 11 ∧ getR s t (opT X s t 1) = x.wh))
    (hstep : ∀ u k A, t ≠ u → Rch (nxX L X 0) s0 A → Agr n m lk s B (famG g u k) u A → Rch (nxX L X 0) s0 (doneW (setTh A t ⟨p, r, []⟩) x)) : InvR n m lk L X s0 (setTh s t ⟨p, r, (thOf s t).wait ++ [x]⟩) B (updI g t (g t ++ [(x, false)])) := by
  have hl : t < s.ths.length := by rw [hs.ths]; exact ht
  have hth : ∀ v, thOf (setTh s t ⟨p, r, (thOf s t).wait ++ [x]⟩) v = if v = t then ⟨p, r, (thOf s t).wait ++ [x]⟩ else thOf s v := thOf_set hl _
  have hag : ∀ u k A, t ≠ u → Agr n m lk s B (famG g u k) u A → Agr n m lk (setTh s t ⟨p, r, (thOf s t).wait ++ [x]⟩) B (famG (updI g t (g t ++ [(x, false)])) u k) u (doneW (setTh A t ⟨p, r, []⟩) x) := fun u k A htu hA => by
    rw [fam_push htu]
    exact (hA.setT hs.ths ht p r _).push ht x (fun hk v hv hvt => fam_none (hso hk v hv hvt)) hx
  have hdt : ∀ A u, t ≠ u → t < A.ths.length → thOf (doneW (setTh A t ⟨p, r, []⟩) x) u = thOf A u := fun A u htu hA => by
    have : thOf (doneW (setTh A t ⟨p, r, []⟩) x) u = thOf (setTh A t ⟨p, r, []⟩) u := by unfold doneW; split <;> rfl
    rw [this, thOf_set hA, if_neg (fun e => htu e.symm)]
  refine ⟨h.bl, fun v hv => ?_, fun v hv q hq hk => ?_, fun v hv => ?_, fun v hv q hq => ?_, fun w v hv hne => ?_, fun w hw => ?_, ?_, fun u hu k y hk => ?_⟩
  · rw [hth]
    by_cases e : v = t
    · rw [if_pos e, e, updI_at, pdG_append, h.wait t ht]; rfl
    · rw [if_neg e, updI_ne _ e]; exact h.wait v hv
  · by_cases e : v = t
    · rw [e, updI_at, List.mem_append] at hq
      rcases hq with hq | hq
      · exact h.lks t ht q hq hk
      · rw [List.mem_singleton.mp hq]
    · rw [updI_ne _ e] at hq; exact h.lks v hv q hq hk
  · by_cases e : v = t
    · rw [e, updI_at]
      unfold OrdG
      rw [List.pairwise_append]
      exact ⟨h.ord t ht, List.pairwise_singleton _ _, fun a _ b hb hd => by rw [List.mem_singleton.mp hb] at hd; cases hd⟩
    · rw [updI_ne _ e]; exact h.ord v hv
  · by_cases e : v = t
    · rw [e, updI_at, List.mem_append] at hq
      rcases hq with hq | hq
      · exact h.rng t ht q hq
      · rw [List.mem_singleton.mp hq]; exact hx
    · rw [updI_ne _ e] at hq; exact h.rng v hv q hq
  · have key : ∀ y, y ≠ t → lastI (itsG (updI g t (g t ++ [(x, false)]) y)) w = lastI (itsG (g y)) w := fun y hy => by rw [updI_ne _ hy]
    have keyt : lastI (itsG (updI g t (g t ++ [(x, false)]) t)) w = if hitW w x then some x.what else lastI (itsG (g t)) w := by
      rw [updI_at, itsG_append]; exact lastI_snoc _ _ _
    have hhit : hitW w x = true → x.lk = false ∧ x.wh = w := fun e => by
      unfold hitW at e
      simpa using e
    intro y hy hyv
    show lastI (itsG (updI g t _ y)) w = none
    by_cases e : v = t
    · subst e
      rw [key y hyv]
      cases hh : hitW w x with
      | true =>
        obtain ⟨h1, h2⟩ := hhit hh
        have := hso h1 y hy hyv
        rw [h2] at this
        exact this
      | false =>
        have hne' : lastI (itsG (g v)) w ≠ none := by
          have hne2 : lastI (itsG (updI g v (g v ++ [(x, false)]) v)) w ≠ none := hne
          rw [keyt, hh] at hne2
          exact hne2
        exact h.apart w v hv hne' y hy hyv
    · have hne' : lastI (itsG (g v)) w ≠ none := by
        have hne2 : lastI (itsG (updI g t (g t ++ [(x, false)]) v)) w ≠ none := hne
        rw [key v e] at hne2
        exact hne2
      by_cases ey : y = t
      · subst ey
        rw [keyt]
        cases hh : hitW w x with
        | true =>
          obtain ⟨h1, h2⟩ := hhit hh
          have := hso h1 v hv e
          rw [h2] at this
          exact absurd this hne'
        | false => exact h.apart w v hv hne' y hy hyv
      · rw [key y ey]
        exact h.apart w v hv hne' y hy hyv
  · show s.words.getD w 0 = _
    rw [h.mem w hw]
    refine val_congr (fun v hv => ?_) fun _ => rfl
    by_cases e : v = t
    · rw [e, updI_at, dnG_append]
      show _ = lastI (dnG (g t) ++ []) _
      rw [List.append_nil]
    · rw [updI_ne _ e]
  · obtain ⟨F, hR, hA, hp⟩ := h.flush
    have htn : t ≠ n := by omega
    refine ⟨_, hstep n 0 F htn hR hA, hag n 0 F htn hA, ?_⟩
    rw [show (setTh s t ⟨p, r, (thOf s t).wait ++ [x]⟩).prints = s.prints from rfl, ← hp]
    unfold doneW; split <;> rfl
  · by_cases e : u = t
    · subst e
      rw [updI_at, itsG_append] at hk
      by_cases hkl : k < (itsG (g u)).length
      · rw [List.getElem?_append_left hkl] at hk
        obtain ⟨H, hR, hA, hH⟩ := h.held u hu k y hk
        refine ⟨H, hR, (hA.setU hs.ths hu _).congrI fun v _ => ?_, hH⟩
        unfold famG
        by_cases ev : v = u
        · rw [if_pos ev, if_pos ev, ev, updI_at, itsG_append, List.take_append_of_le_length (by omega)]
        · rw [if_neg ev, if_neg ev, updI_ne _ ev]
      · have hk1 : k = (itsG (g u)).length := by
          have := (List.getElem?_eq_some_iff.mp hk).1
          simp [itsG] at this hkl ⊢
          omega
        subst hk1
        have hy : x = y := by
          rw [List.getElem?_append_right (by omega)] at hk
          simpa [itsG] using hk
        subst hy
        obtain ⟨F, hR, hA, hp⟩ := h.flush
        have hFt := hA.th u hu (by omega)
        refine ⟨F, hR, (Agr.setU (⟨hA.len, fun v hv _ => hA.th v hv (by omega), hA.wl, hA.wd, hA.ol, hA.ow, hA.fell⟩ : Agr n m lk s B (famG g n 0) u F) hs.ths hu _).congrI fun v hv => ?_, ⟨by rw [hFt]; exact able_lt ha, by rw [hFt], fun hx => ?_⟩⟩
        · rw [fam_at (by omega)]
          unfold famG
          by_cases ev : v = u
          · rw [if_pos ev, ev, updI_at, itsG_append, List.take_left]
          · rw [if_neg ev, updI_ne _ ev]
        · have := hop hx
          unfold opT getR at this ⊢
          rw [hFt]; exact this
    · rw [updI_ne _ e] at hk
      obtain ⟨H, hR, hA, hH⟩ := h.held u hu k y hk
      exact ⟨_, hstep u k H (fun x => e x.symm) hR hA, hag u k H (fun x => e x.symm) hA, hH.same (hdt H u (fun x => e x.symm) (by rw [hA.len]; exact ht))⟩
end
section
variable {n m lk rg : Nat} {L : Nat → Nat} {X : Nat → Nat → Nat → Int} {mode : Int} {s0 s : Sx} {B : List Int} {g : Nat → List (Wt × Bool)}
/-- An order by which nothing is put into a buffer. f, f0: what becomes of the rest. -/
theorem InvR.still (h : InvR n m lk L X s0 s B g) (hs : SOk n L m lk rg mode s) {t : Nat} (ht : t < n) (p : Nat) (r : List Int) (B' : List Int) (f f0 : Sx → Sx) (hf : ∀ z, (f z).ths = z.ths) (hf0 : ∀ z, (f0 z).ths = z.ths) (hB : B'.length = m)
    (hmem : ∀ w : Nat, w < m → (f (setTh s t ⟨p, r, (thOf s t).wait⟩)).words.getD w 0 = valW n B' (fun t => dnG (g t)) w)
    (hpr : ∀ A, A.prints = s.prints → (f0 (setTh A t ⟨p, r, []⟩)).prints = (f (setTh s t ⟨p, r, (thOf s t).wait⟩)).prints)
    (hag : ∀ u k A, Agr n m lk (setTh s t ⟨p, r, (thOf s t).wait⟩) B (famG g u k) u A → Agr n m lk (f (setTh s t ⟨p, r, (thOf s t).wait⟩)) B' (famG g u k) u (f0 A))
    (hme : ∀ k A, k < (g t).length → Agr n m lk (setTh s t ⟨p, r, (thOf s t).wait⟩) B (famG g t k) t A → Agr n m lk (f (setTh s t ⟨p, r, (thOf s t).wait⟩)) B' (famG g t k) t A)
    (hstep : ∀ u k A, t ≠ u → Rch (nxX L X 0) s0 A → Agr n m lk s B (famG g u k) u A → Rch (nxX L X 0) s0 (f0 (setTh A t ⟨p, r, []⟩))) : InvR n m lk L X s0 (f (setTh s t ⟨p, r, (thOf s t).wait⟩)) B' g := by
  have hl : t < s.ths.length := by rw [hs.ths]; exact ht
  have hth : ∀ v, thOf (f (setTh s t ⟨p, r, (thOf s t).wait⟩)) v = if v = t then ⟨p, r, (thOf s t).wait⟩ else thOf s v := fun v => by
    have : thOf (f (setTh s t ⟨p, r, (thOf s t).wait⟩)) v = thOf (setTh s t ⟨p, r, (thOf s t).wait⟩) v := by unfold thOf; rw [hf]
    rw [this, thOf_set hl]
  have hdt : ∀ A u, t ≠ u → t < A.ths.length → thOf (f0 (setTh A t ⟨p, r, []⟩)) u = thOf A u := fun A u htu hA => by
    have : thOf (f0 (setTh A t ⟨p, r, []⟩)) u = thOf (setTh A t ⟨p, r, []⟩) u := by unfold thOf; rw [hf0]
    rw [this, thOf_set hA, if_neg (fun e => htu e.symm)]
  refine ⟨hB, fun v hv => ?_, h.lks, h.ord, h.rng, h.apart, hmem, ?_, fun u hu k y hk => ?_⟩
  · rw [hth]
    by_cases e : v = t
    · rw [if_pos e, e]; exact h.wait t ht
    · rw [if_neg e]; exact h.wait v hv
  · obtain ⟨F, hR, hA, hp⟩ := h.flush
    have htn : t ≠ n := by omega
    exact ⟨_, hstep n 0 F htn hR hA, hag n 0 _ (hA.setT hs.ths ht p r _), hpr F hp⟩
  · obtain ⟨H, hR, hA, hH⟩ := h.held u hu k y hk
    by_cases e : u = t
    · subst e
      have hkl : k < (g u).length := by have := (List.getElem?_eq_some_iff.mp hk).1; simpa [itsG] using this
      exact ⟨H, hR, hme k H hkl (hA.setU hs.ths hu _), hH⟩
    · exact ⟨_, hstep u k H (fun x => e x.symm) hR hA, hag u k _ (hA.setT hs.ths ht p r _), hH.same (hdt H u (fun x => e x.symm) (by rw [hA.len]; exact ht))⟩
/-- A thread does its order. -/
theorem InvR.order (h : InvR n m lk L X s0 s B g) (hs : SOk n L m lk rg mode s) (hc : COk n L X m lk rg) (hk : LkI s) (hmode : 0 < mode) (hfell : s.fell = false) (hno : ∀ A, Rch (nxX L X 0) s0 A → ∀ a b w, a < n → b < n → a ≠ b → ¬ ClashX L X A a b w) (hhd : ∀ t, t < n → HeadG (g t)) {t : Nat} (ht : t < n) (ha : ableT L X s t = true) (hf : (doX X mode s (8 * t)).fell = false) : ∃ B' g', InvR n m lk L X s0 (doX X mode s (8 * t)) B' g' := by
  have hl : t < s.ths.length := by rw [hs.ths]; exact ht
  have e13 : opT X s t 0 = 13 → (thOf s t).wait = [] := fun e => able_13 ha (Or.inr (Or.inl e))
  have hd := do_eff (mode := mode) hl e13
  rw [hd] at hf ⊢
  rw [eff_fell hfell] at hf
  cases heff : effT X s t with
  | none => rw [heff] at hf; cases hf
  | some q =>
    obtain ⟨p, r, k⟩ := q
    have hstep : ∀ u j A, t ≠ u → Rch (nxX L X 0) s0 A → Agr n m lk s B (famG g u j) u A → Rch (nxX L X 0) s0 (actX 0 (setTh A t ⟨p, r, []⟩) t k) := fun u j A htu hR hA => by
      have hAl : t < A.ths.length := by rw [hA.len]; exact ht
      have hAw : (thOf A t).wait = [] := by rw [hA.th t ht htu]
      have e1 := do_eff (X := X) (mode := 0) hAl (fun _ => hAw)
      rw [h.eff hs hc hk hno hA ht htu ha, heff] at e1
      have e2 : doX X 0 A (8 * t) = actX 0 (setTh A t ⟨p, r, []⟩) t k := by rw [e1]; unfold effS; rw [hAw]
      rw [← e2]
      refine rch_order hR hAl (hA.able hc ht htu ha) ?_
      rw [e1, eff_fell hA.fell]
      rfl
    have hor := ok_lt hc ht ha
    show ∃ B' g', InvR n m lk L X s0 (actX mode (setTh s t ⟨p, r, (thOf s t).wait⟩) t k) B' g'
    have hgt : (thOf s t).wait = [] → g t = [] := fun e => head_nil (hhd t ht) ((h.wait t ht).symm.trans e)
    have hpush : ∀ x, storeW mode (setTh s t ⟨p, r, (thOf s t).wait⟩) t x = setTh s t ⟨p, r, (thOf s t).wait ++ [x]⟩ := fun x => by
      unfold storeW
      rw [if_pos hmode, th_set hl, set_set]
    cases k with
    | no => exact ⟨B, g, h.still hs ht p r B id id (fun _ => rfl) (fun _ => rfl) h.bl h.mem (fun _ e => e) (fun _ _ _ e => e) (fun _ _ _ e => e) hstep⟩
    | say v =>
      exact ⟨B, g, h.still hs ht p r B (fun z => { z with prints := z.prints ++ [(t : Int), v] }) (fun z => { z with prints := z.prints ++ [(t : Int), v] }) (fun _ => rfl) (fun _ => rfl) h.bl h.mem (fun A e => by show A.prints ++ _ = s.prints ++ _; rw [e]) (fun _ _ _ e => e.prints _ _) (fun _ A _ e => ⟨e.len, e.th, e.wl, e.wd, e.ol, e.ow, e.fell⟩) hstep⟩
    | put a v =>
      have hp := eff_put heff
      have hop : (opT X s t 0 = 9 ∧ opT X s t 1 = a) ∨ (opT X s t 0 = 11 ∧ getR s t (opT X s t 1) = a) := hp.imp id fun e => ⟨e.1, e.2.1⟩
      have hrn : 0 ≤ a ∧ a < (m : Int) := by
        rcases hp with ⟨e1, e2⟩ | ⟨_, _, e3, e4⟩
        · rw [e1] at hor
          have := (ok_store hor).1
          rw [e2] at this; exact this
        · rw [hs.words] at e4; exact ⟨e3, e4⟩
      have htw : twX X s t = some (a, true) := by
        unfold twX
        rcases hop with ⟨e1, e2⟩ | ⟨e1, e2⟩
        · rw [e1, if_neg (by decide), if_pos rfl, e2]
        · rw [e1, if_neg (by decide), if_neg (by decide), if_neg (by decide), if_pos rfl, e2]
      refine ⟨B, updI g t (g t ++ [(⟨false, a, v⟩, false)]), ?_⟩
      show InvR n m lk L X s0 (storeW mode (setTh s t ⟨p, r, (thOf s t).wait⟩) t ⟨false, a, v⟩) B _
      rw [hpush]
      exact h.push hs ht ha ⟨false, a, v⟩ p r hrn (fun _ => h.sole hno ht ha htw hrn.1 hrn.2) (fun _ => hop) hstep
    | free a =>
      obtain ⟨e1, e2⟩ := eff_free heff
      rw [e1, e2] at hor
      refine ⟨B, updI g t (g t ++ [(⟨true, a, 0⟩, false)]), ?_⟩
      show InvR n m lk L X s0 (storeW mode (setTh s t ⟨p, r, (thOf s t).wait⟩) t ⟨true, a, 0⟩) B _
      rw [hpush]
      exact h.push hs ht ha ⟨true, a, 0⟩ p r (ok_lock (Or.inr rfl) hor) (fun e => by cases e) (fun e => by cases e) hstep
    | take a =>
      obtain ⟨e1, e2⟩ := eff_take heff
      have hfree := able_17 ha e1
      rw [e2] at hfree
      have hg0 := hgt (able_13 ha (Or.inr (Or.inr e1)))
      rw [e1, e2] at hor
      obtain ⟨j, rfl, hj⟩ := toN (ok_lock (Or.inl rfl) hor)
      refine ⟨B, g, h.still hs ht p r B (fun z => { z with own := z.own.set j t }) (fun z => { z with own := z.own.set j t }) (fun _ => rfl) (fun _ => rfl) h.bl h.mem (fun A e => e) (fun u k A hA => hA.take hs.own hj (fun v hv x hx => ?_) _) (fun k A hk _ => ?_) hstep⟩
      · cases hh : hitL (j : Int) x with
        | false => rfl
        | true =>
          have := (h.hit hk hs.ths hv hx hh).1
          rw [hfree] at this
          omega
      · rw [hg0] at hk; exact absurd hk (by simp)
    | swap a v =>
      obtain ⟨e1, e2⟩ := eff_swap heff
      have hg0 := hgt (e13 e1)
      have htw : twX X s t = some (a, false) := by
        unfold twX
        rw [e1, if_neg (by decide), if_neg (by decide), if_neg (by decide), if_neg (by decide), if_pos rfl, e2]
      rw [e1, e2] at hor
      obtain ⟨j, rfl, hj⟩ := toN (ok_cas hor).1
      have hso := h.sole hno ht ha htw (by omega) (by omega)
      have hn : ∀ y, y < n → lastI (itsG (g y)) (j : Int) = none := fun y hy => by
        by_cases e : y = t
        · rw [e, hg0]; rfl
        · exact hso y hy e
      refine ⟨B.set j v, g, h.still hs ht p r (B.set j v) (fun z => { z with words := z.words.set j v }) (fun z => { z with words := z.words.set j v }) (fun _ => rfl) (fun _ => rfl) (by simpa using h.bl) (fun w hw => ?_) (fun A e => e) (fun u k A hA => (hA.swap h.bl hj (fun y hy => fam_none (hn y hy)) v).wordsS _) (fun k A hk _ => ?_) hstep⟩
      · show (s.words.set j v).getD w 0 = _
        rw [val_set h.bl hj (fun y hy => dn_none (hn y hy)), getD_set _ _ _ _ (by rw [hs.words]; exact hj), h.mem w hw]
      · rw [hg0] at hk; exact absurd hk (by simp)
end
section
variable {n m lk rg : Nat} {L : Nat → Nat} {X : Nat → Nat → Nat → Int} {mode : Int} {s0 s : Sx} {B : List Int} {g : Nat → List (Wt × Bool)}
theorem hit_ne {x : Wt} {j w : Nat} (hj : x.wh = (j : Int)) (h : w ≠ j) : hitW (w : Int) x = false := by
  unfold hitW
  rw [hj]
  have : ¬ ((j : Int) = (w : Int)) := by omega
  simp [this]
theorem val_drop {I : Nat → List Wt} {t : Nat} (ht : t < n) {x : Wt} {l : List Wt} (hI : I t = x :: l) (hk : x.lk = false) {j : Nat} (hj : x.wh = (j : Int)) (hjm : j < B.length) (hap : Sole n I (j : Int) t) (w : Nat) : valW n B I (w : Int) = valW n (B.set j x.what) (updI I t l) (w : Int) := by
  by_cases e : w = j
  · subst e
    rw [val_sole ht hap, val_sole ht (fun v hv hvt => by rw [updI_ne _ hvt]; exact hap v hv hvt), updI_at, hI, lastI_cons, if_pos (by unfold hitW; rw [hk, hj]; simp)]
    show _ = (lastI l (w : Int)).getD ((B.set w x.what).getD w 0)
    rw [getD_set _ _ _ _ hjm, if_pos rfl]
    cases lastI l (w : Int) <;> rfl
  · refine val_congr (fun v hv => ?_) fun _ => ?_
    · by_cases ev : v = t
      · rw [ev, updI_at, hI, lastI_cons, hit_ne hj e]
        cases lastI l (w : Int) <;> rfl
      · rw [updI_ne _ ev]
    · show B.getD w 0 = (B.set j x.what).getD w 0
      rw [getD_set _ _ _ _ hjm, if_neg e]
theorem Agr.drop {I : Nat → List Wt} {u : Nat} {A : Sx} (h : Agr n m lk s B I u A) {t : Nat} (ht : t < n) {x : Wt} {l : List Wt} (hI : I t = x :: l) (hk : x.lk = false) {j : Nat} (hj : x.wh = (j : Int)) (hjm : j < B.length) (hap : Sole n I (j : Int) t) : Agr n m lk s (B.set j x.what) (updI I t l) u A :=
  ⟨h.len, h.th, h.wl, fun w hw => (h.wd w hw).trans (val_drop ht hI hk hj hjm hap w), h.ol, fun a ha => (h.ow a ha).trans (own_congr (fun v hv => by
    by_cases ev : v = t
    · rw [ev, updI_at, hI, List.any_cons]
      have : hitL a x = false := by unfold hitL; rw [hk]; rfl
      rw [this]; rfl
    · rw [updI_ne _ ev]) rfl), h.fell⟩
/-- The first one that was put into a buffer is done already: it is no more than what the word holds. -/
theorem InvR.drop (h : InvR n m lk L X s0 s B g) {t : Nat} (ht : t < n) {x : Wt} {l : List (Wt × Bool)} (hg : g t = (x, true) :: l) : ∃ B', InvR n m lk L X s0 s B' (updI g t l) := by
  have hk : x.lk = false := by
    cases e : x.lk with
    | false => rfl
    | true => have := h.lks t ht (x, true) (by rw [hg]; simp) e; cases this
  have hr := h.rng t ht (x, true) (by rw [hg]; simp)
  simp only [hk, Bool.false_eq_true, ↓reduceIte] at hr
  obtain ⟨j, hj, hjm⟩ := toN hr
  have hjB : j < B.length := by rw [h.bl]; exact hjm
  have hsole : Sole n (fun t => itsG (g t)) (j : Int) t := h.apart j t ht (by
    show lastI (itsG (g t)) (j : Int) ≠ none
    rw [hg]
    show lastI (x :: itsG l) (j : Int) ≠ none
    rw [lastI_cons, if_pos (by unfold hitW; rw [hk, hj]; simp)]
    cases lastI (itsG l) (j : Int) <;> simp)
  refine ⟨B.set j x.what, by simpa using h.bl, fun v hv => ?_, fun v hv q hq => ?_, fun v hv => ?_, fun v hv q hq => ?_, ?_, fun w hw => ?_, ?_, fun u hu k y hky => ?_⟩
  · rw [h.wait v hv]
    by_cases e : v = t
    · rw [e, updI_at, hg]; rfl
    · rw [updI_ne _ e]
  · by_cases e : v = t
    · rw [e, updI_at] at hq; exact h.lks t ht q (by rw [hg]; simp [hq])
    · rw [updI_ne _ e] at hq; exact h.lks v hv q hq
  · by_cases e : v = t
    · rw [e, updI_at]
      have := h.ord t ht
      rw [hg] at this
      exact (List.pairwise_cons.mp this).2
    · rw [updI_ne _ e]; exact h.ord v hv
  · by_cases e : v = t
    · rw [e, updI_at] at hq; exact h.rng t ht q (by rw [hg]; simp [hq])
    · rw [updI_ne _ e] at hq; exact h.rng v hv q hq
  · refine h.apart.sub fun v hv w hw => ?_
    by_cases e : v = t
    · subst e
      rw [updI_at]
      refine lastI_none.mpr fun y hy => lastI_none.mp hw y ?_
      show y ∈ itsG (g v)
      rw [hg]
      show y ∈ x :: itsG l
      simp [hy]
    · rw [updI_ne _ e]; exact hw
  · rw [h.mem w hw, val_drop (I := fun t => dnG (g t)) (l := dnG l) ht (by show dnG (g t) = _; rw [hg]; rfl) hk hj hjB (fun v hv hvt => dn_none (hsole v hv hvt)) w]
    refine val_congr (fun v hv => ?_) fun _ => rfl
    by_cases e : v = t
    · rw [e, updI_at, updI_at]
    · rw [updI_ne _ e, updI_ne _ e]
  · obtain ⟨F, hR, hA, hp⟩ := h.flush
    refine ⟨F, hR, (hA.drop (l := itsG l) ht (by rw [fam_at (by omega), hg]; rfl) hk hj hjB (fun v hv hvt => fam_none (hsole v hv hvt))).congrI fun v hv => ?_, hp⟩
    rw [fam_at (by omega)]
    by_cases e : v = t
    · rw [e, updI_at, updI_at]
    · rw [updI_ne _ e, updI_ne _ e, fam_at (by omega)]
  · by_cases e : u = t
    · subst e
      rw [updI_at] at hky
      obtain ⟨H, hR, hA, hH⟩ := h.held u hu (k + 1) y (by rw [hg]; exact hky)
      refine ⟨H, hR, (hA.drop (l := (itsG l).take k) ht (by unfold famG; rw [if_pos rfl, hg]; rfl) hk hj hjB (fun v hv hvt => fam_none (hsole v hv hvt))).congrI fun v hv => ?_, hH⟩
      unfold famG
      by_cases ev : v = u
      · rw [ev, updI_at, if_pos rfl, updI_at]
      · rw [updI_ne _ ev, if_neg ev, if_neg ev, updI_ne _ ev]
    · rw [updI_ne _ e] at hky
      obtain ⟨H, hR, hA, hH⟩ := h.held u hu k y hky
      refine ⟨H, hR, (hA.drop (l := itsG l) ht (by rw [fam_at (fun x => e x.symm), hg]; rfl) hk hj hjB (fun v hv hvt => fam_none (hsole v hv hvt))).congrI fun v hv => ?_, hH⟩
      by_cases ev : v = t
      · rw [ev, updI_at, fam_at (fun x => e x.symm), updI_at]
      · rw [updI_ne _ ev]
        unfold famG
        rw [updI_ne _ ev]
theorem InvR.normT {t : Nat} (ht : t < n) (c : Nat) : ∀ (B : List Int) (g : Nat → List (Wt × Bool)), (g t).length = c → InvR n m lk L X s0 s B g → ∃ B' g', InvR n m lk L X s0 s B' g' ∧ HeadG (g' t) ∧ ∀ v, v ≠ t → g' v = g v := by
  induction c with
  | zero => exact fun B g hc h => ⟨B, g, h, fun p hp => (by rw [List.length_eq_zero_iff.mp hc] at hp; cases hp), fun _ _ => rfl⟩
  | succ c ih =>
    intro B g hc h
    cases e : g t with
    | nil => exact ⟨B, g, h, fun p hp => (by rw [e] at hp; cases hp), fun _ _ => rfl⟩
    | cons p l =>
      obtain ⟨x, d⟩ := p
      cases d with
      | false => exact ⟨B, g, h, fun p hp => (by rw [e] at hp; cases hp; rfl), fun _ _ => rfl⟩
      | true =>
        obtain ⟨B1, h1⟩ := h.drop ht e
        rw [e] at hc
        obtain ⟨B2, g2, h2, h3, h4⟩ := ih B1 (updI g t l) (by rw [updI_at]; simpa using hc) h1
        exact ⟨B2, g2, h2, h3, fun v hv => (h4 v hv).trans (updI_ne _ hv _)⟩
theorem InvR.norm (h : InvR n m lk L X s0 s B g) : ∀ j, j ≤ n → ∃ B' g', InvR n m lk L X s0 s B' g' ∧ ∀ t, t < j → HeadG (g' t)
  | 0, _ => ⟨B, g, h, fun _ ht => absurd ht (Nat.not_lt_zero _)⟩
  | j + 1, hj => by
    obtain ⟨B1, g1, h1, h2⟩ := h.norm j (by omega)
    obtain ⟨B2, g2, h3, h4, h5⟩ := InvR.normT (t := j) (by omega) _ B1 g1 rfl h1
    refine ⟨B2, g2, h3, fun t ht => ?_⟩
    by_cases e : t = j
    · rw [e]; exact h4
    · rw [h5 t e]; exact h2 t (by omega)
theorem Agr.sameS {I : Nat → List Wt} {u : Nat} {A s' : Sx} (h : Agr n m lk s B I u A) (hth : ∀ v, v < n → (thOf s' v).pc = (thOf s v).pc ∧ (thOf s' v).regs = (thOf s v).regs) (ho : s'.own = s.own) : Agr n m lk s' B I u A :=
  ⟨h.len, fun v hv hvu => by rw [(hth v hv).1, (hth v hv).2]; exact h.th v hv hvu, h.wl, h.wd, h.ol, fun a ha => by rw [ho]; exact h.ow a ha, h.fell⟩
/-- A word becomes what waited. -/
theorem InvR.mark (h : InvR n m lk L X s0 s B g) (hs : SOk n L m lk rg mode s) {t : Nat} (ht : t < n) {a b : List (Wt × Bool)} {x : Wt} (hg : g t = a ++ (x, false) :: b) (hk : x.lk = false) (hmay : ∀ y, y ∈ pdG a → y.lk = false ∧ y.wh ≠ x.wh) : InvR n m lk L X s0 (setTh (doneW s x) t { thOf s t with wait := pdG a ++ pdG b }) B (updI g t (a ++ (x, true) :: b)) := by
  have hl : t < s.ths.length := by rw [hs.ths]; exact ht
  have hr := h.rng t ht (x, false) (by rw [hg]; simp)
  simp only [hk, Bool.false_eq_true, ↓reduceIte] at hr
  obtain ⟨j, hj, hjm⟩ := toN hr
  have hd : doneW s x = { s with words := s.words.set j x.what } := by unfold doneW; rw [hk, hj]; rfl
  rw [hd]
  have hth : ∀ v, thOf (setTh { s with words := s.words.set j x.what } t { thOf s t with wait := pdG a ++ pdG b }) v = if v = t then { thOf s t with wait := pdG a ++ pdG b } else thOf s v := fun v => by
    rw [thOf_set (s := { s with words := s.words.set j x.what }) hl]; rfl
  have hsame : ∀ v, v < n → (thOf (setTh { s with words := s.words.set j x.what } t { thOf s t with wait := pdG a ++ pdG b }) v).pc = (thOf s v).pc ∧ (thOf (setTh { s with words := s.words.set j x.what } t { thOf s t with wait := pdG a ++ pdG b }) v).regs = (thOf s v).regs := fun v _ => by
    rw [hth]
    by_cases e : v = t
    · rw [if_pos e, e]; exact ⟨rfl, rfl⟩
    · rw [if_neg e]; exact ⟨rfl, rfl⟩
  have hits : ∀ v, itsG (updI g t (a ++ (x, true) :: b) v) = itsG (g v) := fun v => by
    by_cases e : v = t
    · rw [e, updI_at, hg, itsG_append, itsG_append]; rfl
    · rw [updI_ne _ e]
  have hfam : ∀ u k, famG (updI g t (a ++ (x, true) :: b)) u k = famG g u k := fun u k => by
    funext v; unfold famG; rw [hits]
  have hord := h.ord t ht
  rw [hg] at hord
  unfold OrdG at hord
  rw [List.pairwise_append, List.pairwise_cons] at hord
  obtain ⟨o1, ⟨o2, o3⟩, o4⟩ := hord
  refine ⟨h.bl, fun v hv => ?_, fun v hv q hq hql => ?_, fun v hv => ?_, fun v hv q hq => ?_, ?_, fun w hw => ?_, ?_, fun u hu k y hky => ?_⟩
  · rw [hth]
    by_cases e : v = t
    · rw [if_pos e, e, updI_at, pdG_append]; rfl
    · rw [if_neg e, updI_ne _ e]; exact h.wait v hv
  · by_cases e : v = t
    · rw [e, updI_at] at hq
      simp only [List.mem_append, List.mem_cons] at hq
      rcases hq with hq | rfl | hq
      · exact h.lks t ht q (by rw [hg]; simp [hq]) hql
      · rw [hk] at hql; cases hql
      · exact h.lks t ht q (by rw [hg]; simp [hq]) hql
    · rw [updI_ne _ e] at hq; exact h.lks v hv q hq hql
  · by_cases e : v = t
    · rw [e, updI_at]
      unfold OrdG
      rw [List.pairwise_append, List.pairwise_cons]
      refine ⟨o1, ⟨fun q _ _ => ⟨hk, fun _ => rfl⟩, o3⟩, fun p hp q hq hd => ?_⟩
      simp only [List.mem_cons] at hq
      rcases hq with rfl | hq
      · cases hp2 : p.2 with
        | true =>
          refine ⟨?_, fun _ => rfl⟩
          cases e2 : p.1.lk with
          | false => rfl
          | true => rw [h.lks t ht p (by rw [hg]; simp [hp]) e2] at hp2; cases hp2
        | false =>
          have := hmay p.1 (by simp only [pdG, List.mem_map, List.mem_filter]; exact ⟨p, ⟨hp, by rw [hp2]; rfl⟩, rfl⟩)
          exact ⟨this.1, fun e => absurd e this.2⟩
      · exact o4 p hp q (by simp [hq]) hd
    · rw [updI_ne _ e]; exact h.ord v hv
  · by_cases e : v = t
    · rw [e, updI_at] at hq
      simp only [List.mem_append, List.mem_cons] at hq
      rcases hq with hq | rfl | hq
      · exact h.rng t ht q (by rw [hg]; simp [hq])
      · exact h.rng t ht (x, false) (by rw [hg]; simp)
      · exact h.rng t ht q (by rw [hg]; simp [hq])
    · rw [updI_ne _ e] at hq; exact h.rng v hv q hq
  · intro w v hv hne y hy hyv
    show lastI (itsG (updI g t _ y)) w = none
    have hne2 : lastI (itsG (updI g t (a ++ (x, true) :: b) v)) w ≠ none := hne
    rw [hits] at hne2 ⊢
    exact h.apart w v hv hne2 y hy hyv
  · show (s.words.set j x.what).getD w 0 = _
    rw [getD_set _ _ _ _ (by rw [hs.words]; exact hjm), h.mem w hw]
    have hdn : dnG (updI g t (a ++ (x, true) :: b) t) = dnG a ++ x :: dnG b := by rw [updI_at, dnG_append]; rfl
    have hdo : dnG (g t) = dnG a ++ dnG b := by rw [hg, dnG_append]; rfl
    by_cases e : w = j
    · subst e
      have hit : hitW (w : Int) x = true := by unfold hitW; rw [hk, hj]; simp
      have hso : Sole n (fun t => itsG (g t)) (w : Int) t := h.apart w t ht (fun e => by
        have := lastI_none.mp e x (by show x ∈ itsG (g t); rw [hg, itsG_append]; simp [itsG])
        rw [hit] at this; cases this)
      rw [if_pos rfl, val_sole ht (fun v hv hvt => by rw [updI_ne _ hvt]; exact dn_none (hso v hv hvt)), hdn, lastI_append, lastI_cons, if_pos hit]
      have hb : lastI (dnG b) (w : Int) = none := lastI_none.mpr fun y hy => by
        cases hh : hitW (w : Int) y with
        | false => rfl
        | true =>
          exfalso
          simp only [dnG, List.mem_map, List.mem_filter] at hy
          obtain ⟨q, ⟨hq, hd2⟩, rfl⟩ := hy
          unfold hitW at hh
          simp only [Bool.and_eq_true, Bool.not_eq_true', decide_eq_true_eq] at hh
          have := (o2 q hq hd2).2 (by rw [hj, hh.2])
          cases this
      rw [hb]; rfl
    · rw [if_neg e]
      refine val_congr (fun v hv => ?_) fun _ => rfl
      by_cases ev : v = t
      · rw [ev, hdn, hdo, lastI_append, lastI_append, lastI_cons, hit_ne hj e]
        cases lastI (dnG b) (w : Int) <;> rfl
      · rw [updI_ne _ ev]
  · obtain ⟨F, hR, hA, hp⟩ := h.flush
    exact ⟨F, hR, by rw [hfam]; exact hA.sameS hsame rfl, hp⟩
  · rw [hits] at hky
    obtain ⟨H, hR, hA, hH⟩ := h.held u hu k y hky
    exact ⟨H, hR, by rw [hfam]; exact hA.sameS hsame rfl, hH⟩
theorem Agr.freed {I : Nat → List Wt} {u : Nat} {A s' : Sx} (h : Agr n m lk s B I u A) {t : Nat} (ht : t < n) {x : Wt} {l : List Wt} (hI : I t = x :: l) (hk : x.lk = true) {j : Nat} (hj : x.wh = (j : Int)) (hjm : j < s.own.length) (hth : ∀ v, v < n → (thOf s' v).pc = (thOf s v).pc ∧ (thOf s' v).regs = (thOf s v).regs) (ho : s'.own = s.own.set j (-1)) : Agr n m lk s' B (updI I t l) u A :=
  ⟨h.len, fun v hv hvu => by rw [(hth v hv).1, (hth v hv).2]; exact h.th v hv hvu, h.wl, fun w hw => (h.wd w hw).trans (val_congr (fun v hv => by
    by_cases ev : v = t
    · rw [ev, updI_at, hI, lastI_cons]
      have : hitW (w : Int) x = false := by unfold hitW; rw [hk]; rfl
      rw [this]
      cases lastI l (w : Int) <;> rfl
    · rw [updI_ne _ ev]) fun _ => rfl), h.ol, fun a ha => (h.ow a ha).trans (by
    rw [ho]
    by_cases e : a = j
    · subst e
      rw [own_yes (t := t) (x := x) ht (by rw [hI]; simp) (by unfold hitL; rw [hk, hj]; simp)]
      rcases own_cases (n := n) (I := updI I t l) (a : Int) with ⟨v, y, hv, hy, hh⟩ | hno
      · rw [own_yes hv hy hh]
      · rw [own_not hno]
        show _ = (s.own.set a (-1)).getD a 0
        rw [getD_set _ _ _ _ hjm, if_pos rfl]
    · refine own_congr (fun v hv => ?_) ?_
      · by_cases ev : v = t
        · rw [ev, updI_at, hI, List.any_cons]
          have : hitL (a : Int) x = false := by
            unfold hitL
            rw [hj]
            have : ¬ ((j : Int) = (a : Int)) := by omega
            simp [this]
          rw [this]; rfl
        · rw [updI_ne _ ev]
      · show s.own.getD a 0 = (s.own.set j (-1)).getD a 0
        rw [getD_set _ _ _ _ hjm, if_neg e]), h.fell⟩
/-- A lock becomes free that waited for it. -/
theorem InvR.freed (h : InvR n m lk L X s0 s B g) (hs : SOk n L m lk rg mode s) {t : Nat} (ht : t < n) {b : List (Wt × Bool)} {x : Wt} (hg : g t = (x, false) :: b) (hk : x.lk = true) : InvR n m lk L X s0 (setTh (doneW s x) t { thOf s t with wait := pdG b }) B (updI g t b) := by
  have hl : t < s.ths.length := by rw [hs.ths]; exact ht
  have hr := h.rng t ht (x, false) (by rw [hg]; simp)
  simp only [hk, ↓reduceIte] at hr
  obtain ⟨j, hj, hjm⟩ := toN hr
  have hd : doneW s x = { s with own := s.own.set j (-1) } := by unfold doneW; rw [hk, hj]; rfl
  rw [hd]
  have hth : ∀ v, thOf (setTh { s with own := s.own.set j (-1) } t { thOf s t with wait := pdG b }) v = if v = t then { thOf s t with wait := pdG b } else thOf s v := fun v => by
    rw [thOf_set (s := { s with own := s.own.set j (-1) }) hl]; rfl
  have hsame : ∀ v, v < n → (thOf (setTh { s with own := s.own.set j (-1) } t { thOf s t with wait := pdG b }) v).pc = (thOf s v).pc ∧ (thOf (setTh { s with own := s.own.set j (-1) } t { thOf s t with wait := pdG b }) v).regs = (thOf s v).regs := fun v _ => by
    rw [hth]
    by_cases e : v = t
    · rw [if_pos e, e]; exact ⟨rfl, rfl⟩
    · rw [if_neg e]; exact ⟨rfl, rfl⟩
  have hjo : j < s.own.length := by rw [hs.own]; exact hjm
  refine ⟨h.bl, fun v hv => ?_, fun v hv q hq => ?_, fun v hv => ?_, fun v hv q hq => ?_, ?_, fun w hw => ?_, ?_, fun u hu k y hky => ?_⟩
  · rw [hth]
    by_cases e : v = t
    · rw [if_pos e, e, updI_at]
    · rw [if_neg e, updI_ne _ e]; exact h.wait v hv
  · by_cases e : v = t
    · rw [e, updI_at] at hq; exact h.lks t ht q (by rw [hg]; simp [hq])
    · rw [updI_ne _ e] at hq; exact h.lks v hv q hq
  · by_cases e : v = t
    · rw [e, updI_at]
      have := h.ord t ht
      rw [hg] at this
      exact (List.pairwise_cons.mp this).2
    · rw [updI_ne _ e]; exact h.ord v hv
  · by_cases e : v = t
    · rw [e, updI_at] at hq; exact h.rng t ht q (by rw [hg]; simp [hq])
    · rw [updI_ne _ e] at hq; exact h.rng v hv q hq
  · refine h.apart.sub fun v hv w hw => ?_
    by_cases e : v = t
    · subst e
      rw [updI_at]
      refine lastI_none.mpr fun y hy => lastI_none.mp hw y ?_
      show y ∈ itsG (g v)
      rw [hg]
      show y ∈ x :: itsG b
      simp [hy]
    · rw [updI_ne _ e]; exact hw
  · show s.words.getD w 0 = _
    rw [h.mem w hw]
    refine val_congr (fun v hv => ?_) fun _ => rfl
    by_cases e : v = t
    · rw [e, updI_at, hg]; rfl
    · rw [updI_ne _ e]
  · obtain ⟨F, hR, hA, hp⟩ := h.flush
    refine ⟨F, hR, (hA.freed (l := itsG b) ht (by rw [fam_at (by omega), hg]; rfl) hk hj hjo hsame rfl).congrI fun v hv => ?_, hp⟩
    rw [fam_at (by omega)]
    by_cases e : v = t
    · rw [e, updI_at, updI_at]
    · rw [updI_ne _ e, updI_ne _ e, fam_at (by omega)]
  · by_cases e : u = t
    · subst e
      rw [updI_at] at hky
      obtain ⟨H, hR, hA, hH⟩ := h.held u hu (k + 1) y (by rw [hg]; exact hky)
      refine ⟨H, hR, (hA.freed (l := (itsG b).take k) ht (by unfold famG; rw [if_pos rfl, hg]; rfl) hk hj hjo hsame rfl).congrI fun v hv => ?_, hH⟩
      unfold famG
      by_cases ev : v = u
      · rw [ev, updI_at, if_pos rfl, updI_at]
      · rw [updI_ne _ ev, if_neg ev, if_neg ev, updI_ne _ ev]
    · rw [updI_ne _ e] at hky
      obtain ⟨H, hR, hA, hH⟩ := h.held u hu k y hky
      refine ⟨H, hR, (hA.freed (l := itsG b) ht (by rw [fam_at (fun x => e x.symm), hg]; rfl) hk hj hjo hsame rfl).congrI fun v hv => ?_, hH⟩
      by_cases ev : v = t
      · rw [ev, updI_at, fam_at (fun x => e x.symm), updI_at]
      · rw [updI_ne _ ev]
        unfold famG
        rw [updI_ne _ ev]
end
section
variable {n m lk rg : Nat} {L : Nat → Nat} {X : Nat → Nat → Nat → Int} {mode : Int} {s0 s : Sx} {B : List Int} {g : Nat → List (Wt × Bool)}
/-- One that waited is done. -/
theorem InvR.wait_done (h : InvR n m lk L X s0 s B g) (hs : SOk n L m lk rg mode s) (hhd : ∀ t, t < n → HeadG (g t)) {t k : Nat} (ht : t < n) (hk : k < (thOf s t).wait.length) (hmay : mayW mode (thOf s t).wait k = true) : ∃ B' g', InvR n m lk L X s0 (doX X mode s (8 * t + k + 1)) B' g' := by
  have hk3 := hs.wlen t ht
  rw [doX_wait (by omega)]
  rw [h.wait t ht] at hk hmay ⊢
  obtain ⟨a, x, b, hg, hak⟩ := pd_split hk
  have hpd : pdG (g t) = pdG a ++ x :: pdG b := by rw [hg, pdG_append]; rfl
  have hget : (pdG (g t)).getD k default = x := by
    rw [hpd, ← hak]
    simp [List.getD]
  have her : (pdG (g t)).eraseIdx k = pdG a ++ pdG b := by
    rw [hpd, ← hak]
    simp [List.eraseIdx_append_of_length_le]
  have htk : (pdG (g t)).take k = pdG a := by rw [hpd, ← hak, List.take_left]
  rw [hget, her]
  unfold mayW at hmay
  rw [hget, htk] at hmay
  cases hl : x.lk with
  | true =>
    have hk0 : k = 0 := by
      by_cases e : k = 0
      · exact e
      · rw [if_neg e, if_pos (Or.inr hl)] at hmay; cases hmay
    subst hk0
    have ha : a = [] := by
      cases a with
      | nil => rfl
      | cons p a =>
        exfalso
        have := hhd t ht p (by rw [hg]; rfl)
        obtain ⟨y, d⟩ := p
        simp only at this
        subst this
        simp [pdG] at hak
    subst ha
    exact ⟨B, _, h.freed hs ht hg hl⟩
  | false =>
    refine ⟨B, _, h.mark hs ht hg hl fun y hy => ?_⟩
    by_cases e : k = 0
    · rw [e] at hak
      rw [List.length_eq_zero_iff.mp hak] at hy
      cases hy
    · rw [if_neg e] at hmay
      split at hmay
      · cases hmay
      · rw [List.all_eq_true] at hmay
        have := hmay y hy
        simpa using this
theorem ext_getD {l r : List Int} (hl : l.length = r.length) (h : ∀ i, i < l.length → l.getD i 0 = r.getD i 0) : l = r := by
  refine List.ext_getElem hl fun i h1 h2 => ?_
  have := h i h1
  simpa [List.getD, h1, h2] using this
/-- Where nothing waits, the state is one of the machine in which nothing waits. -/
theorem InvR.bare (h : InvR n m lk L X s0 s B g) (hs : SOk n L m lk rg mode s) (hf : s.fell = false) (hb : ∀ t, t < n → (thOf s t).wait = []) : Rch (nxX L X 0) s0 s := by
  obtain ⟨B, g, h, hhd⟩ := h.norm n (Nat.le_refl _)
  have hg : ∀ t, t < n → g t = [] := fun t ht => head_nil (hhd t ht) ((h.wait t ht).symm.trans (hb t ht))
  obtain ⟨F, hR, hA, hp⟩ := h.flush
  have e : F = s := by
    have h1 : F.ths = s.ths := by
      refine List.ext_getElem (hA.len.trans hs.ths.symm) fun i h1 h2 => ?_
      have hi : i < n := by rw [← hA.len]; exact h1
      have := hA.th i hi (by omega)
      have e2 : thOf F i = F.ths[i] := by simp [thOf, List.getD, h1]
      have e3 : thOf s i = s.ths[i] := by simp [thOf, List.getD, h2]
      rw [e2, ← hb i hi] at this
      rw [← e3]; exact this
    have h2 : F.words = s.words := ext_getD (hA.wl.trans hs.words.symm) fun i hi => by
      rw [hA.wl] at hi
      rw [hA.wd i hi, h.mem i hi]
      exact val_congr (fun v hv => by rw [fam_at (by omega), hg v hv]; rfl) fun _ => rfl
    have h3 : F.own = s.own := ext_getD (hA.ol.trans hs.own.symm) fun i hi => by
      rw [hA.ol] at hi
      rw [hA.ow i hi, own_not (fun v hv x hx => by rw [fam_at (by omega), hg v hv] at hx; cases hx)]
      rfl
    have h4 := hA.fell
    cases F; cases s
    simp only at h1 h2 h3 hp h4 hf
    rw [h1, h2, h3, hp, h4, hf]
  rw [← e]; exact hR
/-- At first. -/
theorem InvR.begin (hs : SOk n L m lk rg mode s) (hf : s.fell = false) (hb : ∀ t, t < n → (thOf s t).wait = []) : InvR n m lk L X s s s.words fun _ => [] := by
  refine ⟨hs.words, fun t ht => hb t ht, fun _ _ p hp => (by cases hp), fun _ _ => List.Pairwise.nil, fun _ _ p hp => (by cases hp), fun w t _ h => absurd rfl h, fun w hw => ?_, ⟨s, .base, ⟨hs.ths, fun v hv _ => ?_, hs.words, fun w hw => ?_, hs.own, fun a ha => ?_, hf⟩, rfl⟩, fun u _ k x hk => (by cases hk)⟩
  · rw [val_none (fun _ _ => rfl)]; rfl
  · have := hb v hv
    cases e : thOf s v
    rw [e] at this
    simp only at this
    rw [this]
  · rw [val_none (fun v hv => by unfold famG; split <;> rfl)]; rfl
  · rw [own_not (fun v hv x hx => by unfold famG at hx; split at hx <;> cases hx)]; rfl
theorem moves_bareM {s : Sx} (h : ∀ t, t < s.ths.length → (thOf s t).wait = []) : movesX L X mode s = movesX L X 0 s := by
  unfold movesX
  rw [List.flatMap_def, List.flatMap_def]
  refine congrArg List.flatten (List.map_congr_left fun t ht => ?_)
  have hw := h t (by simpa using ht)
  unfold movesT
  rw [hw]
  rfl
theorem mem_wait {s : Sx} {t : Nat} (ht : t < s.ths.length) (hw : (thOf s t).wait ≠ []) : movesX L X mode s ≠ [] := by
  intro e
  unfold movesX at e
  rw [List.flatMap_eq_nil_iff] at e
  have h1 := e t (by simpa using ht)
  unfold movesT at h1
  rw [List.append_eq_nil_iff] at h1
  have h2 := h1.2
  rw [List.map_eq_nil_iff, List.filter_eq_nil_iff] at h2
  have h3 : 0 < (thOf s t).wait.length := List.length_pos_iff.mpr hw
  have := h2 0 (by simpa using h3)
  exact this rfl
/-- WITHOUT CLASHES what waits cannot be seen: what holds of each state that is come to. -/
theorem race_reach (hs0 : SOk n L m lk rg mode s0) (hf0 : s0.fell = false) (hb0 : ∀ t, t < n → (thOf s0 t).wait = []) (hk0 : LkI s0) (hc : COk n L X m lk rg) (hmode : 0 < mode) (hno : ∀ A, Rch (nxX L X 0) s0 A → ∀ a b w, a < n → b < n → a ≠ b → ¬ ClashX L X A a b w) (h : Rch (nxX L X mode) s0 s) : (SOk n L m lk rg mode s ∧ s.fell = false ∧ LkI s) ∧ ∃ B g, InvR n m lk L X s0 s B g := by
  induction h with
  | base => exact ⟨⟨hs0, hf0, hk0⟩, _, _, InvR.begin hs0 hf0 hb0⟩
  | @step s t _ hnx ih =>
    obtain ⟨⟨hs, hf, hk⟩, B, g, hI⟩ := ih
    obtain ⟨mv, hmv, rfl, hfe⟩ := mem_nx.mp hnx
    refine ⟨⟨move_ok hs hc (by omega) hmv, hfe, hk.move hs hc (by omega) hmv⟩, ?_⟩
    obtain ⟨B, g, hI, hhd⟩ := hI.norm n (Nat.le_refl _)
    rcases movesX_mem hmv with ⟨t, ht, rfl, ha⟩ | ⟨t, k, ht, hk2, rfl, hmay⟩
    · rw [do_nat] at hfe ⊢
      exact hI.order hs hc hk hmode hf hno hhd (by rw [← hs.ths]; exact ht) ha hfe
    · rw [show (8 * (t : Int) + (k : Int) + 1).toNat = 8 * t + k + 1 by omega]
      exact hI.wait_done hs hhd (by rw [← hs.ths]; exact ht) hk2 hmay
/-- WITHOUT CLASHES what waits cannot be seen: each outcome is one without. -/
theorem race_free (hs0 : SOk n L m lk rg mode s0) (hf0 : s0.fell = false) (hb0 : ∀ t, t < n → (thOf s0 t).wait = []) (hk0 : LkI s0) (hc : COk n L X m lk rg) (hmode : 0 < mode) (hno : ∀ A, Rch (nxX L X 0) s0 A → ∀ a b w, a < n → b < n → a ≠ b → ¬ ClashX L X A a b w) (h : Rch (nxX L X mode) s0 s) {o : Oc} (ho : o ∈ outsX L X mode s) : ∃ r, Rch (nxX L X 0) s0 r ∧ o ∈ outsX L X 0 r := by
  obtain ⟨⟨hs, hf, hk⟩, B, g, hI⟩ := race_reach hs0 hf0 hb0 hk0 hc hmode hno h
  unfold outsX at ho
  rw [List.mem_append] at ho
  rcases ho with ho | ho
  · by_cases e : movesX L X mode s = []
    · rw [if_pos e] at ho
      have hb : ∀ t, t < s.ths.length → (thOf s t).wait = [] := fun t ht => Classical.byContradiction fun hne => mem_wait ht hne e
      refine ⟨s, hI.bare hs hf (fun t ht => hb t (by rw [hs.ths]; exact ht)), ?_⟩
      unfold outsX
      rw [← moves_bareM (mode := mode) hb, if_pos e, List.mem_append]
      exact Or.inl ho
    · rw [if_neg e] at ho; cases ho
  · rw [List.mem_filterMap] at ho
    obtain ⟨mv, hmv, ho⟩ := ho
    split at ho
    · rename_i hfe
      cases ho
      rcases movesX_mem hmv with ⟨t, ht, rfl, ha⟩ | ⟨t, k, ht, hk2, rfl, hmay⟩
      · have htn : t < n := by rw [← hs.ths]; exact ht
        obtain ⟨F, hR, hA, hp⟩ := hI.flush
        have htu : t ≠ n := by omega
        have hAl : t < F.ths.length := by rw [hA.len]; exact htn
        have hAw : (thOf F t).wait = [] := by rw [hA.th t htn htu]
        have e13 : opT X s t 0 = 13 → (thOf s t).wait = [] := fun e => able_13 ha (Or.inr (Or.inl e))
        rw [do_nat, do_eff ht e13] at hfe ⊢
        rw [eff_fell hf] at hfe
        have heff : effT X s t = none := by
          cases e : effT X s t with
          | none => rfl
          | some q => rw [e] at hfe; cases hfe
        have e1 := do_eff (X := X) (mode := 0) hAl (fun _ => hAw)
        rw [hI.eff hs hc hk hno hA htn htu ha, heff] at e1
        refine ⟨F, hR, ?_⟩
        unfold outsX
        rw [List.mem_append, List.mem_filterMap]
        refine Or.inr ⟨8 * (t : Int), mem_order hAl (hA.able hc htn htu ha), ?_⟩
        rw [do_nat, e1, heff]
        show (if true = true then some (⟨1, [], F.prints⟩ : Oc) else none) = some ⟨1, [], s.prints⟩
        rw [if_pos rfl]
        show some (⟨1, [], F.prints⟩ : Oc) = some ⟨1, [], s.prints⟩
        rw [hp]
      · rw [show (8 * (t : Int) + (k : Int) + 1).toNat = 8 * t + k + 1 by omega] at hfe
        have hk3 := hs.wlen t (by rw [← hs.ths]; exact ht)
        rw [doX_wait (by omega)] at hfe
        have : (setTh (doneW s ((thOf s t).wait.getD k default)) t { thOf s t with wait := (thOf s t).wait.eraseIdx k }).fell = s.fell := by
          unfold setTh doneW; split <;> rfl
        rw [this, hf] at hfe
        cases hfe
    · cases ho
end

end Go.Proofs.YtgofbkgfonlceacGreatDoor
