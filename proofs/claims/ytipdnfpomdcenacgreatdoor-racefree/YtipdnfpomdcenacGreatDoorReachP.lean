/-
  What holds of all that can be come to; what a run comes to is one of the outcomes; each outcome without stores that wait is one with them: plain functions.
  States that are gone through one behind the other: plain functions.
  States that are gone through by the program, the last one first: plain functions.
-/
import Derived.Test.YtipdnfpomdcenacGreatDoorWorkP
import Derived.Test.YtipdnfpomdcenacGreatDoorRDoW
namespace Go.Proofs.YtipdnfpomdcenacGreatDoor
section
open Go.RowKit

section
variable {n : Nat} {L : Nat → Nat} {X : Nat → Nat → Nat → Int} {m lk rg : Nat} {mode : Int}
theorem moves_ended {s : Sx} (h : endedX L s = true) : movesX L X mode s = [] := by
  unfold movesX
  rw [List.flatMap_eq_nil_iff]
  intro t ht
  unfold endedX at h
  rw [List.all_eq_true] at h
  have h1 := h t ht
  rw [Bool.and_eq_true] at h1
  have hw : (thOf s t).wait = [] := List.isEmpty_iff.mp h1.2
  unfold movesT
  rw [hw]
  have ha : ableT L X s t = false := by unfold ableT; rw [if_pos h1.1]
  rw [ha]
  rfl
/-- What a move makes of a state that may be. -/
theorem move_ok {s : Sx} (h : SOk n L m lk rg mode s) (hc : COk n L X m lk rg) (hm : 0 ≤ mode) {mv : Int} (hmv : mv ∈ movesX L X mode s) : SOk n L m lk rg mode (doX X mode s mv.toNat) := by
  rcases movesX_mem hmv with ⟨t, ht, rfl, ha⟩ | ⟨t, k, ht, hk, rfl, _⟩
  · rw [show (8 * (t : Int)).toNat = 8 * t by omega]
    exact h.step hc hm (by rw [← h.ths]; exact ht) ha
  · rw [show (8 * (t : Int) + (k : Int) + 1).toNat = 8 * t + k + 1 by omega]
    exact h.wait (by rw [← h.ths]; exact ht) hk
theorem mem_nx {s t : Sx} : t ∈ nxX L X mode s ↔ ∃ mv, mv ∈ movesX L X mode s ∧ doX X mode s mv.toNat = t ∧ t.fell = false := by
  unfold nxX
  rw [List.mem_filterMap]
  constructor
  · rintro ⟨mv, h1, h2⟩
    cases hf : (doX X mode s mv.toNat).fell with
    | true => rw [hf] at h2; cases h2
    | false =>
      rw [hf] at h2
      have e : doX X mode s mv.toNat = t := Option.some.inj h2
      exact ⟨mv, h1, e, by rw [← e]; exact hf⟩
  · rintro ⟨mv, h1, h2, h3⟩
    exact ⟨mv, h1, by rw [h2, h3]; rfl⟩
/-- What holds of all that can be come to. -/
theorem reach_ok {s0 s : Sx} (h0 : SOk n L m lk rg mode s0) (hf : s0.fell = false) (hc : COk n L X m lk rg) (hm : 0 ≤ mode) (h : Rch (nxX L X mode) s0 s) : SOk n L m lk rg mode s ∧ s.fell = false := by
  induction h with
  | base => exact ⟨h0, hf⟩
  | step _ ht ih =>
    obtain ⟨mv, h1, h2, h3⟩ := mem_nx.mp ht
    rw [← h2]
    exact ⟨move_ok ih.1 hc hm h1, by rw [h2]; exact h3⟩
end
theorem order_modes (s : Sx) (t : Nat) (op a b c : Int) : orderX 1 s t op a b c = orderX 0 s t op a b c ∨ ∃ x, orderX 1 s t op a b c = storeW 1 s t x ∧ orderX 0 s t op a b c = storeW 0 s t x := by
  unfold orderX
  by_cases e : op = 1
  · rw [if_pos e, if_pos e]
    exact Or.inl rfl
  rw [if_neg e, if_neg e]
  clear e
  by_cases e : op = 2
  · rw [if_pos e, if_pos e]
    exact Or.inl rfl
  rw [if_neg e, if_neg e]
  clear e
  by_cases e : op = 3
  · rw [if_pos e, if_pos e]
    exact Or.inl rfl
  rw [if_neg e, if_neg e]
  clear e
  by_cases e : op = 4
  · rw [if_pos e, if_pos e]
    exact Or.inl rfl
  rw [if_neg e, if_neg e]
  clear e
  by_cases e : op = 5
  · rw [if_pos e, if_pos e]
    exact Or.inl rfl
  rw [if_neg e, if_neg e]
  clear e
  by_cases e : op = 6
  · rw [if_pos e, if_pos e]
    exact Or.inl rfl
  rw [if_neg e, if_neg e]
  clear e
  by_cases e : op = 7
  · rw [if_pos e, if_pos e]
    exact Or.inl rfl
  rw [if_neg e, if_neg e]
  clear e
  by_cases e : op = 8
  · rw [if_pos e, if_pos e]
    exact Or.inl rfl
  rw [if_neg e, if_neg e]
  clear e
  by_cases e : op = 9
  · rw [if_pos e, if_pos e]
    exact Or.inr ⟨_, rfl, rfl⟩
  rw [if_neg e, if_neg e]
  clear e
  by_cases e : op = 10
  · rw [if_pos e, if_pos e]
    exact Or.inl rfl
  rw [if_neg e, if_neg e]
  clear e
  by_cases e : op = 11
  · rw [if_pos e, if_pos e]
    by_cases hr : getR s t a < 0 ∨ (s.words.length : Int) ≤ getR s t a
    · rw [if_pos hr, if_pos hr]; exact Or.inl rfl
    · rw [if_neg hr, if_neg hr]; exact Or.inr ⟨_, rfl, rfl⟩
  rw [if_neg e, if_neg e]
  clear e
  by_cases e : op = 13
  · rw [if_pos e, if_pos e]
    exact Or.inl rfl
  rw [if_neg e, if_neg e]
  clear e
  by_cases e : op = 14
  · rw [if_pos e, if_pos e]
    exact Or.inl rfl
  rw [if_neg e, if_neg e]
  clear e
  by_cases e : op = 15
  · rw [if_pos e, if_pos e]
    exact Or.inl rfl
  rw [if_neg e, if_neg e]
  clear e
  by_cases e : op = 16
  · rw [if_pos e, if_pos e]
    exact Or.inl rfl
  rw [if_neg e, if_neg e]
  clear e
  by_cases e : op = 17
  · rw [if_pos e, if_pos e]
    exact Or.inl rfl
  rw [if_neg e, if_neg e]
  clear e
  by_cases e : op = 18
  · rw [if_pos e, if_pos e]
    by_cases hr : s.own.getD a.toNat 0 ≠ t ∨ ((thOf s t).wait.any fun x => x.lk && decide (x.wh = a)) = true
    · rw [if_pos hr, if_pos hr]; exact Or.inl rfl
    · rw [if_neg hr, if_neg hr]; exact Or.inr ⟨_, rfl, rfl⟩
  rw [if_neg e, if_neg e]
  clear e
  exact Or.inl rfl
theorem th_set {s : Sx} {t : Nat} (ht : t < s.ths.length) (x : Th) : thOf (setTh s t x) t = x := by
  unfold thOf setTh
  simp [List.getD, ht]
theorem set_set (s : Sx) (t : Nat) (x y : Th) : setTh (setTh s t x) t y = setTh s t y := by
  unfold setTh
  simp
theorem set_th {s : Sx} {t : Nat} (ht : t < s.ths.length) : setTh s t (thOf s t) = s := by
  unfold setTh thOf
  have : s.ths.set t (s.ths.getD t default) = s.ths := by
    rw [List.getD_eq_getElem?_getD, List.getElem?_eq_getElem ht]
    exact List.set_getElem_self ht
  rw [this]
/-- A store that waits for nothing is one that is done at once. -/
theorem store_flush {X : Nat → Nat → Nat → Int} {s : Sx} {t : Nat} (ht : t < s.ths.length) (hw : (thOf s t).wait = []) (x : Wt) : doX X 1 (storeW 1 s t x) (8 * t + 0 + 1) = storeW 0 s t x := by
  have e1 : storeW 1 s t x = setTh s t { thOf s t with wait := [x] } := by
    unfold storeW
    rw [if_pos (by decide), hw]
    rfl
  have e2 : storeW 0 s t x = doneW s x := by unfold storeW; rw [if_neg (by decide)]
  have e0 := doX_wait (X := X) (mode := 1) (s := storeW 1 s t x) (t := t) (k := 0) (by omega)
  rw [e0, e1, e2, th_set ht]
  show setTh (doneW (setTh s t _) x) t { thOf s t with wait := [] } = _
  have e3 : ({ thOf s t with wait := [] } : Th) = thOf s t := by rw [← hw]
  rw [e3]
  unfold doneW
  cases hk : x.lk with
  | true =>
    show setTh (setTh { s with own := s.own.set x.wh.toNat (-1) } t _) t (thOf s t) = { s with own := s.own.set x.wh.toNat (-1) }
    rw [set_set]
    exact set_th (s := { s with own := s.own.set x.wh.toNat (-1) }) ht
  | false =>
    show setTh (setTh { s with words := s.words.set x.wh.toNat x.what } t _) t (thOf s t) = { s with words := s.words.set x.wh.toNat x.what }
    rw [set_set]
    exact set_th (s := { s with words := s.words.set x.wh.toNat x.what }) ht
section
variable {n : Nat} {L : Nat → Nat} {X : Nat → Nat → Nat → Int} {m lk rg : Nat}
theorem bare_moves {s : Sx} (h : ∀ t, t < s.ths.length → (thOf s t).wait = []) : movesX L X 1 s = movesX L X 0 s := by
  unfold movesX
  rw [List.flatMap_def, List.flatMap_def]
  refine congrArg List.flatten (List.map_congr_left fun t ht => ?_)
  have hw := h t (by simpa using ht)
  unfold movesT
  rw [hw]
  rfl
theorem do_modes {s : Sx} {t : Nat} (ht : t < s.ths.length) (hw : (thOf s t).wait = []) : doX X 1 s (8 * t) = doX X 0 s (8 * t) ∨ ∃ u x, u.ths.length = s.ths.length ∧ (thOf u t).wait = [] ∧ doX X 1 s (8 * t) = storeW 1 u t x ∧ doX X 0 s (8 * t) = storeW 0 u t x := by
  have e : ∀ mode, doX X mode s (8 * t) = orderX mode (setTh s t { thOf s t with pc := (thOf s t).pc + 1 }) t (X t (thOf s t).pc 0) (X t (thOf s t).pc 1) (X t (thOf s t).pc 2) (X t (thOf s t).pc 3) := fun mode => by
    unfold doX
    simp only [show 8 * t / 8 = t by omega, show 8 * t % 8 = 0 by omega]
    rw [if_neg (by omega)]
  rw [e, e]
  rcases order_modes (setTh s t { thOf s t with pc := (thOf s t).pc + 1 }) t (X t (thOf s t).pc 0) (X t (thOf s t).pc 1) (X t (thOf s t).pc 2) (X t (thOf s t).pc 3) with h | ⟨x, h1, h2⟩
  · exact Or.inl h
  · exact Or.inr ⟨_, x, by simp [setTh], by rw [th_set ht]; exact hw, h1, h2⟩
theorem store_fell (s : Sx) (t : Nat) (x : Wt) (mode : Int) : (storeW mode s t x).fell = s.fell := by
  unfold storeW doneW
  split
  · rfl
  · split <;> rfl
/-- What can be come to without stores that wait can be come to with them. -/
theorem reach_more {s0 s : Sx} (h0 : SOk n L m lk rg 0 s0) (hf : s0.fell = false) (hc : COk n L X m lk rg) (h : Rch (nxX L X 0) s0 s) : Rch (nxX L X 1) s0 s := by
  induction h with
  | base => exact .base
  | step hs ht ih =>
    rename_i s t
    obtain ⟨hok, _⟩ := reach_ok h0 hf hc (by decide) hs
    have hbare : ∀ u, u < s.ths.length → (thOf s u).wait = [] := fun u hu => hok.bare rfl u (by rw [← hok.ths]; exact hu)
    obtain ⟨mv, h1, h2, h3⟩ := mem_nx.mp ht
    rcases movesX_mem h1 with ⟨u, hu, rfl, ha⟩ | ⟨u, k, hu, hk, _, _⟩
    · have e8 : (8 * (u : Int)).toNat = 8 * u := by omega
      rw [e8] at h2
      have hin1 : 8 * (u : Int) ∈ movesX L X 1 s := by rw [bare_moves hbare]; exact h1
      rcases do_modes (X := X) hu (hbare u hu) with h4 | ⟨w, x, hl, hw, h4, h5⟩
      · exact .step ih (mem_nx.mpr ⟨_, hin1, by rw [e8, h4]; exact h2, h3⟩)
      · have hul : u < w.ths.length := by rw [hl]; exact hu
        have hfw : w.fell = false := by
          have := h3
          rw [← h2, h5, store_fell] at this
          exact this
        have h6 : Rch (nxX L X 1) s0 (storeW 1 w u x) := .step ih (mem_nx.mpr ⟨_, hin1, by rw [e8]; exact h4, by rw [store_fell]; exact hfw⟩)
        have e1 : storeW 1 w u x = setTh w u { thOf w u with wait := [x] } := by
          unfold storeW
          rw [if_pos (by decide), hw]
          rfl
        have hmv : 8 * (u : Int) + ((0 : Nat) : Int) + 1 ∈ movesX L X 1 (storeW 1 w u x) := by
          unfold movesX
          refine List.mem_flatMap.mpr ⟨u, by rw [e1]; simpa [setTh] using hul, ?_⟩
          unfold movesT
          refine List.mem_append_right _ (List.mem_map.mpr ⟨0, List.mem_filter.mpr ⟨?_, rfl⟩, rfl⟩)
          rw [e1, th_set hul]
          simp
        refine .step h6 (mem_nx.mpr ⟨_, hmv, ?_, h3⟩)
        rw [show (8 * (u : Int) + ((0 : Nat) : Int) + 1).toNat = 8 * u + 0 + 1 by omega, store_flush hul hw]
        rw [← h5]
        exact h2
    · rw [hbare u hu] at hk
      cases hk
/-- Each outcome without stores that wait is one with them. -/
theorem outs_more {s0 s : Sx} (h0 : SOk n L m lk rg 0 s0) (hf : s0.fell = false) (hc : COk n L X m lk rg) (h : Rch (nxX L X 0) s0 s) {o : Oc} (ho : o ∈ outsX L X 0 s) : o ∈ outsX L X 1 s := by
  obtain ⟨hok, hfs⟩ := reach_ok h0 hf hc (by decide) h
  have hbare : ∀ u, u < s.ths.length → (thOf s u).wait = [] := fun u hu => hok.bare rfl u (by rw [← hok.ths]; exact hu)
  have hm := bare_moves (L := L) (X := X) hbare
  unfold outsX at ho ⊢
  rw [hm]
  rcases List.mem_append.mp ho with ho | ho
  · exact List.mem_append_left _ ho
  · refine List.mem_append_right _ ?_
    obtain ⟨mv, h1, h2⟩ := List.mem_filterMap.mp ho
    refine List.mem_filterMap.mpr ⟨mv, h1, ?_⟩
    rcases movesX_mem h1 with ⟨u, hu, rfl, ha⟩ | ⟨u, k, hu, hk, _, _⟩
    · have e8 : (8 * (u : Int)).toNat = 8 * u := by omega
      rw [e8] at h2 ⊢
      rcases do_modes (X := X) hu (hbare u hu) with h4 | ⟨w, x, hl, hw, h4, h5⟩
      · rw [h4]; exact h2
      · cases hff : (doX X 0 s (8 * u)).fell with
        | false => rw [hff] at h2; cases h2
        | true =>
          have hw1 : w.fell = true := by rw [h5, store_fell] at hff; exact hff
          have hp : ∀ mode, (storeW mode w u x).prints = w.prints := fun mode => by
            unfold storeW doneW
            split
            · rfl
            · split <;> rfl
          rw [hff] at h2
          rw [h4, store_fell, hw1, hp]
          rw [h5, hp] at h2
          exact h2
    · rw [hbare u hu] at hk
      cases hk
end
end

section
open Go.RowKit

section
variable {S : Type} {nx : S → List S} {outs : S → List Oc} {s0 : S} {K : List S} {P P' : S → Prop} {E E' : Oc → Prop}
theorem Wk.begin : Wk nx outs s0 [s0] (fun _ => False) (fun _ => False) :=
  ⟨by simp, by simp, fun s h => by rw [List.mem_singleton.mp h]; exact .base, fun _ h => h.elim, fun _ h => h.elim, fun _ h => h.elim, fun _ h => h.elim⟩
theorem Wk.same (h : Wk nx outs s0 K P E) (hP : ∀ s, P' s ↔ P s) (hE : ∀ o, E' o ↔ E o) : Wk nx outs s0 K P' E' :=
  ⟨h.nodup, h.first, h.reach, fun s hs => h.known s ((hP s).1 hs), fun s hs => h.next s ((hP s).1 hs), fun o ho => h.ends o ((hE o).1 ho), fun s hs o ho => (hE o).2 (h.all s ((hP s).1 hs) o ho)⟩
/-- One state more. -/
theorem Wk.push (h : Wk nx outs s0 K P E) {x t : S} (hx : x ∈ K) (ht : t ∈ nx x) (hn : t ∉ K) : Wk nx outs s0 (K ++ [t]) P E where
  nodup := by
    rw [List.nodup_append]
    refine ⟨h.nodup, by simp, fun a ha b hb e => ?_⟩
    rw [List.mem_singleton.mp hb] at e
    exact hn (e ▸ ha)
  first := List.mem_append_left _ h.first
  reach s hs := by
    rcases List.mem_append.mp hs with hs | hs
    · exact h.reach s hs
    · rw [List.mem_singleton.mp hs]; exact .step (h.reach x hx) ht
  known s hs := List.mem_append_left _ (h.known s hs)
  next s hs t' ht' := List.mem_append_left _ (h.next s hs t' ht')
  ends := h.ends
  all := h.all
/-- One outcome more. -/
theorem Wk.out (h : Wk nx outs s0 K P E) {x : S} {o : Oc} (hx : x ∈ K) (ho : o ∈ outs x) (hE : ∀ y, E' y ↔ y = o ∨ E y) : Wk nx outs s0 K P E' :=
  ⟨h.nodup, h.first, h.reach, h.known, h.next, fun y hy => by
    rcases (hE y).1 hy with e | hy
    · rw [e]; exact ⟨x, h.reach x hx, ho⟩
    · exact h.ends y hy, fun s hs y hy => (hE y).2 (Or.inr (h.all s hs y hy))⟩
/-- One state has been gone through. -/
theorem Wk.gone (h : Wk nx outs s0 K P E) {x : S} (hx : x ∈ K) (hn : ∀ t, t ∈ nx x → t ∈ K) (ho : ∀ o, o ∈ outs x → E o) (hP : ∀ s, P' s → s = x ∨ P s) : Wk nx outs s0 K P' E :=
  ⟨h.nodup, h.first, h.reach, fun s hs => by
    rcases hP s hs with e | hs
    · rw [e]; exact hx
    · exact h.known s hs, fun s hs => by
    rcases hP s hs with e | hs
    · rw [e]; exact hn
    · exact h.next s hs, h.ends, fun s hs => by
    rcases hP s hs with e | hs
    · rw [e]; exact ho
    · exact h.all s hs⟩
end
section
variable {L : Nat → Nat} {X : Nat → Nat → Nat → Int} {mode : Int} {s : Sx}
theorem nx_none (h : movesX L X mode s = []) : nxX L X mode s = [] := by unfold nxX; rw [h]; rfl
theorem outs_none (h : movesX L X mode s = []) : outsX L X mode s = [⟨if endedX L s then 0 else 2, s.words, s.prints⟩] := by
  unfold outsX
  rw [h]
  rfl
/-- What was made of the first k moves. -/
def Mvd (L : Nat → Nat) (X : Nat → Nat → Nat → Int) (mode : Int) (s : Sx) (K : List Sx) (E : Oc → Prop) (k : Nat) : Prop :=
  ∀ j, j < k → ((doX X mode s ((movesX L X mode s).getD j 0).toNat).fell = true → E ⟨1, [], (doX X mode s ((movesX L X mode s).getD j 0).toNat).prints⟩) ∧ ((doX X mode s ((movesX L X mode s).getD j 0).toNat).fell = false → doX X mode s ((movesX L X mode s).getD j 0).toNat ∈ K)
theorem Mvd.next {K K' : List Sx} {E E' : Oc → Prop} {k : Nat} (h : Mvd L X mode s K E k) (hK : ∀ t, t ∈ K → t ∈ K') (hE : ∀ o, E o → E' o) (h1 : (doX X mode s ((movesX L X mode s).getD k 0).toNat).fell = true → E' ⟨1, [], (doX X mode s ((movesX L X mode s).getD k 0).toNat).prints⟩) (h2 : (doX X mode s ((movesX L X mode s).getD k 0).toNat).fell = false → doX X mode s ((movesX L X mode s).getD k 0).toNat ∈ K') : Mvd L X mode s K' E' (k + 1) := fun j hj => by
  rcases Nat.lt_or_ge j k with h3 | h3
  · exact ⟨fun hf => hE _ ((h j h3).1 hf), fun hf => hK _ ((h j h3).2 hf)⟩
  · obtain rfl : j = k := by omega
    exact ⟨h1, h2⟩
theorem mv_getD {l : List Int} {mv : Int} (h : mv ∈ l) : ∃ j, j < l.length ∧ l.getD j 0 = mv := by
  obtain ⟨j, hj, e⟩ := List.getElem_of_mem h
  exact ⟨j, hj, by rw [List.getD_eq_getElem?_getD, List.getElem?_eq_getElem hj]; exact e⟩
theorem getD_mv {l : List Int} {j : Nat} (h : j < l.length) : l.getD j 0 ∈ l := by
  rw [List.getD_eq_getElem?_getD, List.getElem?_eq_getElem h]
  exact List.getElem_mem h
theorem Mvd.nx {K : List Sx} {E : Oc → Prop} (h : Mvd L X mode s K E (movesX L X mode s).length) {t : Sx} (ht : t ∈ nxX L X mode s) : t ∈ K := by
  obtain ⟨mv, h1, h2, h3⟩ := mem_nx.mp ht
  obtain ⟨j, hj, rfl⟩ := mv_getD h1
  rw [← h2] at h3 ⊢
  exact (h j hj).2 h3
theorem Mvd.outs {K : List Sx} {E : Oc → Prop} (h : Mvd L X mode s K E (movesX L X mode s).length) (hm : movesX L X mode s ≠ []) {o : Oc} (ho : o ∈ outsX L X mode s) : E o := by
  unfold outsX at ho
  rw [if_neg hm, List.nil_append] at ho
  obtain ⟨mv, h1, h2⟩ := List.mem_filterMap.mp ho
  obtain ⟨j, hj, rfl⟩ := mv_getD h1
  cases hf : (doX X mode s ((movesX L X mode s).getD j 0).toNat).fell with
  | false => rw [hf] at h2; cases h2
  | true =>
    rw [hf] at h2
    rw [← Option.some.inj h2]
    exact (h j hj).1 hf
theorem fell_out {mv : Int} (h : mv ∈ movesX L X mode s) (hf : (doX X mode s mv.toNat).fell = true) : (⟨1, [], (doX X mode s mv.toNat).prints⟩ : Oc) ∈ outsX L X mode s := by
  unfold outsX
  refine List.mem_append_right _ (List.mem_filterMap.mpr ⟨mv, h, ?_⟩)
  rw [hf]
  rfl
end
end

section
open Go.RowKit

/-- What holds while the program goes through states: K known, P gone through, Z begun, O still open, F those that fell. -/
structure Df (L : Nat → Nat) (X : Nat → Nat → Nat → Int) (mode : Int) (s0 : Sx) (K P Z O F : List Sx) : Prop where
  nodup : K.Nodup
  first : s0 ∈ K
  reach : ∀ s, s ∈ K → Rch (nxX L X mode) s0 s
  split : ∀ s, s ∈ K ↔ s ∈ Z ∨ s ∈ O
  zo : (Z ++ O).Nodup
  next : ∀ s, s ∈ P → ∀ t, t ∈ nxX L X mode s → t ∈ K
  fin : ∀ f, f ∈ F → ∃ s mv, s ∈ Z ∧ mv ∈ movesX L X mode s ∧ doX X mode s mv.toNat = f ∧ f.fell = true
  fall : ∀ s, s ∈ P → ∀ mv, mv ∈ movesX L X mode s → (doX X mode s mv.toNat).fell = true → doX X mode s mv.toNat ∈ F
section
variable {L : Nat → Nat} {X : Nat → Nat → Nat → Int} {mode : Int} {s0 : Sx} {K P Z O F : List Sx}
theorem Df.begin : Df L X mode s0 [s0] [] [] [s0] [] :=
  ⟨by simp, by simp, fun s h => by rw [List.mem_singleton.mp h]; exact .base, fun s => by simp, by simp, fun _ h => absurd h List.not_mem_nil, fun _ h => absurd h List.not_mem_nil, fun _ h => absurd h List.not_mem_nil⟩
theorem Df.len (h : Df L X mode s0 K P Z O F) : Z.length + O.length = K.length := by
  have h1 := nodup_len h.zo (r := K) (fun x hx => (h.split x).2 (List.mem_append.mp hx))
  have h2 := nodup_len h.nodup (r := Z ++ O) (fun x hx => List.mem_append.mpr ((h.split x).1 hx))
  rw [List.length_append] at h1 h2
  omega
/-- The last one that is open is begun. -/
theorem Df.pop {s : Sx} (h : Df L X mode s0 K Z Z (O ++ [s]) F) : Df L X mode s0 K Z (Z ++ [s]) O F :=
  ⟨h.nodup, h.first, h.reach, fun x => by
    rw [h.split x, List.mem_append, List.mem_append]
    constructor
    · rintro (h1 | h1 | h1)
      · exact Or.inl (Or.inl h1)
      · exact Or.inr h1
      · exact Or.inl (Or.inr h1)
    · rintro ((h1 | h1) | h1)
      · exact Or.inl h1
      · exact Or.inr (Or.inr h1)
      · exact Or.inr (Or.inl h1), by
    refine h.zo.perm ?_
    rw [List.append_assoc]
    exact List.Perm.append_left _ List.perm_append_comm, h.next, fun f hf => by
    obtain ⟨x, mv, h1, h2⟩ := h.fin f hf
    exact ⟨x, mv, List.mem_append_left _ h1, h2⟩, h.fall⟩
/-- One that was not known is come to. -/
theorem Df.come {s t : Sx} (h : Df L X mode s0 K P Z O F) (hs : s ∈ K) (ht : t ∈ nxX L X mode s) (hn : t ∉ K) : Df L X mode s0 (K ++ [t]) P Z (O ++ [t]) F :=
  ⟨by
    rw [List.nodup_append]
    refine ⟨h.nodup, by simp, fun a ha b hb e => ?_⟩
    rw [List.mem_singleton.mp hb] at e
    exact hn (e ▸ ha), List.mem_append_left _ h.first, fun x hx => by
    rcases List.mem_append.mp hx with hx | hx
    · exact h.reach x hx
    · rw [List.mem_singleton.mp hx]; exact .step (h.reach s hs) ht, fun x => by
    rw [List.mem_append, List.mem_append, h.split x, or_assoc], by
    rw [← List.append_assoc, List.nodup_append]
    refine ⟨h.zo, by simp, fun a ha b hb e => ?_⟩
    rw [List.mem_singleton.mp hb] at e
    exact hn (e ▸ (h.split a).2 (List.mem_append.mp ha)), fun x hx y hy => List.mem_append_left _ (h.next x hx y hy), h.fin, h.fall⟩
/-- One fell. -/
theorem Df.fell {s : Sx} {mv : Int} (h : Df L X mode s0 K P Z O F) (hs : s ∈ Z) (hm : mv ∈ movesX L X mode s) (hf : (doX X mode s mv.toNat).fell = true) : Df L X mode s0 K P Z O (F ++ [doX X mode s mv.toNat]) :=
  ⟨h.nodup, h.first, h.reach, h.split, h.zo, h.next, fun f hf' => by
    rcases List.mem_append.mp hf' with hf' | hf'
    · exact h.fin f hf'
    · rw [List.mem_singleton.mp hf']; exact ⟨s, mv, hs, hm, rfl, hf⟩, fun x hx mv' h1 h2 => List.mem_append_left _ (h.fall x hx mv' h1 h2)⟩
/-- What was made of the first k moves. -/
def Fwd (L : Nat → Nat) (X : Nat → Nat → Nat → Int) (mode : Int) (s : Sx) (K F : List Sx) (k : Nat) : Prop :=
  ∀ j, j < k → ((doX X mode s ((movesX L X mode s).getD j 0).toNat).fell = true → doX X mode s ((movesX L X mode s).getD j 0).toNat ∈ F) ∧ ((doX X mode s ((movesX L X mode s).getD j 0).toNat).fell = false → doX X mode s ((movesX L X mode s).getD j 0).toNat ∈ K)
theorem Fwd.next {s : Sx} {K' F' : List Sx} {k : Nat} (h : Fwd L X mode s K F k) (hK : ∀ t, t ∈ K → t ∈ K') (hF : ∀ t, t ∈ F → t ∈ F') (h1 : (doX X mode s ((movesX L X mode s).getD k 0).toNat).fell = true → doX X mode s ((movesX L X mode s).getD k 0).toNat ∈ F') (h2 : (doX X mode s ((movesX L X mode s).getD k 0).toNat).fell = false → doX X mode s ((movesX L X mode s).getD k 0).toNat ∈ K') : Fwd L X mode s K' F' (k + 1) := fun j hj => by
  rcases Nat.lt_or_ge j k with h3 | h3
  · exact ⟨fun hf => hF _ ((h j h3).1 hf), fun hf => hK _ ((h j h3).2 hf)⟩
  · obtain rfl : j = k := by omega
    exact ⟨h1, h2⟩
/-- One has been gone through. -/
theorem Df.gone {s : Sx} (h : Df L X mode s0 K Z (Z ++ [s]) O F) (hw : Fwd L X mode s K F (movesX L X mode s).length) : Df L X mode s0 K (Z ++ [s]) (Z ++ [s]) O F :=
  ⟨h.nodup, h.first, h.reach, h.split, h.zo, fun x hx t ht => by
    rcases List.mem_append.mp hx with hx | hx
    · exact h.next x hx t ht
    · rw [List.mem_singleton.mp hx] at ht
      obtain ⟨mv, h1, h2, h3⟩ := mem_nx.mp ht
      obtain ⟨j, hj, rfl⟩ := mv_getD h1
      rw [← h2] at h3 ⊢
      exact (hw j hj).2 h3, h.fin, fun x hx mv h1 h2 => by
    rcases List.mem_append.mp hx with hx | hx
    · exact h.fall x hx mv h1 h2
    · rw [List.mem_singleton.mp hx] at h1 h2 ⊢
      obtain ⟨j, hj, rfl⟩ := mv_getD h1
      exact (hw j hj).1 h2⟩
/-- Nothing is open: all that can be come to has been gone through. -/
theorem Df.whole (h : Df L X mode s0 K Z Z [] F) : ∀ s, s ∈ Z ↔ Rch (nxX L X mode) s0 s := by
  have hz : ∀ s, s ∈ K ↔ s ∈ Z := fun s => by rw [h.split s]; simp
  refine fun s => ⟨fun hs => h.reach s ((hz s).2 hs), fun hs => ?_⟩
  induction hs with
  | base => exact (hz _).1 h.first
  | step _ ht ih => exact (hz _).1 (h.next _ ih _ ht)
end
end

end Go.Proofs.YtipdnfpomdcenacGreatDoor
