/-
  What holds of all that can be come to; what a run comes to is one of the outcomes; each outcome without stores that wait is one with them: plain functions.
  States that are gone through one behind the other: plain functions.
  An outcome is put into its place, by the document.
  Those of a sorted list that are not as the one ahead: plain functions.
  All states that were come to, as the document holds them in memory; what stays as it was while its lists grow.
  A space that is being begun: its heads, one behind the other.
  All that can be come to, as the document goes through it: what holds between two steps, and what put and Put make of it.
  All outcomes of a program, by the document: Make.
-/
import Derived.Test.YtipdnfpomdcenabGreatDoorSpaceP
import Derived.Test.YtipdnfpomdcenabGreatDoorRDoW
import Derived.Test.YtipdnfpomdcenabGreatDoorRunP
import Derived.Test.YtipdnfpomdcenabGreatDoorPRow
import Derived.Test.YtipdnfpomdcenabGreatDoorSOk
import Derived.BigRegion
namespace Go.Proofs.YtipdnfpomdcenabGreatDoor
section
open Go.RowKit

section
variable {n : Nat} {L : Nat → Nat} {X : Nat → Nat → Nat → Int} {m lk rg : Nat} {mode : Int}
theorem moves_ended {s : Sx} (h : endedX L s = true) : movesX L X mode s = [] := by
  unfold movesX
  rw [List.flatMap_eq_nil_iff]
  intro t ht
  unfold endedX at h
  rw [List.all_eq_true] at h
  have h1 := h t ht
  rw [Bool.and_eq_true] at h1
  have hw : (thOf s t).wait = [] := List.isEmpty_iff.mp h1.2
  unfold movesT
  rw [hw]
  have ha : ableT L X s t = false := by unfold ableT; rw [if_pos h1.1]
  rw [ha]
  rfl
/-- What a move makes of a state that may be. -/
theorem move_ok {s : Sx} (h : SOk n L m lk rg mode s) (hc : COk n L X m lk rg) (hm : 0 ≤ mode) {mv : Int} (hmv : mv ∈ movesX L X mode s) : SOk n L m lk rg mode (doX X mode s mv.toNat) := by
  rcases movesX_mem hmv with ⟨t, ht, rfl, ha⟩ | ⟨t, k, ht, hk, rfl, _⟩
  · rw [show (8 * (t : Int)).toNat = 8 * t by omega]
    exact h.step hc hm (by rw [← h.ths]; exact ht) ha
  · rw [show (8 * (t : Int) + (k : Int) + 1).toNat = 8 * t + k + 1 by omega]
    exact h.wait (by rw [← h.ths]; exact ht) hk
theorem mem_nx {s t : Sx} : t ∈ nxX L X mode s ↔ ∃ mv, mv ∈ movesX L X mode s ∧ doX X mode s mv.toNat = t ∧ t.fell = false := by
  unfold nxX
  rw [List.mem_filterMap]
  constructor
  · rintro ⟨mv, h1, h2⟩
    cases hf : (doX X mode s mv.toNat).fell with
    | true => rw [hf] at h2; cases h2
    | false =>
      rw [hf] at h2
      have e : doX X mode s mv.toNat = t := Option.some.inj h2
      exact ⟨mv, h1, e, by rw [← e]; exact hf⟩
  · rintro ⟨mv, h1, h2, h3⟩
    exact ⟨mv, h1, by rw [h2, h3]; rfl⟩
/-- What holds of all that can be come to. -/
theorem reach_ok {s0 s : Sx} (h0 : SOk n L m lk rg mode s0) (hf : s0.fell = false) (hc : COk n L X m lk rg) (hm : 0 ≤ mode) (h : Rch (nxX L X mode) s0 s) : SOk n L m lk rg mode s ∧ s.fell = false := by
  induction h with
  | base => exact ⟨h0, hf⟩
  | step _ ht ih =>
    obtain ⟨mv, h1, h2, h3⟩ := mem_nx.mp ht
    rw [← h2]
    exact ⟨move_ok ih.1 hc hm h1, by rw [h2]; exact h3⟩
/-- What a run by a script comes to is one of the outcomes. -/
theorem run_told {s0 : Sx} : ∀ (f : Nat) (s : Sx) (k : Nat) (sc : List Int), Rch (nxX L X mode) s0 s → (runX L X mode f s k sc).2.1 = 3 ∨ ∃ t, Rch (nxX L X mode) s0 t ∧ (⟨(runX L X mode f s k sc).2.1, if (runX L X mode f s k sc).2.1 = 1 then [] else (runX L X mode f s k sc).1.words, (runX L X mode f s k sc).1.prints⟩ : Oc) ∈ outsX L X mode t
  | f, s, k, sc, h => by
    by_cases he : endedX L s = true
    · rw [run_ended he]
      refine Or.inr ⟨s, h, ?_⟩
      unfold outsX
      rw [if_pos (moves_ended he), he]
      exact List.mem_append_left _ (by simp)
    · have he : endedX L s = false := by simpa using he
      by_cases hm : movesX L X mode s = []
      · rw [run_stuck he hm]
        refine Or.inr ⟨s, h, ?_⟩
        unfold outsX
        rw [if_pos hm, he]
        exact List.mem_append_left _ (by simp)
      · cases f with
        | zero => rw [run_out he hm]; exact Or.inl rfl
        | succ f =>
          have hl : 0 < (movesX L X mode s).length := List.length_pos_iff.mpr hm
          have hlt := pick_lt (movesX L X mode s).length sc hl
          have eg : (movesX L X mode s).getD (pickX (movesX L X mode s).length sc).1 0 = (movesX L X mode s)[(pickX (movesX L X mode s).length sc).1] := by
            rw [List.getD_eq_getElem?_getD, List.getElem?_eq_getElem hlt]; rfl
          rw [run_step he hm, eg]
          have hmem := List.getElem_mem hlt
          obtain ⟨mv, hmv⟩ : ∃ mv, (movesX L X mode s)[(pickX (movesX L X mode s).length sc).1] = mv := ⟨_, rfl⟩
          rw [hmv] at hmem ⊢
          cases hf : (doX X mode s mv.toNat).fell with
          | true =>
            rw [if_pos rfl]
            refine Or.inr ⟨s, h, ?_⟩
            unfold outsX
            refine List.mem_append_right _ (List.mem_filterMap.mpr ⟨mv, hmem, ?_⟩)
            rw [hf]
            rfl
          | false =>
            rw [if_neg (by simp)]
            exact run_told f _ _ _ (.step h (mem_nx.mpr ⟨mv, hmem, rfl, hf⟩))
end
theorem order_modes (s : Sx) (t : Nat) (op a b c : Int) : orderX 1 s t op a b c = orderX 0 s t op a b c ∨ ∃ x, orderX 1 s t op a b c = storeW 1 s t x ∧ orderX 0 s t op a b c = storeW 0 s t x := by
  unfold orderX
  by_cases e : op = 1
  · rw [if_pos e, if_pos e]
    exact Or.inl rfl
  rw [if_neg e, if_neg e]
  clear e
  by_cases e : op = 2
  · rw [if_pos e, if_pos e]
    exact Or.inl rfl
  rw [if_neg e, if_neg e]
  clear e
  by_cases e : op = 3
  · rw [if_pos e, if_pos e]
    exact Or.inl rfl
  rw [if_neg e, if_neg e]
  clear e
  by_cases e : op = 4
  · rw [if_pos e, if_pos e]
    exact Or.inl rfl
  rw [if_neg e, if_neg e]
  clear e
  by_cases e : op = 5
  · rw [if_pos e, if_pos e]
    exact Or.inl rfl
  rw [if_neg e, if_neg e]
  clear e
  by_cases e : op = 6
  · rw [if_pos e, if_pos e]
    exact Or.inl rfl
  rw [if_neg e, if_neg e]
  clear e
  by_cases e : op = 7
  · rw [if_pos e, if_pos e]
    exact Or.inl rfl
  rw [if_neg e, if_neg e]
  clear e
  by_cases e : op = 8
  · rw [if_pos e, if_pos e]
    exact Or.inl rfl
  rw [if_neg e, if_neg e]
  clear e
  by_cases e : op = 9
  · rw [if_pos e, if_pos e]
    exact Or.inr ⟨_, rfl, rfl⟩
  rw [if_neg e, if_neg e]
  clear e
  by_cases e : op = 10
  · rw [if_pos e, if_pos e]
    exact Or.inl rfl
  rw [if_neg e, if_neg e]
  clear e
  by_cases e : op = 11
  · rw [if_pos e, if_pos e]
    by_cases hr : getR s t a < 0 ∨ (s.words.length : Int) ≤ getR s t a
    · rw [if_pos hr, if_pos hr]; exact Or.inl rfl
    · rw [if_neg hr, if_neg hr]; exact Or.inr ⟨_, rfl, rfl⟩
  rw [if_neg e, if_neg e]
  clear e
  by_cases e : op = 13
  · rw [if_pos e, if_pos e]
    exact Or.inl rfl
  rw [if_neg e, if_neg e]
  clear e
  by_cases e : op = 14
  · rw [if_pos e, if_pos e]
    exact Or.inl rfl
  rw [if_neg e, if_neg e]
  clear e
  by_cases e : op = 15
  · rw [if_pos e, if_pos e]
    exact Or.inl rfl
  rw [if_neg e, if_neg e]
  clear e
  by_cases e : op = 16
  · rw [if_pos e, if_pos e]
    exact Or.inl rfl
  rw [if_neg e, if_neg e]
  clear e
  by_cases e : op = 17
  · rw [if_pos e, if_pos e]
    exact Or.inl rfl
  rw [if_neg e, if_neg e]
  clear e
  by_cases e : op = 18
  · rw [if_pos e, if_pos e]
    by_cases hr : s.own.getD a.toNat 0 ≠ t ∨ ((thOf s t).wait.any fun x => x.lk && decide (x.wh = a)) = true
    · rw [if_pos hr, if_pos hr]; exact Or.inl rfl
    · rw [if_neg hr, if_neg hr]; exact Or.inr ⟨_, rfl, rfl⟩
  rw [if_neg e, if_neg e]
  clear e
  exact Or.inl rfl
theorem th_set {s : Sx} {t : Nat} (ht : t < s.ths.length) (x : Th) : thOf (setTh s t x) t = x := by
  unfold thOf setTh
  simp [List.getD, ht]
theorem set_set (s : Sx) (t : Nat) (x y : Th) : setTh (setTh s t x) t y = setTh s t y := by
  unfold setTh
  simp
theorem set_th {s : Sx} {t : Nat} (ht : t < s.ths.length) : setTh s t (thOf s t) = s := by
  unfold setTh thOf
  have : s.ths.set t (s.ths.getD t default) = s.ths := by
    rw [List.getD_eq_getElem?_getD, List.getElem?_eq_getElem ht]
    exact List.set_getElem_self ht
  rw [this]
/-- A store that waits for nothing is one that is done at once. -/
theorem store_flush {X : Nat → Nat → Nat → Int} {s : Sx} {t : Nat} (ht : t < s.ths.length) (hw : (thOf s t).wait = []) (x : Wt) : doX X 1 (storeW 1 s t x) (8 * t + 0 + 1) = storeW 0 s t x := by
  have e1 : storeW 1 s t x = setTh s t { thOf s t with wait := [x] } := by
    unfold storeW
    rw [if_pos (by decide), hw]
    rfl
  have e2 : storeW 0 s t x = doneW s x := by unfold storeW; rw [if_neg (by decide)]
  have e0 := doX_wait (X := X) (mode := 1) (s := storeW 1 s t x) (t := t) (k := 0) (by omega)
  rw [e0, e1, e2, th_set ht]
  show setTh (doneW (setTh s t _) x) t { thOf s t with wait := [] } = _
  have e3 : ({ thOf s t with wait := [] } : Th) = thOf s t := by rw [← hw]
  rw [e3]
  unfold doneW
  cases hk : x.lk with
  | true =>
    show setTh (setTh { s with own := s.own.set x.wh.toNat (-1) } t _) t (thOf s t) = { s with own := s.own.set x.wh.toNat (-1) }
    rw [set_set]
    exact set_th (s := { s with own := s.own.set x.wh.toNat (-1) }) ht
  | false =>
    show setTh (setTh { s with words := s.words.set x.wh.toNat x.what } t _) t (thOf s t) = { s with words := s.words.set x.wh.toNat x.what }
    rw [set_set]
    exact set_th (s := { s with words := s.words.set x.wh.toNat x.what }) ht
section
variable {n : Nat} {L : Nat → Nat} {X : Nat → Nat → Nat → Int} {m lk rg : Nat}
theorem bare_moves {s : Sx} (h : ∀ t, t < s.ths.length → (thOf s t).wait = []) : movesX L X 1 s = movesX L X 0 s := by
  unfold movesX
  rw [List.flatMap_def, List.flatMap_def]
  refine congrArg List.flatten (List.map_congr_left fun t ht => ?_)
  have hw := h t (by simpa using ht)
  unfold movesT
  rw [hw]
  rfl
theorem do_modes {s : Sx} {t : Nat} (ht : t < s.ths.length) (hw : (thOf s t).wait = []) : doX X 1 s (8 * t) = doX X 0 s (8 * t) ∨ ∃ u x, u.ths.length = s.ths.length ∧ (thOf u t).wait = [] ∧ doX X 1 s (8 * t) = storeW 1 u t x ∧ doX X 0 s (8 * t) = storeW 0 u t x := by
  have e : ∀ mode, doX X mode s (8 * t) = orderX mode (setTh s t { thOf s t with pc := (thOf s t).pc + 1 }) t (X t (thOf s t).pc 0) (X t (thOf s t).pc 1) (X t (thOf s t).pc 2) (X t (thOf s t).pc 3) := fun mode => by
    unfold doX
    simp only [show 8 * t / 8 = t by omega, show 8 * t % 8 = 0 by omega]
    rw [if_neg (by omega)]
  rw [e, e]
  rcases order_modes (setTh s t { thOf s t with pc := (thOf s t).pc + 1 }) t (X t (thOf s t).pc 0) (X t (thOf s t).pc 1) (X t (thOf s t).pc 2) (X t (thOf s t).pc 3) with h | ⟨x, h1, h2⟩
  · exact Or.inl h
  · exact Or.inr ⟨_, x, by simp [setTh], by rw [th_set ht]; exact hw, h1, h2⟩
theorem store_fell (s : Sx) (t : Nat) (x : Wt) (mode : Int) : (storeW mode s t x).fell = s.fell := by
  unfold storeW doneW
  split
  · rfl
  · split <;> rfl
/-- What can be come to without stores that wait can be come to with them. -/
theorem reach_more {s0 s : Sx} (h0 : SOk n L m lk rg 0 s0) (hf : s0.fell = false) (hc : COk n L X m lk rg) (h : Rch (nxX L X 0) s0 s) : Rch (nxX L X 1) s0 s := by
  induction h with
  | base => exact .base
  | step hs ht ih =>
    rename_i s t
    obtain ⟨hok, _⟩ := reach_ok h0 hf hc (by decide) hs
    have hbare : ∀ u, u < s.ths.length → (thOf s u).wait = [] := fun u hu => hok.bare rfl u (by rw [← hok.ths]; exact hu)
    obtain ⟨mv, h1, h2, h3⟩ := mem_nx.mp ht
    rcases movesX_mem h1 with ⟨u, hu, rfl, ha⟩ | ⟨u, k, hu, hk, _, _⟩
    · have e8 : (8 * (u : Int)).toNat = 8 * u := by omega
      rw [e8] at h2
      have hin1 : 8 * (u : Int) ∈ movesX L X 1 s := by rw [bare_moves hbare]; exact h1
      rcases do_modes (X := X) hu (hbare u hu) with h4 | ⟨w, x, hl, hw, h4, h5⟩
      · exact .step ih (mem_nx.mpr ⟨_, hin1, by rw [e8, h4]; exact h2, h3⟩)
      · have hul : u < w.ths.length := by rw [hl]; exact hu
        have hfw : w.fell = false := by
          have := h3
          rw [← h2, h5, store_fell] at this
          exact this
        have h6 : Rch (nxX L X 1) s0 (storeW 1 w u x) := .step ih (mem_nx.mpr ⟨_, hin1, by rw [e8]; exact h4, by rw [store_fell]; exact hfw⟩)
        have e1 : storeW 1 w u x = setTh w u { thOf w u with wait := [x] } := by
          unfold storeW
          rw [if_pos (by decide), hw]
          rfl
        have hmv : 8 * (u : Int) + ((0 : Nat) : Int) + 1 ∈ movesX L X 1 (storeW 1 w u x) := by
          unfold movesX
          refine List.mem_flatMap.mpr ⟨u, by rw [e1]; simpa [setTh] using hul, ?_⟩
          unfold movesT
          refine List.mem_append_right _ (List.mem_map.mpr ⟨0, List.mem_filter.mpr ⟨?_, rfl⟩, rfl⟩)
          rw [e1, th_set hul]
          simp
        refine .step h6 (mem_nx.mpr ⟨_, hmv, ?_, h3⟩)
        rw [show (8 * (u : Int) + ((0 : Nat) : Int) + 1).toNat = 8 * u + 0 + 1 by omega, store_flush hul hw]
        rw [← h5]
        exact h2
    · rw [hbare u hu] at hk
      cases hk
/-- Each outcome without stores that wait is one with them. -/
theorem outs_more {s0 s : Sx} (h0 : SOk n L m lk rg 0 s0) (hf : s0.fell = false) (hc : COk n L X m lk rg) (h : Rch (nxX L X 0) s0 s) {o : Oc} (ho : o ∈ outsX L X 0 s) : o ∈ outsX L X 1 s := by
  obtain ⟨hok, hfs⟩ := reach_ok h0 hf hc (by decide) h
  have hbare : ∀ u, u < s.ths.length → (thOf s u).wait = [] := fun u hu => hok.bare rfl u (by rw [← hok.ths]; exact hu)
  have hm := bare_moves (L := L) (X := X) hbare
  unfold outsX at ho ⊢
  rw [hm]
  rcases List.mem_append.mp ho with ho | ho
  · exact List.mem_append_left _ ho
  · refine List.mem_append_right _ ?_
    obtain ⟨mv, h1, h2⟩ := List.mem_filterMap.mp ho
    refine List.mem_filterMap.mpr ⟨mv, h1, ?_⟩
    rcases movesX_mem h1 with ⟨u, hu, rfl, ha⟩ | ⟨u, k, hu, hk, _, _⟩
    · have e8 : (8 * (u : Int)).toNat = 8 * u := by omega
      rw [e8] at h2 ⊢
      rcases do_modes (X := X) hu (hbare u hu) with h4 | ⟨w, x, hl, hw, h4, h5⟩
      · rw [h4]; exact h2
      · cases hff : (doX X 0 s (8 * u)).fell with
        | false => rw [hff] at h2; cases h2
        | true =>
          have hw1 : w.fell = true := by rw [h5, store_fell] at hff; exact hff
          have hp : ∀ mode, (storeW mode w u x).prints = w.prints := fun mode => by
            unfold storeW doneW
            split
            · rfl
            · split <;> rfl
          rw [hff] at h2
          rw [h4, store_fell, hw1, hp]
          rw [h5, hp] at h2
          exact h2
    · rw [hbare u hu] at hk
      cases hk
end
end

section
open Go.RowKit

section
variable {S : Type} {nx : S → List S} {outs : S → List Oc} {s0 : S} {K : List S} {P P' : S → Prop} {E E' : Oc → Prop}
end
section
variable {L : Nat → Nat} {X : Nat → Nat → Nat → Int} {mode : Int} {s : Sx}
theorem outs_none (h : movesX L X mode s = []) : outsX L X mode s = [⟨if endedX L s then 0 else 2, s.words, s.prints⟩] := by
  unfold outsX
  rw [h]
  rfl
theorem mv_getD {l : List Int} {mv : Int} (h : mv ∈ l) : ∃ j, j < l.length ∧ l.getD j 0 = mv := by
  obtain ⟨j, hj, e⟩ := List.getElem_of_mem h
  exact ⟨j, hj, by rw [List.getD_eq_getElem?_getD, List.getElem?_eq_getElem hj]; exact e⟩
theorem getD_mv {l : List Int} {j : Nat} (h : j < l.length) : l.getD j 0 ∈ l := by
  rw [List.getD_eq_getElem?_getD, List.getElem?_eq_getElem h]
  exact List.getElem_mem h
theorem fell_out {mv : Int} (h : mv ∈ movesX L X mode s) (hf : (doX X mode s mv.toNat).fell = true) : (⟨1, [], (doX X mode s mv.toNat).prints⟩ : Oc) ∈ outsX L X mode s := by
  unfold outsX
  refine List.mem_append_right _ (List.mem_filterMap.mpr ⟨mv, h, ?_⟩)
  rw [hf]
  rfl
end
end

section
open Go.RowKit

/-- An outcome, and where its lists lie. -/
structure En where
  o : Oc
  wa : Option Addr
  wc : Nat
  pa : Option Addr
  pc : Nat
deriving Inhabited
abbrev enV (e : En) : Value := ocV e.o.st e.wa e.o.ws.length e.wc e.pa e.o.pr.length e.pc
def enC (e : En) (j : Nat) : Value := if j = 0 then .int .i64 e.o.st else if j = 1 then .slice e.wa e.o.ws.length e.wc else .slice e.pa e.o.pr.length e.pc
def ensV (es : List En) : List Value := rows3 es.length fun i j => enC (es.getD i default) j
structure EnOk (w : World) (e : En) : Prop where
  ws : LI w e.wa e.o.ws
  pr : LI w e.pa e.o.pr
  wl : e.o.ws.length ≤ 100000
  pl : e.o.pr.length ≤ 100000
theorem EnOk.below {w w' : World} {e : En} (h : EnOk w e) (hb : Below w.heap.size w w') : EnOk w' e := ⟨IIn.below h.ws hb, IIn.below h.pr hb, h.wl, h.pl⟩
/-- Outcomes lie in w, one behind the other. -/
def EIn (w : World) (a : Option Addr) (es : List En) : Prop := ∀ i, i < es.length → ∃ b o, a = some ⟨b, o, none⟩ ∧ w.cell? ⟨b, o + i * 3, none⟩ = some (.int .i64 (es.getD i default).o.st) ∧ w.cell? ⟨b, o + i * 3 + 1, none⟩ = some (.slice (es.getD i default).wa (es.getD i default).o.ws.length (es.getD i default).wc) ∧ w.cell? ⟨b, o + i * 3 + 2, none⟩ = some (.slice (es.getD i default).pa (es.getD i default).o.pr.length (es.getD i default).pc)
theorem EIn.below {w w' : World} {a : Option Addr} {es : List En} (h : EIn w a es) (hb : Below w.heap.size w w') : EIn w' a es := fun i hi => by
  obtain ⟨b, o, h1, h2, h3, h4⟩ := h i hi
  exact ⟨b, o, h1, (hb.cell (lt_of_cell h2)).trans h2, (hb.cell (lt_of_cell h3)).trans h3, (hb.cell (lt_of_cell h4)).trans h4⟩
/-- Outcomes that are being written. -/
structure IsO (w : World) (B : Nat) (a : Option Addr) (len c : Nat) (es : List En) : Prop where
  is : es.length = len
  own : w.ownsRow B 50 3 (.slice a len c) len (ensV es)
theorem IsO.nil (w : World) (B : Nat) : IsO w B none 0 0 [] := ⟨rfl, World.ownsRow_nil _ _ _ _⟩
theorem IsO.below {w w1 : World} {B : Nat} {a : Option Addr} {len c : Nat} {es : List En} (h : IsO w B a len c es) (hb : Below w.heap.size w w1) : IsO w1 B a len c es := ⟨h.is, fam_keeps h.own (fun g hg => hb.block g (h.own.lt g hg).2)⟩
theorem ensV_snoc (es : List En) (e : En) : ensV (es ++ [e]) = ensV es ++ [.int .i64 e.o.st, .slice e.wa e.o.ws.length e.wc, .slice e.pa e.o.pr.length e.pc] := by
  unfold ensV
  rw [List.length_append, List.length_singleton, rows3_snoc]
  congr 1
  · refine rows3_congr fun t j ht => ?_
    congr 1
    simp [List.getD, List.getElem?_append_left ht]
  · simp [enC, List.getD]
theorem infoOutcome : (Tryz.prog.info? 50).map (fun i => (i.zero, i.size, i.bytes)) = some (some (.agg #[.int .i64 0, nilV, nilV]), 3, 56) := by kernel_rfl
theorem map_getD {es : List En} {k : Nat} (hk : k < es.length) : (es.map En.o).getD k default = (es.getD k default).o := by
  simp [List.getD, List.getElem?_eq_getElem hk]

attribute [local go_sem ↓] appS_eq
end

section
open Go.RowKit

/-- Of the first k those that are not as the one ahead. -/
def compE (es : List En) : Nat → List En
  | 0 => []
  | k + 1 => compE es k ++ (if k = 0 ∨ (es.getD k default).o ≠ (es.getD (k - 1) default).o then [es.getD k default] else [])
section
variable {es : List En} {k : Nat}
theorem compE_same (h0 : 0 < k) (h : (es.getD k default).o = (es.getD (k - 1) default).o) : compE es (k + 1) = compE es k := by
  rw [compE, if_neg (fun e => by rcases e with e | e; omega; exact e h), List.append_nil]
theorem compE_new (h : k = 0 ∨ (es.getD k default).o ≠ (es.getD (k - 1) default).o) : compE es (k + 1) = compE es k ++ [es.getD k default] := by
  rw [compE, if_pos h]
theorem take_snoc (hk : k < es.length) : es.take (k + 1) = es.take k ++ [es.getD k default] := by
  rw [List.take_add_one, List.getElem?_eq_getElem hk, List.getD_eq_getElem?_getD, List.getElem?_eq_getElem hk]
  rfl
theorem compE_take (hk : k ≤ es.length) (h : ∀ j, 0 < j → j < k → (es.getD j default).o ≠ (es.getD (j - 1) default).o) : compE es k = es.take k := by
  induction k with
  | zero => rfl
  | succ k ih =>
    rw [compE_new, ih (by omega) (fun j h1 h2 => h j h1 (by omega)), take_snoc (by omega)]
    rcases Nat.eq_zero_or_pos k with h1 | h1
    · exact Or.inl h1
    · exact Or.inr (h k h1 (by omega))
theorem compE_len : (compE es k).length ≤ k := by
  induction k with
  | zero => exact Nat.le_refl _
  | succ k ih =>
    rw [compE, List.length_append]
    split <;> simp <;> omega
theorem compE_mem {e : En} (hk : k ≤ es.length) (h : e ∈ compE es k) : e ∈ es := by
  induction k with
  | zero => cases h
  | succ k ih =>
    rw [compE, List.mem_append] at h
    rcases h with h | h
    · exact ih (by omega) h
    · split at h
      · rw [List.mem_singleton.mp h, List.getD_eq_getElem?_getD, List.getElem?_eq_getElem (by omega)]
        exact List.getElem_mem _
      · cases h
theorem compE_sorted (hs : es.Pairwise (fun x y => aheadO y.o x.o = false)) (hk : k ≤ es.length) : SortedO ((compE es k).map En.o) ∧ (∀ o, o ∈ (compE es k).map En.o ↔ ∃ j, j < k ∧ (es.getD j default).o = o) ∧ ∀ o, o ∈ (compE es k).map En.o → o = (es.getD (k - 1) default).o ∨ aheadO o (es.getD (k - 1) default).o = true := by
  induction k with
  | zero => exact ⟨List.Pairwise.nil, fun o => ⟨fun h => absurd h List.not_mem_nil, fun ⟨j, h, _⟩ => absurd h (Nat.not_lt_zero _)⟩, fun o h => absurd h List.not_mem_nil⟩
  | succ k ih =>
    obtain ⟨h1, h2, h3⟩ := ih (by omega)
    by_cases h : k = 0 ∨ (es.getD k default).o ≠ (es.getD (k - 1) default).o
    · have hall : ∀ o, o ∈ (compE es k).map En.o → aheadO o (es.getD k default).o = true := fun o ho => by
        obtain ⟨j, hj, _⟩ := (h2 o).1 ho
        have hne := h.resolve_left (by omega)
        have hkl : k < es.length := by omega
        have hf : aheadO (es.getD k default).o (es.getD (k - 1) default).o = false := by
          have := (List.pairwise_iff_getElem.mp hs) (k - 1) k (by omega) hkl (by omega)
          rw [List.getD_eq_getElem?_getD, List.getD_eq_getElem?_getD, List.getElem?_eq_getElem hkl, List.getElem?_eq_getElem (show k - 1 < es.length by omega)]
          exact this
        have ht : aheadO (es.getD (k - 1) default).o (es.getD k default).o = true := by
          cases hq : aheadO (es.getD (k - 1) default).o (es.getD k default).o with
          | true => rfl
          | false => exact absurd (ahead_tri hf hq) hne
        rcases h3 o ho with e | e
        · rw [e]; exact ht
        · exact ahead_trans e ht
      rw [compE_new h, List.map_append, List.map_singleton]
      refine ⟨?_, fun o => ?_, fun o ho => ?_⟩
      · rw [SortedO, List.pairwise_append]
        exact ⟨h1, by simp, fun a ha b hb => by rw [List.mem_singleton.mp hb]; exact hall a ha⟩
      · rw [List.mem_append, h2 o, List.mem_singleton]
        constructor
        · rintro (⟨j, hj, e⟩ | e)
          · exact ⟨j, by omega, e⟩
          · exact ⟨k, by omega, e.symm⟩
        · rintro ⟨j, hj, e⟩
          rcases Nat.lt_or_ge j k with h4 | h4
          · exact Or.inl ⟨j, h4, e⟩
          · obtain rfl : j = k := by omega
            exact Or.inr e.symm
      · rw [Nat.add_sub_cancel]
        rcases List.mem_append.mp ho with ho | ho
        · exact Or.inr (hall o ho)
        · exact Or.inl (List.mem_singleton.mp ho)
    · have hk0 : 0 < k := by omega
      have he : (es.getD k default).o = (es.getD (k - 1) default).o := Classical.byContradiction fun hc => h (Or.inr hc)
      rw [compE_same hk0 he, Nat.add_sub_cancel, he]
      refine ⟨h1, fun o => ?_, h3⟩
      rw [h2 o]
      constructor
      · rintro ⟨j, hj, e⟩
        exact ⟨j, by omega, e⟩
      · rintro ⟨j, hj, e⟩
        rcases Nat.lt_or_ge j k with h4 | h4
        · exact ⟨j, h4, e⟩
        · obtain rfl : j = k := by omega
          exact ⟨j - 1, by omega, by rw [← he]; exact e⟩
/-- The whole list. -/
theorem compE_all (hs : es.Pairwise (fun x y => aheadO y.o x.o = false)) : SortedO ((compE es es.length).map En.o) ∧ ∀ o, o ∈ (compE es es.length).map En.o ↔ o ∈ es.map En.o := by
  obtain ⟨h1, h2, _⟩ := compE_sorted hs (Nat.le_refl _)
  refine ⟨h1, fun o => (h2 o).trans ?_⟩
  rw [List.mem_map]
  constructor
  · rintro ⟨j, hj, e⟩
    rw [List.getD_eq_getElem?_getD, List.getElem?_eq_getElem hj] at e
    exact ⟨_, List.getElem_mem hj, e⟩
  · rintro ⟨x, hx, e⟩
    obtain ⟨j, hj, e2⟩ := List.getElem_of_mem hx
    refine ⟨j, hj, ?_⟩
    rw [List.getD_eq_getElem?_getD, List.getElem?_eq_getElem hj]
    show (es[j]).o = o
    rw [e2]; exact e
end
end

section
open Go.RowKit

section
variable {ι : Type} {w w' : World} {vf vf' : ι → Value}
end

/-- The rows of a space. -/
inductive Sr where
  | box
  | st
  | ks
  | hd
  | bf
deriving DecidableEq
/-- What a space holds: where its states lie, the states, where their numbers lie, the outcomes, whether there are too many. -/
structure Sd where
  sbs : List Nat
  ss : List Sx
  ks : List (Option Addr × Nat)
  ends : Value
  full : Bool
section
variable {w w1 : World} {B : Nat} {P : Pg} {pb : Nat} {v : Sr → Value} {d : Sd}
end
end

section
open Go.RowKit

/-- A space of nothing. -/
def d0 : Sd := ⟨[], [], [], nilV, false⟩
end

section
open Go.RowKit

section
variable {ι : Type} {w w' : World} {vf vf' : ι → Value}
end
/-- A program, and the state ahead of its first step. -/
structure Bc where
  P : Pg
  A : Nat → Option Addr
  L : Nat → Nat
  C : Nat → Nat
  X : Nat → Nat → Nat → Int
  m : Nat
  lk : Nat
  rg : Nat
  s0 : Sx
section
variable {c : Bc} {w0 W w' : World} {pb : Nat} {v : Sr → Value} {d : Sd} {ea : Option Addr} {ec : Nat} {es : List En} {i N : Nat}
end
end

section
open Go.RowKit

theorem ens_osin {w : World} {a : Option Addr} {es : List En} (h : EIn w a es) (hok : ∀ x, x ∈ es → EnOk w x) : OsIn w a (es.map En.o) := fun i hi => by
  have hi' : i < es.length := by simpa using hi
  obtain ⟨b, o, h1, h2, h3, h4⟩ := h i hi'
  have hx := hok _ (show es.getD i default ∈ es by rw [List.getD_eq_getElem?_getD, List.getElem?_eq_getElem hi']; exact List.getElem_mem hi')
  rw [map_getD hi']
  exact ⟨b, o, _, _, _, _, h1, h2, h3, h4, hx.ws, hx.pr⟩
theorem ens_obd {w : World} {es : List En} (hn : es.length ≤ 100000) (hok : ∀ x, x ∈ es → EnOk w x) : OBd (es.map En.o) := by
  refine ⟨by simpa using hn, fun o ho => ?_⟩
  obtain ⟨x, hx, rfl⟩ := List.mem_map.mp ho
  exact ⟨(hok x hx).wl, (hok x hx).pl⟩
end

end Go.Proofs.YtipdnfpomdcenabGreatDoor
