/-
  What holds of all that can be come to; what a run comes to is one of the outcomes; each outcome without stores that wait is one with them: plain functions.
  What an order makes of its thread, parted from what it does to words, locks and prints: plain functions.
-/
import Derived.Test.YtefnmbnakphhfadWorkP
import Derived.Test.YtefnmbnakphhfadRDoW
namespace Go.Proofs.Ytefnmbnakphhfad
section
open Go.RowKit

section
variable {n : Nat} {L : Nat → Nat} {X : Nat → Nat → Nat → Int} {m lk rg : Nat} {mode : Int}
theorem moves_ended {s : Sx} (h : endedX L s = true) : movesX L X mode s = [] := by
  unfold movesX
  rw [List.flatMap_eq_nil_iff]
  intro t ht
  unfold endedX at h
  rw [List.all_eq_true] at h
  have h1 := h t ht
  rw [Bool.and_eq_true] at h1
  have hw : (thOf s t).wait = [] := List.isEmpty_iff.mp h1.2
  unfold movesT
  rw [hw]
  have ha : ableT L X s t = false := by unfold ableT; rw [if_pos h1.1]
  rw [ha]
  rfl
/-- What a move makes of a state that may be. -/
theorem move_ok {s : Sx} (h : SOk n L m lk rg mode s) (hc : COk n L X m lk rg) (hm : 0 ≤ mode) {mv : Int} (hmv : mv ∈ movesX L X mode s) : SOk n L m lk rg mode (doX X mode s mv.toNat) := by
  rcases movesX_mem hmv with ⟨t, ht, rfl, ha⟩ | ⟨t, k, ht, hk, rfl, _⟩
  · rw [show (8 * (t : Int)).toNat = 8 * t by omega]
    exact h.step hc hm (by rw [← h.ths]; exact ht) ha
  · rw [show (8 * (t : Int) + (k : Int) + 1).toNat = 8 * t + k + 1 by omega]
    exact h.wait (by rw [← h.ths]; exact ht) hk
theorem mem_nx {s t : Sx} : t ∈ nxX L X mode s ↔ ∃ mv, mv ∈ movesX L X mode s ∧ doX X mode s mv.toNat = t ∧ t.fell = false := by
  unfold nxX
  rw [List.mem_filterMap]
  constructor
  · rintro ⟨mv, h1, h2⟩
    cases hf : (doX X mode s mv.toNat).fell with
    | true => rw [hf] at h2; cases h2
    | false =>
      rw [hf] at h2
      have e : doX X mode s mv.toNat = t := Option.some.inj h2
      exact ⟨mv, h1, e, by rw [← e]; exact hf⟩
  · rintro ⟨mv, h1, h2, h3⟩
    exact ⟨mv, h1, by rw [h2, h3]; rfl⟩
/-- What holds of all that can be come to. -/
theorem reach_ok {s0 s : Sx} (h0 : SOk n L m lk rg mode s0) (hf : s0.fell = false) (hc : COk n L X m lk rg) (hm : 0 ≤ mode) (h : Rch (nxX L X mode) s0 s) : SOk n L m lk rg mode s ∧ s.fell = false := by
  induction h with
  | base => exact ⟨h0, hf⟩
  | step _ ht ih =>
    obtain ⟨mv, h1, h2, h3⟩ := mem_nx.mp ht
    rw [← h2]
    exact ⟨move_ok ih.1 hc hm h1, by rw [h2]; exact h3⟩
end
theorem order_modes (s : Sx) (t : Nat) (op a b c : Int) : orderX 1 s t op a b c = orderX 0 s t op a b c ∨ ∃ x, orderX 1 s t op a b c = storeW 1 s t x ∧ orderX 0 s t op a b c = storeW 0 s t x := by
  unfold orderX
  by_cases e : op = 1
  · rw [if_pos e, if_pos e]
    exact Or.inl rfl
  rw [if_neg e, if_neg e]
  clear e
  by_cases e : op = 2
  · rw [if_pos e, if_pos e]
    exact Or.inl rfl
  rw [if_neg e, if_neg e]
  clear e
  by_cases e : op = 3
  · rw [if_pos e, if_pos e]
    exact Or.inl rfl
  rw [if_neg e, if_neg e]
  clear e
  by_cases e : op = 4
  · rw [if_pos e, if_pos e]
    exact Or.inl rfl
  rw [if_neg e, if_neg e]
  clear e
  by_cases e : op = 5
  · rw [if_pos e, if_pos e]
    exact Or.inl rfl
  rw [if_neg e, if_neg e]
  clear e
  by_cases e : op = 6
  · rw [if_pos e, if_pos e]
    exact Or.inl rfl
  rw [if_neg e, if_neg e]
  clear e
  by_cases e : op = 7
  · rw [if_pos e, if_pos e]
    exact Or.inl rfl
  rw [if_neg e, if_neg e]
  clear e
  by_cases e : op = 8
  · rw [if_pos e, if_pos e]
    exact Or.inl rfl
  rw [if_neg e, if_neg e]
  clear e
  by_cases e : op = 9
  · rw [if_pos e, if_pos e]
    exact Or.inr ⟨_, rfl, rfl⟩
  rw [if_neg e, if_neg e]
  clear e
  by_cases e : op = 10
  · rw [if_pos e, if_pos e]
    exact Or.inl rfl
  rw [if_neg e, if_neg e]
  clear e
  by_cases e : op = 11
  · rw [if_pos e, if_pos e]
    by_cases hr : getR s t a < 0 ∨ (s.words.length : Int) ≤ getR s t a
    · rw [if_pos hr, if_pos hr]; exact Or.inl rfl
    · rw [if_neg hr, if_neg hr]; exact Or.inr ⟨_, rfl, rfl⟩
  rw [if_neg e, if_neg e]
  clear e
  by_cases e : op = 13
  · rw [if_pos e, if_pos e]
    exact Or.inl rfl
  rw [if_neg e, if_neg e]
  clear e
  by_cases e : op = 14
  · rw [if_pos e, if_pos e]
    exact Or.inl rfl
  rw [if_neg e, if_neg e]
  clear e
  by_cases e : op = 15
  · rw [if_pos e, if_pos e]
    exact Or.inl rfl
  rw [if_neg e, if_neg e]
  clear e
  by_cases e : op = 16
  · rw [if_pos e, if_pos e]
    exact Or.inl rfl
  rw [if_neg e, if_neg e]
  clear e
  by_cases e : op = 17
  · rw [if_pos e, if_pos e]
    exact Or.inl rfl
  rw [if_neg e, if_neg e]
  clear e
  by_cases e : op = 18
  · rw [if_pos e, if_pos e]
    by_cases hr : s.own.getD a.toNat 0 ≠ t ∨ ((thOf s t).wait.any fun x => x.lk && decide (x.wh = a)) = true
    · rw [if_pos hr, if_pos hr]; exact Or.inl rfl
    · rw [if_neg hr, if_neg hr]; exact Or.inr ⟨_, rfl, rfl⟩
  rw [if_neg e, if_neg e]
  clear e
  exact Or.inl rfl
theorem th_set {s : Sx} {t : Nat} (ht : t < s.ths.length) (x : Th) : thOf (setTh s t x) t = x := by
  unfold thOf setTh
  simp [List.getD, ht]
theorem set_set (s : Sx) (t : Nat) (x y : Th) : setTh (setTh s t x) t y = setTh s t y := by
  unfold setTh
  simp
theorem set_th {s : Sx} {t : Nat} (ht : t < s.ths.length) : setTh s t (thOf s t) = s := by
  unfold setTh thOf
  have : s.ths.set t (s.ths.getD t default) = s.ths := by
    rw [List.getD_eq_getElem?_getD, List.getElem?_eq_getElem ht]
    exact List.set_getElem_self ht
  rw [this]
/-- A store that waits for nothing is one that is done at once. -/
theorem store_flush {X : Nat → Nat → Nat → Int} {s : Sx} {t : Nat} (ht : t < s.ths.length) (hw : (thOf s t).wait = []) (x : Wt) : doX X 1 (storeW 1 s t x) (8 * t + 0 + 1) = storeW 0 s t x := by
  have e1 : storeW 1 s t x = setTh s t { thOf s t with wait := [x] } := by
    unfold storeW
    rw [if_pos (by decide), hw]
    rfl
  have e2 : storeW 0 s t x = doneW s x := by unfold storeW; rw [if_neg (by decide)]
  have e0 := doX_wait (X := X) (mode := 1) (s := storeW 1 s t x) (t := t) (k := 0) (by omega)
  rw [e0, e1, e2, th_set ht]
  show setTh (doneW (setTh s t _) x) t { thOf s t with wait := [] } = _
  have e3 : ({ thOf s t with wait := [] } : Th) = thOf s t := by rw [← hw]
  rw [e3]
  unfold doneW
  cases hk : x.lk with
  | true =>
    show setTh (setTh { s with own := s.own.set x.wh.toNat (-1) } t _) t (thOf s t) = { s with own := s.own.set x.wh.toNat (-1) }
    rw [set_set]
    exact set_th (s := { s with own := s.own.set x.wh.toNat (-1) }) ht
  | false =>
    show setTh (setTh { s with words := s.words.set x.wh.toNat x.what } t _) t (thOf s t) = { s with words := s.words.set x.wh.toNat x.what }
    rw [set_set]
    exact set_th (s := { s with words := s.words.set x.wh.toNat x.what }) ht
section
variable {n : Nat} {L : Nat → Nat} {X : Nat → Nat → Nat → Int} {m lk rg : Nat}
theorem bare_moves {s : Sx} (h : ∀ t, t < s.ths.length → (thOf s t).wait = []) : movesX L X 1 s = movesX L X 0 s := by
  unfold movesX
  rw [List.flatMap_def, List.flatMap_def]
  refine congrArg List.flatten (List.map_congr_left fun t ht => ?_)
  have hw := h t (by simpa using ht)
  unfold movesT
  rw [hw]
  rfl
theorem do_modes {s : Sx} {t : Nat} (ht : t < s.ths.length) (hw : (thOf s t).wait = []) : doX X 1 s (8 * t) = doX X 0 s (8 * t) ∨ ∃ u x, u.ths.length = s.ths.length ∧ (thOf u t).wait = [] ∧ doX X 1 s (8 * t) = storeW 1 u t x ∧ doX X 0 s (8 * t) = storeW 0 u t x := by
  have e : ∀ mode, doX X mode s (8 * t) = orderX mode (setTh s t { thOf s t with pc := (thOf s t).pc + 1 }) t (X t (thOf s t).pc 0) (X t (thOf s t).pc 1) (X t (thOf s t).pc 2) (X t (thOf s t).pc 3) := fun mode => by
    unfold doX
    simp only [show 8 * t / 8 = t by omega, show 8 * t % 8 = 0 by omega]
    rw [if_neg (by omega)]
  rw [e, e]
  rcases order_modes (setTh s t { thOf s t with pc := (thOf s t).pc + 1 }) t (X t (thOf s t).pc 0) (X t (thOf s t).pc 1) (X t (thOf s t).pc 2) (X t (thOf s t).pc 3) with h | ⟨x, h1, h2⟩
  · exact Or.inl h
  · exact Or.inr ⟨_, x, by simp [setTh], by rw [th_set ht]; exact hw, h1, h2⟩
theorem store_fell (s : Sx) (t : Nat) (x : Wt) (mode : Int) : (storeW mode s t x).fell = s.fell := by
  unfold storeW doneW
  split
  · rfl
  · split <;> rfl
/-- What can be come to without stores that wait can be come to with them. -/
theorem reach_more {s0 s : Sx} (h0 : SOk n L m lk rg 0 s0) (hf : s0.fell = false) (hc : COk n L X m lk rg) (h : Rch (nxX L X 0) s0 s) : Rch (nxX L X 1) s0 s := by
  induction h with
  | base => exact .base
  | step hs ht ih =>
    rename_i s t
    obtain ⟨hok, _⟩ := reach_ok h0 hf hc (by decide) hs
    have hbare : ∀ u, u < s.ths.length → (thOf s u).wait = [] := fun u hu => hok.bare rfl u (by rw [← hok.ths]; exact hu)
    obtain ⟨mv, h1, h2, h3⟩ := mem_nx.mp ht
    rcases movesX_mem h1 with ⟨u, hu, rfl, ha⟩ | ⟨u, k, hu, hk, _, _⟩
    · have e8 : (8 * (u : Int)).toNat = 8 * u := by omega
      rw [e8] at h2
      have hin1 : 8 * (u : Int) ∈ movesX L X 1 s := by rw [bare_moves hbare]; exact h1
      rcases do_modes (X := X) hu (hbare u hu) with h4 | ⟨w, x, hl, hw, h4, h5⟩
      · exact .step ih (mem_nx.mpr ⟨_, hin1, by rw [e8, h4]; exact h2, h3⟩)
      · have hul : u < w.ths.length := by rw [hl]; exact hu
        have hfw : w.fell = false := by
          have := h3
          rw [← h2, h5, store_fell] at this
          exact this
        have h6 : Rch (nxX L X 1) s0 (storeW 1 w u x) := .step ih (mem_nx.mpr ⟨_, hin1, by rw [e8]; exact h4, by rw [store_fell]; exact hfw⟩)
        have e1 : storeW 1 w u x = setTh w u { thOf w u with wait := [x] } := by
          unfold storeW
          rw [if_pos (by decide), hw]
          rfl
        have hmv : 8 * (u : Int) + ((0 : Nat) : Int) + 1 ∈ movesX L X 1 (storeW 1 w u x) := by
          unfold movesX
          refine List.mem_flatMap.mpr ⟨u, by rw [e1]; simpa [setTh] using hul, ?_⟩
          unfold movesT
          refine List.mem_append_right _ (List.mem_map.mpr ⟨0, List.mem_filter.mpr ⟨?_, rfl⟩, rfl⟩)
          rw [e1, th_set hul]
          simp
        refine .step h6 (mem_nx.mpr ⟨_, hmv, ?_, h3⟩)
        rw [show (8 * (u : Int) + ((0 : Nat) : Int) + 1).toNat = 8 * u + 0 + 1 by omega, store_flush hul hw]
        rw [← h5]
        exact h2
    · rw [hbare u hu] at hk
      cases hk
/-- Each outcome without stores that wait is one with them. -/
theorem outs_more {s0 s : Sx} (h0 : SOk n L m lk rg 0 s0) (hf : s0.fell = false) (hc : COk n L X m lk rg) (h : Rch (nxX L X 0) s0 s) {o : Oc} (ho : o ∈ outsX L X 0 s) : o ∈ outsX L X 1 s := by
  obtain ⟨hok, hfs⟩ := reach_ok h0 hf hc (by decide) h
  have hbare : ∀ u, u < s.ths.length → (thOf s u).wait = [] := fun u hu => hok.bare rfl u (by rw [← hok.ths]; exact hu)
  have hm := bare_moves (L := L) (X := X) hbare
  unfold outsX at ho ⊢
  rw [hm]
  rcases List.mem_append.mp ho with ho | ho
  · exact List.mem_append_left _ ho
  · refine List.mem_append_right _ ?_
    obtain ⟨mv, h1, h2⟩ := List.mem_filterMap.mp ho
    refine List.mem_filterMap.mpr ⟨mv, h1, ?_⟩
    rcases movesX_mem h1 with ⟨u, hu, rfl, ha⟩ | ⟨u, k, hu, hk, _, _⟩
    · have e8 : (8 * (u : Int)).toNat = 8 * u := by omega
      rw [e8] at h2 ⊢
      rcases do_modes (X := X) hu (hbare u hu) with h4 | ⟨w, x, hl, hw, h4, h5⟩
      · rw [h4]; exact h2
      · cases hff : (doX X 0 s (8 * u)).fell with
        | false => rw [hff] at h2; cases h2
        | true =>
          have hw1 : w.fell = true := by rw [h5, store_fell] at hff; exact hff
          have hp : ∀ mode, (storeW mode w u x).prints = w.prints := fun mode => by
            unfold storeW doneW
            split
            · rfl
            · split <;> rfl
          rw [hff] at h2
          rw [h4, store_fell, hw1, hp]
          rw [h5, hp] at h2
          exact h2
    · rw [hbare u hu] at hk
      cases hk
end
end

section
open Go.RowKit

/-- What an order does besides to its thread's registers and place. -/
inductive Ak where
  | no
  | put (a v : Int)
  | free (a : Int)
  | take (a : Int)
  | swap (a v : Int)
  | say (v : Int)
deriving DecidableEq, Inhabited
/-- What an order makes of a thread that stands behind it: none: the run falls. rd: what it finds in a word; fr: may it free a lock? -/
def effX (pc : Nat) (rs : List Int) (rd : Int → Int) (fr : Int → Bool) (m : Nat) (op a b c : Int) : Option (Nat × List Int × Ak) :=
  let g : Int → Int := fun r => rs.getD r.toNat 0
  if op = 1 then some (pc, rs.set a.toNat b, .no)
  else if op = 2 then some (pc, rs.set a.toNat (g b), .no)
  else if op = 3 then some (pc, rs.set a.toNat (IntKind.i64.wrap (g b + g c)), .no)
  else if op = 4 then some (pc, rs.set a.toNat (IntKind.i64.wrap (g b - g c)), .no)
  else if op = 5 then some (pc, rs.set a.toNat (IntKind.i64.wrap (g b * g c)), .no)
  else if op = 6 then some (pc, rs.set a.toNat (bitI (decide (g b < g c))), .no)
  else if op = 7 then some (pc, rs.set a.toNat (bitI (decide (g b = g c))), .no)
  else if op = 8 then some (pc, rs.set a.toNat (rd b), .no)
  else if op = 9 then some (pc, rs, .put a (g b))
  else if op = 10 then (if g b < 0 ∨ (m : Int) ≤ g b then none else some (pc, rs.set a.toNat (rd (g b)), .no))
  else if op = 11 then (if g a < 0 ∨ (m : Int) ≤ g a then none else some (pc, rs, .put (g a) (g b)))
  else if op = 13 then (if rd a = g b then some (pc, rs.set b.toNat 1, .swap a (g c)) else some (pc, rs.set b.toNat 0, .no))
  else if op = 14 then some (a.toNat, rs, .no)
  else if op = 15 then (if g a = 0 then some (b.toNat, rs, .no) else some (pc, rs, .no))
  else if op = 16 then some (pc, rs, .say (g a))
  else if op = 17 then some (pc, rs, .take a)
  else if op = 18 then (if fr a then some (pc, rs, .free a) else none)
  else some (pc, rs, .no)
/-- A thread may free a lock: it has it, and has not freed it yet. -/
def freesW (s : Sx) (t : Nat) (a : Int) : Bool := decide (s.own.getD a.toNat 0 = (t : Int)) && !((thOf s t).wait.any fun x => x.lk && decide (x.wh = a))
def actX (mode : Int) (s : Sx) (t : Nat) : Ak → Sx
  | .no => s
  | .put a v => storeW mode s t ⟨false, a, v⟩
  | .free a => storeW mode s t ⟨true, a, 0⟩
  | .take a => { s with own := s.own.set a.toNat t }
  | .swap a v => { s with words := s.words.set a.toNat v }
  | .say v => { s with prints := s.prints ++ [(t : Int), v] }
/-- What an order makes of a state, by what it makes of its thread. -/
def effS (mode : Int) (s : Sx) (t : Nat) : Option (Nat × List Int × Ak) → Sx
  | none => fallX (setTh s t { thOf s t with pc := (thOf s t).pc + 1 })
  | some (p, r, k) => actX mode (setTh s t ⟨p, r, (thOf s t).wait⟩) t k
def effT (X : Nat → Nat → Nat → Int) (s : Sx) (t : Nat) : Option (Nat × List Int × Ak) :=
  effX ((thOf s t).pc + 1) (thOf s t).regs (findsW s t) (freesW s t) s.words.length (opT X s t 0) (opT X s t 1) (opT X s t 2) (opT X s t 3)
theorem findsW_bare {s : Sx} {t : Nat} (h : (thOf s t).wait = []) (wd : Int) : findsW s t wd = s.words.getD wd.toNat 0 := by
  unfold findsW; rw [h]; rfl
theorem do_ord {X : Nat → Nat → Nat → Int} {mode : Int} {s : Sx} {t : Nat} : doX X mode s (8 * t) = orderX mode (setTh s t { thOf s t with pc := (thOf s t).pc + 1 }) t (opT X s t 0) (opT X s t 1) (opT X s t 2) (opT X s t 3) := by
  unfold doX
  simp only [show 8 * t / 8 = t by omega, show 8 * t % 8 = 0 by omega]
  rw [if_neg (by omega)]
  rfl
theorem do_eff {X : Nat → Nat → Nat → Int} {mode : Int} {s : Sx} {t : Nat} (ht : t < s.ths.length) (h13 : opT X s t 0 = 13 → (thOf s t).wait = []) : doX X mode s (8 * t) = effS mode s t (effT X s t) := by
  rw [do_ord]
  unfold effT
  obtain ⟨op, hop⟩ : ∃ x, opT X s t 0 = x := ⟨_, rfl⟩
  obtain ⟨a, ha⟩ : ∃ x, opT X s t 1 = x := ⟨_, rfl⟩
  obtain ⟨b, hb⟩ : ∃ x, opT X s t 2 = x := ⟨_, rfl⟩
  obtain ⟨c, hc⟩ : ∃ x, opT X s t 3 = x := ⟨_, rfl⟩
  rw [hop] at h13
  rw [hop, ha, hb, hc]
  clear hop ha hb hc
  obtain ⟨p, hp⟩ : ∃ p, (thOf s t).pc + 1 = p := ⟨_, rfl⟩
  have e1 : thOf (setTh s t { thOf s t with pc := p }) t = { thOf s t with pc := p } := th_set ht _
  have e2 : ∀ x, setTh (setTh s t { thOf s t with pc := p }) t x = setTh s t x := fun x => set_set _ _ _ _
  have e3 : ∀ wd, findsW (setTh s t { thOf s t with pc := p }) t wd = findsW s t wd := fun wd => by
    unfold findsW; rw [e1]; rfl
  have e4 : ∀ r, getR (setTh s t { thOf s t with pc := p }) t r = (thOf s t).regs.getD r.toNat 0 := fun r => by
    unfold getR; rw [e1]
  have e5 : ∀ r v, setR (setTh s t { thOf s t with pc := p }) t r v = setTh s t ⟨p, (thOf s t).regs.set r.toNat v, (thOf s t).wait⟩ := fun r v => by
    unfold setR; rw [e2, e1]
  have e6 : ∀ x, storeW mode (setTh s t { thOf s t with pc := p }) t x = storeW mode (setTh s t ⟨p, (thOf s t).regs, (thOf s t).wait⟩) t x := fun x => rfl
  unfold orderX effX
  rw [hp]
  simp only [e4, e5, e3, e1, e2]
  have hw : (setTh s t { thOf s t with pc := p }).words = s.words := rfl
  have ho : (setTh s t { thOf s t with pc := p }).own = s.own := rfl
  have hq : (setTh s t { thOf s t with pc := p }).prints = s.prints := rfl
  rw [hw, ho, hq]
  have e7 : ∀ l r v, setR { setTh s t { thOf s t with pc := p } with words := l } t r v = { setTh s t ⟨p, (thOf s t).regs.set r.toNat v, (thOf s t).wait⟩ with words := l } := fun l r v => by
    have h : setR { setTh s t { thOf s t with pc := p } with words := l } t r v = { setR (setTh s t { thOf s t with pc := p }) t r v with words := l } := rfl
    rw [h, e5]
  clear hw ho hq e1 e2 e3 e4 e5 e6
  rcases op_cases op with h | rfl | rfl | rfl | rfl | rfl | rfl | rfl | rfl | rfl | rfl | rfl | rfl | rfl | rfl | rfl | rfl | rfl | rfl
  · repeat rw [if_neg (by omega)]
    rfl
  all_goals simp only [Int.reduceEq, ↓reduceIte]
  all_goals first
    | rfl
    | skip
  · split
    · show fallX _ = fallX _
      rw [hp]
    · rfl
  · split
    · show fallX _ = fallX _
      rw [hp]
    · rfl
  · rw [findsW_bare (h13 rfl)]
    split
    · exact e7 _ _ _
    · rfl
  · split <;> rfl
  · unfold freesW
    by_cases h1 : s.own.getD a.toNat 0 = (t : Int)
    · cases h2 : (thOf s t).wait.any fun x => x.lk && decide (x.wh = a)
      · rw [if_neg (fun h => h.elim (fun h => h h1) (fun h => Bool.noConfusion h))]
        simp only [h1, decide_true, Bool.not_false, Bool.and_self, ↓reduceIte]
        rfl
      · rw [if_pos (Or.inr rfl)]
        simp only [Bool.not_true, Bool.and_false, Bool.false_eq_true, ↓reduceIte]
        show fallX _ = fallX _
        rw [hp]
    · rw [if_pos (Or.inl h1)]
      simp only [h1, decide_false, Bool.false_and, Bool.false_eq_true, ↓reduceIte]
      show fallX _ = fallX _
      rw [hp]
end

end Go.Proofs.Ytefnmbnakphhfad
