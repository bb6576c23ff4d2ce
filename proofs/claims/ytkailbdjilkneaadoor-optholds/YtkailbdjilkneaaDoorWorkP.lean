/-
  Outcomes and their order; all that can be come to, and what is told of it: plain functions.
  A state's numbers, by the document and by the program, tell it; what a state becomes, what runs come to.
  What holds of all that can be come to; what a run comes to is one of the outcomes; each outcome without stores that wait is one with them: plain functions.
  States that are gone through one behind the other: plain functions.
-/
import Derived.Test.YtkailbdjilkneaaDoorBase
import Derived.Test.YtkailbdjilkneaaDoorCOkP
import Derived.Test.YtkailbdjilkneaaDoorRDoW
namespace Go.Proofs.YtkailbdjilkneaaDoor
section
open Go.RowKit

/-! Outcomes and their order. -/
/-- An outcome: how a run ended, the words, what was printed. -/
structure Oc where
  st : Int
  ws : List Int
  pr : List Int
deriving DecidableEq, Inhabited
/-- The order of lists. -/
def lexL : List Int → List Int → Bool
  | [], [] => false
  | [], _ :: _ => true
  | _ :: _, [] => false
  | a :: l, b :: r => if a = b then lexL l r else decide (a < b)
/-- The order of outcomes. -/
def aheadO (a b : Oc) : Bool := if a.st ≠ b.st then decide (a.st < b.st) else if a.ws ≠ b.ws then lexL a.ws b.ws else lexL a.pr b.pr
theorem lex_irr : ∀ l : List Int, lexL l l = false
  | [] => rfl
  | a :: l => by unfold lexL; rw [if_pos rfl]; exact lex_irr l
theorem lex_trans : ∀ {a b c : List Int}, lexL a b = true → lexL b c = true → lexL a c = true
  | [], _, [], h1, h2 => by
    rename_i b
    cases b with
    | nil => cases h1
    | cons x r => cases h2
  | [], _, _ :: _, _, _ => rfl
  | _ :: _, [], _, h1, _ => by cases h1
  | _ :: _, _ :: _, [], _, h2 => by cases h2
  | x :: a, y :: b, z :: c, h1, h2 => by
    unfold lexL at h1 h2 ⊢
    by_cases e1 : x = y
    · rw [if_pos e1] at h1
      by_cases e2 : y = z
      · rw [if_pos e2] at h2
        rw [if_pos (e1.trans e2)]
        exact lex_trans h1 h2
      · rw [if_neg e2] at h2
        rw [if_neg (by rw [e1]; exact e2), e1]
        exact h2
    · rw [if_neg e1] at h1
      have h1 := of_decide_eq_true h1
      by_cases e2 : y = z
      · rw [if_neg (by rw [← e2]; exact e1), ← e2]
        exact decide_eq_true h1
      · rw [if_neg e2] at h2
        have h2 := of_decide_eq_true h2
        rw [if_neg (by omega)]
        exact decide_eq_true (by omega)
theorem lex_tri : ∀ {a b : List Int}, lexL a b = false → lexL b a = false → a = b
  | [], [], _, _ => rfl
  | [], _ :: _, h, _ => by cases h
  | _ :: _, [], _, h => by cases h
  | x :: a, y :: b, h1, h2 => by
    unfold lexL at h1 h2
    by_cases e : x = y
    · rw [if_pos e] at h1
      rw [if_pos e.symm] at h2
      rw [e, lex_tri h1 h2]
    · rw [if_neg e] at h1
      rw [if_neg (fun h => e h.symm)] at h2
      have h1 := of_decide_eq_false h1
      have h2 := of_decide_eq_false h2
      omega
theorem ahead_irr (a : Oc) : aheadO a a = false := by
  unfold aheadO
  rw [if_neg (by simp), if_neg (by simp)]
  exact lex_irr _
theorem ahead_trans {a b c : Oc} (h1 : aheadO a b = true) (h2 : aheadO b c = true) : aheadO a c = true := by
  unfold aheadO at *
  by_cases e1 : a.st = b.st
  · rw [if_neg (by simpa using e1)] at h1
    by_cases e2 : b.st = c.st
    · rw [if_neg (by simpa using e2)] at h2
      rw [if_neg (by rw [e1, e2]; simp)]
      by_cases w1 : a.ws = b.ws
      · rw [if_neg (by simpa using w1)] at h1
        by_cases w2 : b.ws = c.ws
        · rw [if_neg (by simpa using w2)] at h2
          rw [if_neg (by rw [w1, w2]; simp)]
          exact lex_trans h1 h2
        · rw [if_pos w2] at h2
          rw [if_pos (by rw [w1]; exact w2), w1]
          exact h2
      · rw [if_pos w1] at h1
        by_cases w2 : b.ws = c.ws
        · rw [if_pos (by rw [← w2]; exact w1), ← w2]
          exact h1
        · rw [if_pos w2] at h2
          have h3 := lex_trans h1 h2
          rw [if_pos (fun e => by rw [e, lex_irr] at h3; cases h3)]
          exact h3
    · rw [if_pos e2] at h2
      rw [if_pos (by rw [e1]; exact e2), e1]
      exact h2
  · rw [if_pos e1] at h1
    have h1 := of_decide_eq_true h1
    by_cases e2 : b.st = c.st
    · rw [if_pos (by rw [← e2]; exact e1), ← e2]
      exact decide_eq_true h1
    · rw [if_pos e2] at h2
      have h2 := of_decide_eq_true h2
      rw [if_pos (by omega)]
      exact decide_eq_true (by omega)
theorem ahead_tri {a b : Oc} (h1 : aheadO a b = false) (h2 : aheadO b a = false) : a = b := by
  unfold aheadO at *
  by_cases e : a.st = b.st
  · rw [if_neg (by simpa using e)] at h1
    rw [if_neg (by simpa using e.symm)] at h2
    have ew : a.ws = b.ws := by
      by_cases w : a.ws = b.ws
      · exact w
      · rw [if_pos w] at h1
        rw [if_pos (fun h => w h.symm)] at h2
        exact lex_tri h1 h2
    rw [if_neg (by simpa using ew)] at h1
    rw [if_neg (by simpa using ew.symm)] at h2
    have ep := lex_tri h1 h2
    cases a; cases b
    simp only at e ew ep
    subst e ew ep
    rfl
  · rw [if_pos e] at h1
    rw [if_pos (fun h => e h.symm)] at h2
    have h1 := of_decide_eq_false h1
    have h2 := of_decide_eq_false h2
    omega
theorem ahead_asym {a b : Oc} (h : aheadO a b = true) : aheadO b a = false := by
  cases e : aheadO b a with
  | false => rfl
  | true => have := ahead_trans h e; rw [ahead_irr] at this; cases this
/-- Each comes ahead of all that stand behind it. -/
def SortedO (l : List Oc) : Prop := l.Pairwise fun a b => aheadO a b = true
theorem sorted_same : ∀ {l r : List Oc}, SortedO l → SortedO r → (∀ o, o ∈ l ↔ o ∈ r) → l = r
  | [], [], _, _, _ => rfl
  | [], b :: r, _, _, h => by have := (h b).2 (by simp); cases this
  | a :: l, [], _, _, h => by have := (h a).1 (by simp); cases this
  | a :: l, b :: r, hl, hr, h => by
    rw [SortedO, List.pairwise_cons] at hl hr
    have ha := (h a).1 (by simp)
    have hb := (h b).2 (by simp)
    have e : a = b := by
      rcases List.mem_cons.mp ha with e | ha
      · exact e
      · rcases List.mem_cons.mp hb with e | hb
        · exact e.symm
        · have h1 := hl.1 b hb
          have h2 := hr.1 a ha
          rw [ahead_asym h1] at h2
          cases h2
    subst e
    have hna : ∀ {o}, o ∈ l → o ≠ a := fun ho e => by
      have := hl.1 _ ho
      rw [e, ahead_irr] at this
      cases this
    have hnr : ∀ {o}, o ∈ r → o ≠ a := fun ho e => by
      have := hr.1 _ ho
      rw [e, ahead_irr] at this
      cases this
    rw [sorted_same (l := l) (r := r) hl.2 hr.2 (fun o => ⟨fun ho => by
      rcases List.mem_cons.mp ((h o).1 (by simp [ho])) with e | e
      · exact absurd e (hna ho)
      · exact e, fun ho => by
      rcases List.mem_cons.mp ((h o).2 (by simp [ho])) with e | e
      · exact absurd e (hnr ho)
      · exact e⟩)]
/-- An outcome, into its place, once. -/
def insO (o : Oc) : List Oc → List Oc
  | [] => [o]
  | a :: l => if aheadO o a then o :: a :: l else if aheadO a o then a :: insO o l else a :: l
theorem mem_insO {o x : Oc} : ∀ {l : List Oc}, x ∈ insO o l ↔ x = o ∨ x ∈ l
  | [] => by simp [insO]
  | a :: l => by
    unfold insO
    split
    · simp
    · split
      · rw [List.mem_cons, mem_insO, List.mem_cons]
        constructor
        · rintro (h | h | h)
          · exact Or.inr (Or.inl h)
          · exact Or.inl h
          · exact Or.inr (Or.inr h)
        · rintro (h | h | h)
          · exact Or.inr (Or.inl h)
          · exact Or.inl h
          · exact Or.inr (Or.inr h)
      · rename_i h1 h2
        have e : o = a := ahead_tri (by simpa using h1) (by simpa using h2)
        subst e
        simp
theorem sorted_insO {o : Oc} : ∀ {l : List Oc}, SortedO l → SortedO (insO o l)
  | [], _ => List.pairwise_singleton _ _
  | a :: l, h => by
    unfold insO
    have h' := h
    rw [SortedO, List.pairwise_cons] at h'
    split
    · rename_i h1
      refine List.pairwise_cons.mpr ⟨fun x hx => ?_, h⟩
      rcases List.mem_cons.mp hx with e | hx
      · rw [e]; exact h1
      · exact ahead_trans h1 (h'.1 x hx)
    · split
      · rename_i h1 h2
        refine List.pairwise_cons.mpr ⟨fun x hx => ?_, sorted_insO h'.2⟩
        rcases mem_insO.mp hx with e | hx
        · rw [e]; exact h2
        · exact h'.1 x hx
      · exact h

/-! All that can be come to. -/
section
variable {S : Type}
inductive Rch (nx : S → List S) (s0 : S) : S → Prop
  | base : Rch nx s0 s0
  | step {s t : S} : Rch nx s0 s → t ∈ nx s → Rch nx s0 t
/-- What is told of all that can come: too many states, or all outcomes. -/
def Told (nx : S → List S) (outs : S → List Oc) (s0 : S) (mx : Nat) (full : Bool) (l : List Oc) : Prop :=
  (full = true ∧ ∃ K : List S, K.Nodup ∧ (∀ s, s ∈ K → Rch nx s0 s) ∧ mx < K.length) ∨ (full = false ∧ SortedO l ∧ (∀ o, o ∈ l ↔ ∃ s, Rch nx s0 s ∧ o ∈ outs s) ∧ ∃ K : List S, K.Nodup ∧ (∀ s, s ∈ K ↔ Rch nx s0 s) ∧ K.length ≤ mx)
/-- What holds while states are gone through: K known, P gone through, E outcomes so far. -/
structure Wk (nx : S → List S) (outs : S → List Oc) (s0 : S) (K : List S) (P : S → Prop) (E : Oc → Prop) : Prop where
  nodup : K.Nodup
  first : s0 ∈ K
  reach : ∀ s, s ∈ K → Rch nx s0 s
  known : ∀ s, P s → s ∈ K
  next : ∀ s, P s → ∀ t, t ∈ nx s → t ∈ K
  ends : ∀ o, E o → ∃ s, Rch nx s0 s ∧ o ∈ outs s
  all : ∀ s, P s → ∀ o, o ∈ outs s → E o
theorem Wk.whole {nx : S → List S} {outs : S → List Oc} {s0 : S} {K : List S} {P : S → Prop} {E : Oc → Prop} (h : Wk nx outs s0 K P E) (hP : ∀ s, s ∈ K → P s) : (∀ s, s ∈ K ↔ Rch nx s0 s) ∧ ∀ o, E o ↔ ∃ s, Rch nx s0 s ∧ o ∈ outs s := by
  have hr : ∀ s, Rch nx s0 s → s ∈ K := fun s hs => by
    induction hs with
    | base => exact h.first
    | step _ ht ih => exact h.next _ (hP _ ih) _ ht
  exact ⟨fun s => ⟨h.reach s, hr s⟩, fun o => ⟨h.ends o, fun ⟨s, hs, ho⟩ => h.all s (hP s (hr s hs)) o ho⟩⟩
theorem Wk.told {nx : S → List S} {outs : S → List Oc} {s0 : S} {K : List S} {P : S → Prop} {E : Oc → Prop} {mx : Nat} {l : List Oc} (h : Wk nx outs s0 K P E) (hP : ∀ s, s ∈ K → P s) (hs : SortedO l) (hl : ∀ o, o ∈ l ↔ E o) (hk : K.length ≤ mx) : Told nx outs s0 mx false l := by
  obtain ⟨h1, h2⟩ := h.whole hP
  exact Or.inr ⟨rfl, hs, fun o => (hl o).trans (h2 o), K, h.nodup, h1, hk⟩
theorem Wk.full {nx : S → List S} {outs : S → List Oc} {s0 : S} {K : List S} {P : S → Prop} {E : Oc → Prop} {mx : Nat} (l : List Oc) (h : Wk nx outs s0 K P E) (hk : mx < K.length) : Told nx outs s0 mx true l := Or.inl ⟨rfl, K, h.nodup, h.reach, hk⟩
end
end

section
open Go.RowKit

/-! A state's numbers. -/
/-- All that a thread is, by the document. -/
def numW (x : Wt) : List Int := [bitI x.lk, x.wh, x.what]
def numT (h : Th) : List Int := [(h.pc : Int), (h.wait.length : Int)] ++ h.regs ++ h.wait.flatMap numW
def numsX (s : Sx) : List Int := s.ths.flatMap numT ++ s.words ++ s.own ++ s.prints
theorem numW_inj {x y : Wt} (h : numW x = numW y) : x = y := by
  cases x with
  | mk a b c =>
    cases y with
    | mk a' b' c' =>
      simp only [numW, List.cons.injEq, and_true] at h
      obtain ⟨h1, rfl, rfl⟩ := h
      cases a <;> cases a' <;> first | rfl | cases h1
theorem flat_inj {f : Wt → List Int} {k : Nat} {Q : Wt → Prop} (hk : ∀ x, (f x).length = k) (hf : ∀ x y, Q x → Q y → f x = f y → x = y) : ∀ {l r : List Wt} {u v : List Int}, l.length = r.length → (∀ x, x ∈ l → Q x) → (∀ x, x ∈ r → Q x) → l.flatMap f ++ u = r.flatMap f ++ v → l = r ∧ u = v
  | [], [], _, _, _, _, _, h => ⟨rfl, h⟩
  | a :: l, b :: r, u, v, hl, h1, h2, h => by
    rw [List.flatMap_cons, List.flatMap_cons, List.append_assoc, List.append_assoc] at h
    obtain ⟨e1, e2⟩ := List.append_inj h (by rw [hk, hk])
    obtain ⟨e3, e4⟩ := flat_inj hk hf (by simpa using hl) (fun x hx => h1 x (by simp [hx])) (fun x hx => h2 x (by simp [hx])) e2
    rw [hf _ _ (h1 a (by simp)) (h2 b (by simp)) e1, e3]
    exact ⟨rfl, e4⟩
theorem numT_inj {a b : Th} {u v : List Int} (hr : a.regs.length = b.regs.length) (h : numT a ++ u = numT b ++ v) : a = b ∧ u = v := by
  cases a with
  | mk pa ra wa =>
    cases b with
    | mk pb rb wb =>
      simp only [numT, List.append_assoc, List.cons_append, List.nil_append, List.cons.injEq] at h
      obtain ⟨h1, h2, h3⟩ := h
      obtain ⟨e1, e2⟩ := List.append_inj h3 hr
      obtain ⟨e3, e4⟩ := flat_inj (k := 3) (Q := fun _ => True) (fun _ => rfl) (fun _ _ _ _ => numW_inj) (by omega) (fun _ _ => trivial) (fun _ _ => trivial) e2
      subst e1 e3
      exact ⟨by rw [show pa = pb by omega], e4⟩
theorem nums_ths : ∀ {l r : List Th} {u v : List Int} {rg : Nat}, l.length = r.length → (∀ x, x ∈ l → x.regs.length = rg) → (∀ x, x ∈ r → x.regs.length = rg) → l.flatMap numT ++ u = r.flatMap numT ++ v → l = r ∧ u = v
  | [], [], _, _, _, _, _, _, h => ⟨rfl, h⟩
  | a :: l, b :: r, u, v, rg, hl, h1, h2, h => by
    rw [List.flatMap_cons, List.flatMap_cons, List.append_assoc, List.append_assoc] at h
    obtain ⟨e1, e2⟩ := numT_inj (by rw [h1 a (by simp), h2 b (by simp)]) h
    obtain ⟨e3, e4⟩ := nums_ths (rg := rg) (by simpa using hl) (fun x hx => h1 x (by simp [hx])) (fun x hx => h2 x (by simp [hx])) e2
    rw [e1, e3]
    exact ⟨rfl, e4⟩
theorem SOk.mem {n : Nat} {L : Nat → Nat} {m lk rg : Nat} {mode : Int} {s : Sx} (h : SOk n L m lk rg mode s) {x : Th} (hx : x ∈ s.ths) : ∃ t, t < n ∧ thOf s t = x := by
  obtain ⟨t, ht, e⟩ := List.getElem_of_mem hx
  exact ⟨t, by rw [← h.ths]; exact ht, by unfold thOf; rw [List.getD_eq_getElem?_getD, List.getElem?_eq_getElem ht]; exact e⟩
/-- Two states of a program are the same where their numbers are. -/
theorem nums_inj {n : Nat} {L : Nat → Nat} {m lk rg : Nat} {mode : Int} {s r : Sx} (h1 : SOk n L m lk rg mode s) (h2 : SOk n L m lk rg mode r) (hf : s.fell = r.fell) (h : numsX s = numsX r) : s = r := by
  unfold numsX at h
  simp only [List.append_assoc] at h
  obtain ⟨e1, e2⟩ := nums_ths (rg := rg) (by rw [h1.ths, h2.ths]) (fun x hx => by obtain ⟨t, ht, rfl⟩ := h1.mem hx; exact h1.regs t ht) (fun x hx => by obtain ⟨t, ht, rfl⟩ := h2.mem hx; exact h2.regs t ht) h
  obtain ⟨e3, e4⟩ := List.append_inj e2 (by rw [h1.words, h2.words])
  obtain ⟨e5, e6⟩ := List.append_inj e4 (by rw [h1.own, h2.own])
  cases s; cases r
  simp only at e1 e3 e5 e6 hf
  subst e1 e3 e5 e6 hf
  rfl
/-! What a state becomes; what runs come to. -/
section
variable (L : Nat → Nat) (X : Nat → Nat → Nat → Int) (mode : Int)
def nxX (s : Sx) : List Sx := (movesX L X mode s).filterMap fun mv => if (doX X mode s mv.toNat).fell then none else some (doX X mode s mv.toNat)
def outsX (s : Sx) : List Oc :=
  (if movesX L X mode s = [] then [⟨if endedX L s then 0 else 2, s.words, s.prints⟩] else []) ++
    (movesX L X mode s).filterMap fun mv => if (doX X mode s mv.toNat).fell then some ⟨1, [], (doX X mode s mv.toNat).prints⟩ else none
end
end

section
open Go.RowKit

section
variable {n : Nat} {L : Nat → Nat} {X : Nat → Nat → Nat → Int} {m lk rg : Nat} {mode : Int}
theorem moves_ended {s : Sx} (h : endedX L s = true) : movesX L X mode s = [] := by
  unfold movesX
  rw [List.flatMap_eq_nil_iff]
  intro t ht
  unfold endedX at h
  rw [List.all_eq_true] at h
  have h1 := h t ht
  rw [Bool.and_eq_true] at h1
  have hw : (thOf s t).wait = [] := List.isEmpty_iff.mp h1.2
  unfold movesT
  rw [hw]
  have ha : ableT L X s t = false := by unfold ableT; rw [if_pos h1.1]
  rw [ha]
  rfl
/-- What a move makes of a state that may be. -/
theorem move_ok {s : Sx} (h : SOk n L m lk rg mode s) (hc : COk n L X m lk rg) (hm : 0 ≤ mode) {mv : Int} (hmv : mv ∈ movesX L X mode s) : SOk n L m lk rg mode (doX X mode s mv.toNat) := by
  rcases movesX_mem hmv with ⟨t, ht, rfl, ha⟩ | ⟨t, k, ht, hk, rfl, _⟩
  · rw [show (8 * (t : Int)).toNat = 8 * t by omega]
    exact h.step hc hm (by rw [← h.ths]; exact ht) ha
  · rw [show (8 * (t : Int) + (k : Int) + 1).toNat = 8 * t + k + 1 by omega]
    exact h.wait (by rw [← h.ths]; exact ht) hk
theorem mem_nx {s t : Sx} : t ∈ nxX L X mode s ↔ ∃ mv, mv ∈ movesX L X mode s ∧ doX X mode s mv.toNat = t ∧ t.fell = false := by
  unfold nxX
  rw [List.mem_filterMap]
  constructor
  · rintro ⟨mv, h1, h2⟩
    cases hf : (doX X mode s mv.toNat).fell with
    | true => rw [hf] at h2; cases h2
    | false =>
      rw [hf] at h2
      have e : doX X mode s mv.toNat = t := Option.some.inj h2
      exact ⟨mv, h1, e, by rw [← e]; exact hf⟩
  · rintro ⟨mv, h1, h2, h3⟩
    exact ⟨mv, h1, by rw [h2, h3]; rfl⟩
/-- What holds of all that can be come to. -/
theorem reach_ok {s0 s : Sx} (h0 : SOk n L m lk rg mode s0) (hf : s0.fell = false) (hc : COk n L X m lk rg) (hm : 0 ≤ mode) (h : Rch (nxX L X mode) s0 s) : SOk n L m lk rg mode s ∧ s.fell = false := by
  induction h with
  | base => exact ⟨h0, hf⟩
  | step _ ht ih =>
    obtain ⟨mv, h1, h2, h3⟩ := mem_nx.mp ht
    rw [← h2]
    exact ⟨move_ok ih.1 hc hm h1, by rw [h2]; exact h3⟩
end
theorem th_set {s : Sx} {t : Nat} (ht : t < s.ths.length) (x : Th) : thOf (setTh s t x) t = x := by
  unfold thOf setTh
  simp [List.getD, ht]
theorem set_set (s : Sx) (t : Nat) (x y : Th) : setTh (setTh s t x) t y = setTh s t y := by
  unfold setTh
  simp
theorem set_th {s : Sx} {t : Nat} (ht : t < s.ths.length) : setTh s t (thOf s t) = s := by
  unfold setTh thOf
  have : s.ths.set t (s.ths.getD t default) = s.ths := by
    rw [List.getD_eq_getElem?_getD, List.getElem?_eq_getElem ht]
    exact List.set_getElem_self ht
  rw [this]
section
variable {n : Nat} {L : Nat → Nat} {X : Nat → Nat → Nat → Int} {m lk rg : Nat}
end
end

section
open Go.RowKit

section
variable {S : Type} {nx : S → List S} {outs : S → List Oc} {s0 : S} {K : List S} {P P' : S → Prop} {E E' : Oc → Prop}
theorem Wk.begin : Wk nx outs s0 [s0] (fun _ => False) (fun _ => False) :=
  ⟨by simp, by simp, fun s h => by rw [List.mem_singleton.mp h]; exact .base, fun _ h => h.elim, fun _ h => h.elim, fun _ h => h.elim, fun _ h => h.elim⟩
theorem Wk.same (h : Wk nx outs s0 K P E) (hP : ∀ s, P' s ↔ P s) (hE : ∀ o, E' o ↔ E o) : Wk nx outs s0 K P' E' :=
  ⟨h.nodup, h.first, h.reach, fun s hs => h.known s ((hP s).1 hs), fun s hs => h.next s ((hP s).1 hs), fun o ho => h.ends o ((hE o).1 ho), fun s hs o ho => (hE o).2 (h.all s ((hP s).1 hs) o ho)⟩
/-- One state more. -/
theorem Wk.push (h : Wk nx outs s0 K P E) {x t : S} (hx : x ∈ K) (ht : t ∈ nx x) (hn : t ∉ K) : Wk nx outs s0 (K ++ [t]) P E where
  nodup := by
    rw [List.nodup_append]
    refine ⟨h.nodup, by simp, fun a ha b hb e => ?_⟩
    rw [List.mem_singleton.mp hb] at e
    exact hn (e ▸ ha)
  first := List.mem_append_left _ h.first
  reach s hs := by
    rcases List.mem_append.mp hs with hs | hs
    · exact h.reach s hs
    · rw [List.mem_singleton.mp hs]; exact .step (h.reach x hx) ht
  known s hs := List.mem_append_left _ (h.known s hs)
  next s hs t' ht' := List.mem_append_left _ (h.next s hs t' ht')
  ends := h.ends
  all := h.all
/-- One outcome more. -/
theorem Wk.out (h : Wk nx outs s0 K P E) {x : S} {o : Oc} (hx : x ∈ K) (ho : o ∈ outs x) (hE : ∀ y, E' y ↔ y = o ∨ E y) : Wk nx outs s0 K P E' :=
  ⟨h.nodup, h.first, h.reach, h.known, h.next, fun y hy => by
    rcases (hE y).1 hy with e | hy
    · rw [e]; exact ⟨x, h.reach x hx, ho⟩
    · exact h.ends y hy, fun s hs y hy => (hE y).2 (Or.inr (h.all s hs y hy))⟩
/-- One state has been gone through. -/
theorem Wk.gone (h : Wk nx outs s0 K P E) {x : S} (hx : x ∈ K) (hn : ∀ t, t ∈ nx x → t ∈ K) (ho : ∀ o, o ∈ outs x → E o) (hP : ∀ s, P' s → s = x ∨ P s) : Wk nx outs s0 K P' E :=
  ⟨h.nodup, h.first, h.reach, fun s hs => by
    rcases hP s hs with e | hs
    · rw [e]; exact hx
    · exact h.known s hs, fun s hs => by
    rcases hP s hs with e | hs
    · rw [e]; exact hn
    · exact h.next s hs, h.ends, fun s hs => by
    rcases hP s hs with e | hs
    · rw [e]; exact ho
    · exact h.all s hs⟩
end
section
variable {L : Nat → Nat} {X : Nat → Nat → Nat → Int} {mode : Int} {s : Sx}
theorem nx_none (h : movesX L X mode s = []) : nxX L X mode s = [] := by unfold nxX; rw [h]; rfl
theorem outs_none (h : movesX L X mode s = []) : outsX L X mode s = [⟨if endedX L s then 0 else 2, s.words, s.prints⟩] := by
  unfold outsX
  rw [h]
  rfl
/-- What was made of the first k moves. -/
def Mvd (L : Nat → Nat) (X : Nat → Nat → Nat → Int) (mode : Int) (s : Sx) (K : List Sx) (E : Oc → Prop) (k : Nat) : Prop :=
  ∀ j, j < k → ((doX X mode s ((movesX L X mode s).getD j 0).toNat).fell = true → E ⟨1, [], (doX X mode s ((movesX L X mode s).getD j 0).toNat).prints⟩) ∧ ((doX X mode s ((movesX L X mode s).getD j 0).toNat).fell = false → doX X mode s ((movesX L X mode s).getD j 0).toNat ∈ K)
theorem Mvd.next {K K' : List Sx} {E E' : Oc → Prop} {k : Nat} (h : Mvd L X mode s K E k) (hK : ∀ t, t ∈ K → t ∈ K') (hE : ∀ o, E o → E' o) (h1 : (doX X mode s ((movesX L X mode s).getD k 0).toNat).fell = true → E' ⟨1, [], (doX X mode s ((movesX L X mode s).getD k 0).toNat).prints⟩) (h2 : (doX X mode s ((movesX L X mode s).getD k 0).toNat).fell = false → doX X mode s ((movesX L X mode s).getD k 0).toNat ∈ K') : Mvd L X mode s K' E' (k + 1) := fun j hj => by
  rcases Nat.lt_or_ge j k with h3 | h3
  · exact ⟨fun hf => hE _ ((h j h3).1 hf), fun hf => hK _ ((h j h3).2 hf)⟩
  · obtain rfl : j = k := by omega
    exact ⟨h1, h2⟩
theorem mv_getD {l : List Int} {mv : Int} (h : mv ∈ l) : ∃ j, j < l.length ∧ l.getD j 0 = mv := by
  obtain ⟨j, hj, e⟩ := List.getElem_of_mem h
  exact ⟨j, hj, by rw [List.getD_eq_getElem?_getD, List.getElem?_eq_getElem hj]; exact e⟩
theorem getD_mv {l : List Int} {j : Nat} (h : j < l.length) : l.getD j 0 ∈ l := by
  rw [List.getD_eq_getElem?_getD, List.getElem?_eq_getElem h]
  exact List.getElem_mem h
theorem Mvd.nx {K : List Sx} {E : Oc → Prop} (h : Mvd L X mode s K E (movesX L X mode s).length) {t : Sx} (ht : t ∈ nxX L X mode s) : t ∈ K := by
  obtain ⟨mv, h1, h2, h3⟩ := mem_nx.mp ht
  obtain ⟨j, hj, rfl⟩ := mv_getD h1
  rw [← h2] at h3 ⊢
  exact (h j hj).2 h3
theorem Mvd.outs {K : List Sx} {E : Oc → Prop} (h : Mvd L X mode s K E (movesX L X mode s).length) (hm : movesX L X mode s ≠ []) {o : Oc} (ho : o ∈ outsX L X mode s) : E o := by
  unfold outsX at ho
  rw [if_neg hm, List.nil_append] at ho
  obtain ⟨mv, h1, h2⟩ := List.mem_filterMap.mp ho
  obtain ⟨j, hj, rfl⟩ := mv_getD h1
  cases hf : (doX X mode s ((movesX L X mode s).getD j 0).toNat).fell with
  | false => rw [hf] at h2; cases h2
  | true =>
    rw [hf] at h2
    rw [← Option.some.inj h2]
    exact (h j hj).1 hf
theorem fell_out {mv : Int} (h : mv ∈ movesX L X mode s) (hf : (doX X mode s mv.toNat).fell = true) : (⟨1, [], (doX X mode s mv.toNat).prints⟩ : Oc) ∈ outsX L X mode s := by
  unfold outsX
  refine List.mem_append_right _ (List.mem_filterMap.mpr ⟨mv, h, ?_⟩)
  rw [hf]
  rfl
end
end

end Go.Proofs.YtkailbdjilkneaaDoor
