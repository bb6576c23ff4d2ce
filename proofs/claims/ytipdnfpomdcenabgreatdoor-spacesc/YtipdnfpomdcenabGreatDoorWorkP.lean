/-
  Outcomes and their order; all that can be come to, and what is told of it: plain functions.
  A state's numbers, by the document and by the program, tell it; what a state becomes, what runs come to.
  What holds of all that can be come to; what a run comes to is one of the outcomes; each outcome without stores that wait is one with them: plain functions.
  States that are gone through one behind the other: plain functions.
  A text of numbers tells them; numbers of a run fit: plain functions.
  States that are gone through by the program, the last one first: plain functions.
-/
import Derived.Test.YtipdnfpomdcenabGreatDoorRunP
import Derived.Test.YtipdnfpomdcenabGreatDoorSOk
import Derived.Test.YtipdnfpomdcenabGreatDoorRDoW
import Derived.Lib.ItoaNum
import Derived.Lib.ItoaLen
namespace Go.Proofs.YtipdnfpomdcenabGreatDoor
section
open Go.RowKit

/-! Outcomes and their order. -/
/-- An outcome: how a run ended, the words, what was printed. -/
structure Oc where
  st : Int
  ws : List Int
  pr : List Int
deriving DecidableEq, Inhabited
/-- The order of lists. -/
def lexL : List Int → List Int → Bool
  | [], [] => false
  | [], _ :: _ => true
  | _ :: _, [] => false
  | a :: l, b :: r => if a = b then lexL l r else decide (a < b)
/-- The order of outcomes. -/
def aheadO (a b : Oc) : Bool := if a.st ≠ b.st then decide (a.st < b.st) else if a.ws ≠ b.ws then lexL a.ws b.ws else lexL a.pr b.pr
theorem lex_irr : ∀ l : List Int, lexL l l = false
  | [] => rfl
  | a :: l => by unfold lexL; rw [if_pos rfl]; exact lex_irr l
theorem lex_trans : ∀ {a b c : List Int}, lexL a b = true → lexL b c = true → lexL a c = true
  | [], _, [], h1, h2 => by
    rename_i b
    cases b with
    | nil => cases h1
    | cons x r => cases h2
  | [], _, _ :: _, _, _ => rfl
  | _ :: _, [], _, h1, _ => by cases h1
  | _ :: _, _ :: _, [], _, h2 => by cases h2
  | x :: a, y :: b, z :: c, h1, h2 => by
    unfold lexL at h1 h2 ⊢
    by_cases e1 : x = y
    · rw [if_pos e1] at h1
      by_cases e2 : y = z
      · rw [if_pos e2] at h2
        rw [if_pos (e1.trans e2)]
        exact lex_trans h1 h2
      · rw [if_neg e2] at h2
        rw [if_neg (by rw [e1]; exact e2), e1]
        exact h2
    · rw [if_neg e1] at h1
      have h1 := of_decide_eq_true h1
      by_cases e2 : y = z
      · rw [if_neg (by rw [← e2]; exact e1), ← e2]
        exact decide_eq_true h1
      · rw [if_neg e2] at h2
        have h2 := of_decide_eq_true h2
        rw [if_neg (by omega)]
        exact decide_eq_true (by omega)
theorem lex_tri : ∀ {a b : List Int}, lexL a b = false → lexL b a = false → a = b
  | [], [], _, _ => rfl
  | [], _ :: _, h, _ => by cases h
  | _ :: _, [], _, h => by cases h
  | x :: a, y :: b, h1, h2 => by
    unfold lexL at h1 h2
    by_cases e : x = y
    · rw [if_pos e] at h1
      rw [if_pos e.symm] at h2
      rw [e, lex_tri h1 h2]
    · rw [if_neg e] at h1
      rw [if_neg (fun h => e h.symm)] at h2
      have h1 := of_decide_eq_false h1
      have h2 := of_decide_eq_false h2
      omega
theorem ahead_irr (a : Oc) : aheadO a a = false := by
  unfold aheadO
  rw [if_neg (by simp), if_neg (by simp)]
  exact lex_irr _
theorem ahead_trans {a b c : Oc} (h1 : aheadO a b = true) (h2 : aheadO b c = true) : aheadO a c = true := by
  unfold aheadO at *
  by_cases e1 : a.st = b.st
  · rw [if_neg (by simpa using e1)] at h1
    by_cases e2 : b.st = c.st
    · rw [if_neg (by simpa using e2)] at h2
      rw [if_neg (by rw [e1, e2]; simp)]
      by_cases w1 : a.ws = b.ws
      · rw [if_neg (by simpa using w1)] at h1
        by_cases w2 : b.ws = c.ws
        · rw [if_neg (by simpa using w2)] at h2
          rw [if_neg (by rw [w1, w2]; simp)]
          exact lex_trans h1 h2
        · rw [if_pos w2] at h2
          rw [if_pos (by rw [w1]; exact w2), w1]
          exact h2
      · rw [if_pos w1] at h1
        by_cases w2 : b.ws = c.ws
        · rw [if_pos (by rw [← w2]; exact w1), ← w2]
          exact h1
        · rw [if_pos w2] at h2
          have h3 := lex_trans h1 h2
          rw [if_pos (fun e => by rw [e, lex_irr] at h3; cases h3)]
          exact h3
    · rw [if_pos e2] at h2
      rw [if_pos (by rw [e1]; exact e2), e1]
      exact h2
  · rw [if_pos e1] at h1
    have h1 := of_decide_eq_true h1
    by_cases e2 : b.st = c.st
    · rw [if_pos (by rw [← e2]; exact e1), ← e2]
      exact decide_eq_true h1
    · rw [if_pos e2] at h2
      have h2 := of_decide_eq_true h2
      rw [if_pos (by omega)]
      exact decide_eq_true (by omega)
theorem ahead_tri {a b : Oc} (h1 : aheadO a b = false) (h2 : aheadO b a = false) : a = b := by
  unfold aheadO at *
  by_cases e : a.st = b.st
  · rw [if_neg (by simpa using e)] at h1
    rw [if_neg (by simpa using e.symm)] at h2
    have ew : a.ws = b.ws := by
      by_cases w : a.ws = b.ws
      · exact w
      · rw [if_pos w] at h1
        rw [if_pos (fun h => w h.symm)] at h2
        exact lex_tri h1 h2
    rw [if_neg (by simpa using ew)] at h1
    rw [if_neg (by simpa using ew.symm)] at h2
    have ep := lex_tri h1 h2
    cases a; cases b
    simp only at e ew ep
    subst e ew ep
    rfl
  · rw [if_pos e] at h1
    rw [if_pos (fun h => e h.symm)] at h2
    have h1 := of_decide_eq_false h1
    have h2 := of_decide_eq_false h2
    omega
theorem ahead_asym {a b : Oc} (h : aheadO a b = true) : aheadO b a = false := by
  cases e : aheadO b a with
  | false => rfl
  | true => have := ahead_trans h e; rw [ahead_irr] at this; cases this
/-- Each comes ahead of all that stand behind it. -/
def SortedO (l : List Oc) : Prop := l.Pairwise fun a b => aheadO a b = true
theorem sorted_same : ∀ {l r : List Oc}, SortedO l → SortedO r → (∀ o, o ∈ l ↔ o ∈ r) → l = r
  | [], [], _, _, _ => rfl
  | [], b :: r, _, _, h => by have := (h b).2 (by simp); cases this
  | a :: l, [], _, _, h => by have := (h a).1 (by simp); cases this
  | a :: l, b :: r, hl, hr, h => by
    rw [SortedO, List.pairwise_cons] at hl hr
    have ha := (h a).1 (by simp)
    have hb := (h b).2 (by simp)
    have e : a = b := by
      rcases List.mem_cons.mp ha with e | ha
      · exact e
      · rcases List.mem_cons.mp hb with e | hb
        · exact e.symm
        · have h1 := hl.1 b hb
          have h2 := hr.1 a ha
          rw [ahead_asym h1] at h2
          cases h2
    subst e
    have hna : ∀ {o}, o ∈ l → o ≠ a := fun ho e => by
      have := hl.1 _ ho
      rw [e, ahead_irr] at this
      cases this
    have hnr : ∀ {o}, o ∈ r → o ≠ a := fun ho e => by
      have := hr.1 _ ho
      rw [e, ahead_irr] at this
      cases this
    rw [sorted_same (l := l) (r := r) hl.2 hr.2 (fun o => ⟨fun ho => by
      rcases List.mem_cons.mp ((h o).1 (by simp [ho])) with e | e
      · exact absurd e (hna ho)
      · exact e, fun ho => by
      rcases List.mem_cons.mp ((h o).2 (by simp [ho])) with e | e
      · exact absurd e (hnr ho)
      · exact e⟩)]
/-- An outcome, into its place, once. -/
def insO (o : Oc) : List Oc → List Oc
  | [] => [o]
  | a :: l => if aheadO o a then o :: a :: l else if aheadO a o then a :: insO o l else a :: l
theorem mem_insO {o x : Oc} : ∀ {l : List Oc}, x ∈ insO o l ↔ x = o ∨ x ∈ l
  | [] => by simp [insO]
  | a :: l => by
    unfold insO
    split
    · simp
    · split
      · rw [List.mem_cons, mem_insO, List.mem_cons]
        constructor
        · rintro (h | h | h)
          · exact Or.inr (Or.inl h)
          · exact Or.inl h
          · exact Or.inr (Or.inr h)
        · rintro (h | h | h)
          · exact Or.inr (Or.inl h)
          · exact Or.inl h
          · exact Or.inr (Or.inr h)
      · rename_i h1 h2
        have e : o = a := ahead_tri (by simpa using h1) (by simpa using h2)
        subst e
        simp
theorem sorted_insO {o : Oc} : ∀ {l : List Oc}, SortedO l → SortedO (insO o l)
  | [], _ => List.pairwise_singleton _ _
  | a :: l, h => by
    unfold insO
    have h' := h
    rw [SortedO, List.pairwise_cons] at h'
    split
    · rename_i h1
      refine List.pairwise_cons.mpr ⟨fun x hx => ?_, h⟩
      rcases List.mem_cons.mp hx with e | hx
      · rw [e]; exact h1
      · exact ahead_trans h1 (h'.1 x hx)
    · split
      · rename_i h1 h2
        refine List.pairwise_cons.mpr ⟨fun x hx => ?_, sorted_insO h'.2⟩
        rcases mem_insO.mp hx with e | hx
        · rw [e]; exact h2
        · exact h'.1 x hx
      · exact h

/-! All that can be come to. -/
section
variable {S : Type}
inductive Rch (nx : S → List S) (s0 : S) : S → Prop
  | base : Rch nx s0 s0
  | step {s t : S} : Rch nx s0 s → t ∈ nx s → Rch nx s0 t
theorem nodup_len [DecidableEq S] : ∀ {l r : List S}, l.Nodup → (∀ x, x ∈ l → x ∈ r) → l.length ≤ r.length
  | [], _, _, _ => Nat.zero_le _
  | a :: l, r, hl, h => by
    rw [List.nodup_cons] at hl
    have ha : a ∈ r := h a (by simp)
    have h1 := nodup_len (l := l) (r := r.erase a) hl.2 (fun x hx => by
      have hne : x ≠ a := fun e => hl.1 (e ▸ hx)
      exact (List.mem_erase_of_ne hne).mpr (h x (by simp [hx])))
    rw [List.length_erase_of_mem ha] at h1
    have : 0 < r.length := List.length_pos_of_mem ha
    simp only [List.length_cons]
    omega
/-- What is told of all that can come: too many states, or all outcomes. -/
def Told (nx : S → List S) (outs : S → List Oc) (s0 : S) (mx : Nat) (full : Bool) (l : List Oc) : Prop :=
  (full = true ∧ ∃ K : List S, K.Nodup ∧ (∀ s, s ∈ K → Rch nx s0 s) ∧ mx < K.length) ∨ (full = false ∧ SortedO l ∧ (∀ o, o ∈ l ↔ ∃ s, Rch nx s0 s ∧ o ∈ outs s) ∧ ∃ K : List S, K.Nodup ∧ (∀ s, s ∈ K ↔ Rch nx s0 s) ∧ K.length ≤ mx)
theorem told_same [DecidableEq S] {nx : S → List S} {outs : S → List Oc} {s0 : S} {mx : Nat} {f1 f2 : Bool} {l1 l2 : List Oc} (h1 : Told nx outs s0 mx f1 l1) (h2 : Told nx outs s0 mx f2 l2) : f1 = f2 ∧ (f1 = false → l1 = l2) := by
  rcases h1 with ⟨e1, K1, n1, r1, c1⟩ | ⟨e1, s1, m1, K1, n1, r1, c1⟩ <;> rcases h2 with ⟨e2, K2, n2, r2, c2⟩ | ⟨e2, s2, m2, K2, n2, r2, c2⟩
  · exact ⟨e1.trans e2.symm, fun h => by rw [e1] at h; cases h⟩
  · have := nodup_len n1 (fun x hx => (r2 x).2 (r1 x hx))
    omega
  · have := nodup_len n2 (fun x hx => (r1 x).2 (r2 x hx))
    omega
  · exact ⟨e1.trans e2.symm, fun _ => sorted_same s1 s2 (fun o => (m1 o).trans (m2 o).symm)⟩
/-- What holds while states are gone through: K known, P gone through, E outcomes so far. -/
structure Wk (nx : S → List S) (outs : S → List Oc) (s0 : S) (K : List S) (P : S → Prop) (E : Oc → Prop) : Prop where
  nodup : K.Nodup
  first : s0 ∈ K
  reach : ∀ s, s ∈ K → Rch nx s0 s
  known : ∀ s, P s → s ∈ K
  next : ∀ s, P s → ∀ t, t ∈ nx s → t ∈ K
  ends : ∀ o, E o → ∃ s, Rch nx s0 s ∧ o ∈ outs s
  all : ∀ s, P s → ∀ o, o ∈ outs s → E o
theorem Wk.whole {nx : S → List S} {outs : S → List Oc} {s0 : S} {K : List S} {P : S → Prop} {E : Oc → Prop} (h : Wk nx outs s0 K P E) (hP : ∀ s, s ∈ K → P s) : (∀ s, s ∈ K ↔ Rch nx s0 s) ∧ ∀ o, E o ↔ ∃ s, Rch nx s0 s ∧ o ∈ outs s := by
  have hr : ∀ s, Rch nx s0 s → s ∈ K := fun s hs => by
    induction hs with
    | base => exact h.first
    | step _ ht ih => exact h.next _ (hP _ ih) _ ht
  exact ⟨fun s => ⟨h.reach s, hr s⟩, fun o => ⟨h.ends o, fun ⟨s, hs, ho⟩ => h.all s (hP s (hr s hs)) o ho⟩⟩
theorem Wk.told {nx : S → List S} {outs : S → List Oc} {s0 : S} {K : List S} {P : S → Prop} {E : Oc → Prop} {mx : Nat} {l : List Oc} (h : Wk nx outs s0 K P E) (hP : ∀ s, s ∈ K → P s) (hs : SortedO l) (hl : ∀ o, o ∈ l ↔ E o) (hk : K.length ≤ mx) : Told nx outs s0 mx false l := by
  obtain ⟨h1, h2⟩ := h.whole hP
  exact Or.inr ⟨rfl, hs, fun o => (hl o).trans (h2 o), K, h.nodup, h1, hk⟩
theorem Wk.full {nx : S → List S} {outs : S → List Oc} {s0 : S} {K : List S} {P : S → Prop} {E : Oc → Prop} {mx : Nat} (l : List Oc) (h : Wk nx outs s0 K P E) (hk : mx < K.length) : Told nx outs s0 mx true l := Or.inl ⟨rfl, K, h.nodup, h.reach, hk⟩
end
end

section
open Go.RowKit

/-! A state's numbers. -/
/-- All that a thread is, by the document. -/
def numW (x : Wt) : List Int := [bitI x.lk, x.wh, x.what]
def numT (h : Th) : List Int := [(h.pc : Int), (h.wait.length : Int)] ++ h.regs ++ h.wait.flatMap numW
def numsX (s : Sx) : List Int := s.ths.flatMap numT ++ s.words ++ s.own ++ s.prints
theorem numW_inj {x y : Wt} (h : numW x = numW y) : x = y := by
  cases x with
  | mk a b c =>
    cases y with
    | mk a' b' c' =>
      simp only [numW, List.cons.injEq, and_true] at h
      obtain ⟨h1, rfl, rfl⟩ := h
      cases a <;> cases a' <;> first | rfl | cases h1
theorem flat_inj {f : Wt → List Int} {k : Nat} {Q : Wt → Prop} (hk : ∀ x, (f x).length = k) (hf : ∀ x y, Q x → Q y → f x = f y → x = y) : ∀ {l r : List Wt} {u v : List Int}, l.length = r.length → (∀ x, x ∈ l → Q x) → (∀ x, x ∈ r → Q x) → l.flatMap f ++ u = r.flatMap f ++ v → l = r ∧ u = v
  | [], [], _, _, _, _, _, h => ⟨rfl, h⟩
  | a :: l, b :: r, u, v, hl, h1, h2, h => by
    rw [List.flatMap_cons, List.flatMap_cons, List.append_assoc, List.append_assoc] at h
    obtain ⟨e1, e2⟩ := List.append_inj h (by rw [hk, hk])
    obtain ⟨e3, e4⟩ := flat_inj hk hf (by simpa using hl) (fun x hx => h1 x (by simp [hx])) (fun x hx => h2 x (by simp [hx])) e2
    rw [hf _ _ (h1 a (by simp)) (h2 b (by simp)) e1, e3]
    exact ⟨rfl, e4⟩
theorem numT_inj {a b : Th} {u v : List Int} (hr : a.regs.length = b.regs.length) (h : numT a ++ u = numT b ++ v) : a = b ∧ u = v := by
  cases a with
  | mk pa ra wa =>
    cases b with
    | mk pb rb wb =>
      simp only [numT, List.append_assoc, List.cons_append, List.nil_append, List.cons.injEq] at h
      obtain ⟨h1, h2, h3⟩ := h
      obtain ⟨e1, e2⟩ := List.append_inj h3 hr
      obtain ⟨e3, e4⟩ := flat_inj (k := 3) (Q := fun _ => True) (fun _ => rfl) (fun _ _ _ _ => numW_inj) (by omega) (fun _ _ => trivial) (fun _ _ => trivial) e2
      subst e1 e3
      exact ⟨by rw [show pa = pb by omega], e4⟩
theorem nums_ths : ∀ {l r : List Th} {u v : List Int} {rg : Nat}, l.length = r.length → (∀ x, x ∈ l → x.regs.length = rg) → (∀ x, x ∈ r → x.regs.length = rg) → l.flatMap numT ++ u = r.flatMap numT ++ v → l = r ∧ u = v
  | [], [], _, _, _, _, _, _, h => ⟨rfl, h⟩
  | a :: l, b :: r, u, v, rg, hl, h1, h2, h => by
    rw [List.flatMap_cons, List.flatMap_cons, List.append_assoc, List.append_assoc] at h
    obtain ⟨e1, e2⟩ := numT_inj (by rw [h1 a (by simp), h2 b (by simp)]) h
    obtain ⟨e3, e4⟩ := nums_ths (rg := rg) (by simpa using hl) (fun x hx => h1 x (by simp [hx])) (fun x hx => h2 x (by simp [hx])) e2
    rw [e1, e3]
    exact ⟨rfl, e4⟩
theorem SOk.mem {n : Nat} {L : Nat → Nat} {m lk rg : Nat} {mode : Int} {s : Sx} (h : SOk n L m lk rg mode s) {x : Th} (hx : x ∈ s.ths) : ∃ t, t < n ∧ thOf s t = x := by
  obtain ⟨t, ht, e⟩ := List.getElem_of_mem hx
  exact ⟨t, by rw [← h.ths]; exact ht, by unfold thOf; rw [List.getD_eq_getElem?_getD, List.getElem?_eq_getElem ht]; exact e⟩
/-- Two states of a program are the same where their numbers are. -/
theorem nums_inj {n : Nat} {L : Nat → Nat} {m lk rg : Nat} {mode : Int} {s r : Sx} (h1 : SOk n L m lk rg mode s) (h2 : SOk n L m lk rg mode r) (hf : s.fell = r.fell) (h : numsX s = numsX r) : s = r := by
  unfold numsX at h
  simp only [List.append_assoc] at h
  obtain ⟨e1, e2⟩ := nums_ths (rg := rg) (by rw [h1.ths, h2.ths]) (fun x hx => by obtain ⟨t, ht, rfl⟩ := h1.mem hx; exact h1.regs t ht) (fun x hx => by obtain ⟨t, ht, rfl⟩ := h2.mem hx; exact h2.regs t ht) h
  obtain ⟨e3, e4⟩ := List.append_inj e2 (by rw [h1.words, h2.words])
  obtain ⟨e5, e6⟩ := List.append_inj e4 (by rw [h1.own, h2.own])
  cases s; cases r
  simp only at e1 e3 e5 e6 hf
  subst e1 e3 e5 e6 hf
  rfl
/-- All that a thread is, by the program; what waits of it. -/
def telT (h : Th) : List Int := [(h.pc : Int)] ++ h.regs
def telW (x : Wt) : List Int := [if x.lk then -1 - x.wh else x.wh, x.what]
def telB (h : Th) : List Int := [(h.wait.length : Int)] ++ h.wait.flatMap telW
def telM (mode : Int) (s : Sx) : List Int := s.words ++ s.own ++ (if 0 < mode then s.ths.flatMap telB else [])
def telX (mode : Int) (s : Sx) : List Int := s.ths.flatMap telT ++ telM mode s ++ s.prints
theorem telW_inj {x y : Wt} (hx : 0 ≤ x.wh) (hy : 0 ≤ y.wh) (h : telW x = telW y) : x = y := by
  cases x with
  | mk a b c =>
    cases y with
    | mk a' b' c' =>
      simp only [telW, List.cons.injEq, and_true] at h
      obtain ⟨h1, rfl⟩ := h
      simp only at hx hy
      cases a <;> cases a' <;> simp only [if_true, Bool.false_eq_true, if_false] at h1
      · rw [h1]
      · omega
      · omega
      · rw [show b = b' by omega]
theorem tel_ths : ∀ {l r : List Th} {u v : List Int} {rg : Nat}, l.length = r.length → (∀ x, x ∈ l → x.regs.length = rg) → (∀ x, x ∈ r → x.regs.length = rg) → l.flatMap telT ++ u = r.flatMap telT ++ v → (l.map fun x => (x.pc, x.regs)) = (r.map fun x => (x.pc, x.regs)) ∧ u = v
  | [], [], _, _, _, _, _, _, h => ⟨rfl, h⟩
  | a :: l, b :: r, u, v, rg, hl, h1, h2, h => by
    rw [List.flatMap_cons, List.flatMap_cons, List.append_assoc, List.append_assoc] at h
    obtain ⟨e1, e2⟩ := List.append_inj h (by simp [telT, h1 a (by simp), h2 b (by simp)])
    simp only [telT, List.cons_append, List.nil_append, List.cons.injEq] at e1
    obtain ⟨e3, e4⟩ := tel_ths (rg := rg) (by simpa using hl) (fun x hx => h1 x (by simp [hx])) (fun x hx => h2 x (by simp [hx])) e2
    refine ⟨?_, e4⟩
    rw [List.map_cons, List.map_cons, e3, show a.pc = b.pc by omega, e1.2]
theorem tel_buf : ∀ {l r : List Th} {u v : List Int}, l.length = r.length → (∀ x, x ∈ l → ∀ y, y ∈ x.wait → 0 ≤ y.wh) → (∀ x, x ∈ r → ∀ y, y ∈ x.wait → 0 ≤ y.wh) → l.flatMap telB ++ u = r.flatMap telB ++ v → (l.map fun x => x.wait) = (r.map fun x => x.wait) ∧ u = v
  | [], [], _, _, _, _, _, h => ⟨rfl, h⟩
  | a :: l, b :: r, u, v, hl, h1, h2, h => by
    rw [List.flatMap_cons, List.flatMap_cons, List.append_assoc, List.append_assoc] at h
    simp only [telB, List.cons_append, List.nil_append, List.cons.injEq] at h
    obtain ⟨e0, h⟩ := h
    obtain ⟨e1, e2⟩ := flat_inj (k := 2) (Q := fun y => 0 ≤ y.wh) (fun _ => rfl) (fun _ _ h1 h2 => telW_inj h1 h2) (by omega) (h1 a (by simp)) (h2 b (by simp)) h
    obtain ⟨e3, e4⟩ := tel_buf (by simpa using hl) (fun x hx => h1 x (by simp [hx])) (fun x hx => h2 x (by simp [hx])) e2
    exact ⟨by rw [List.map_cons, List.map_cons, e1, e3], e4⟩
theorem ths_eq : ∀ {l r : List Th}, (l.map fun x => (x.pc, x.regs)) = (r.map fun x => (x.pc, x.regs)) → (l.map fun x => x.wait) = (r.map fun x => x.wait) → l = r
  | [], [], _, _ => rfl
  | [], _ :: _, h, _ => by cases h
  | _ :: _, [], h, _ => by cases h
  | a :: l, b :: r, h1, h2 => by
    simp only [List.map_cons, List.cons.injEq, Prod.mk.injEq] at h1 h2
    rw [ths_eq h1.2 h2.2]
    cases a; cases b
    simp only at h1 h2
    rw [h1.1.1, h1.1.2, h2.1]
/-- Two states of a program are the same where what they tell is. -/
theorem tel_inj {n : Nat} {L : Nat → Nat} {m lk rg : Nat} {mode : Int} {s r : Sx} (h1 : SOk n L m lk rg mode s) (h2 : SOk n L m lk rg mode r) (hm : 0 ≤ mode) (hf : s.fell = r.fell) (h : telX mode s = telX mode r) : s = r := by
  unfold telX telM at h
  simp only [List.append_assoc] at h
  obtain ⟨e1, e2⟩ := tel_ths (rg := rg) (by rw [h1.ths, h2.ths]) (fun x hx => by obtain ⟨t, ht, rfl⟩ := h1.mem hx; exact h1.regs t ht) (fun x hx => by obtain ⟨t, ht, rfl⟩ := h2.mem hx; exact h2.regs t ht) h
  obtain ⟨e3, e4⟩ := List.append_inj e2 (by rw [h1.words, h2.words])
  obtain ⟨e5, e6⟩ := List.append_inj e4 (by rw [h1.own, h2.own])
  have ew : (s.ths.map fun x => x.wait) = (r.ths.map fun x => x.wait) ∧ s.prints = r.prints := by
    by_cases h0 : 0 < mode
    · rw [if_pos h0, if_pos h0] at e6
      exact tel_buf (by rw [h1.ths, h2.ths]) (fun x hx y hy => by obtain ⟨t, ht, rfl⟩ := h1.mem hx; exact (h1.wok t ht y hy).1.1) (fun x hx y hy => by obtain ⟨t, ht, rfl⟩ := h2.mem hx; exact (h2.wok t ht y hy).1.1) e6
    · rw [if_neg h0, if_neg h0] at e6
      have hz : mode = 0 := by omega
      have e : ∀ (q : Sx), SOk n L m lk rg mode q → (q.ths.map fun x => x.wait) = List.replicate n [] := fun q hq => by
        rw [List.eq_replicate_iff]
        refine ⟨by rw [List.length_map, hq.ths], fun b hb => ?_⟩
        obtain ⟨x, hx, rfl⟩ := List.mem_map.mp hb
        obtain ⟨t, ht, rfl⟩ := hq.mem hx
        exact hq.bare hz t ht
      exact ⟨by rw [e s h1, e r h2], by simpa using e6⟩
  have et := ths_eq e1 ew.1
  have ep := ew.2
  cases s; cases r
  simp only at et e3 e5 ep hf
  subst et e3 e5 ep hf
  rfl

/-! What a state becomes; what runs come to. -/
section
variable (L : Nat → Nat) (X : Nat → Nat → Nat → Int) (mode : Int)
def nxX (s : Sx) : List Sx := (movesX L X mode s).filterMap fun mv => if (doX X mode s mv.toNat).fell then none else some (doX X mode s mv.toNat)
def outsX (s : Sx) : List Oc :=
  (if movesX L X mode s = [] then [⟨if endedX L s then 0 else 2, s.words, s.prints⟩] else []) ++
    (movesX L X mode s).filterMap fun mv => if (doX X mode s mv.toNat).fell then some ⟨1, [], (doX X mode s mv.toNat).prints⟩ else none
end
end

section
open Go.RowKit

section
variable {n : Nat} {L : Nat → Nat} {X : Nat → Nat → Nat → Int} {m lk rg : Nat} {mode : Int}
theorem moves_ended {s : Sx} (h : endedX L s = true) : movesX L X mode s = [] := by
  unfold movesX
  rw [List.flatMap_eq_nil_iff]
  intro t ht
  unfold endedX at h
  rw [List.all_eq_true] at h
  have h1 := h t ht
  rw [Bool.and_eq_true] at h1
  have hw : (thOf s t).wait = [] := List.isEmpty_iff.mp h1.2
  unfold movesT
  rw [hw]
  have ha : ableT L X s t = false := by unfold ableT; rw [if_pos h1.1]
  rw [ha]
  rfl
/-- What a move makes of a state that may be. -/
theorem move_ok {s : Sx} (h : SOk n L m lk rg mode s) (hc : COk n L X m lk rg) (hm : 0 ≤ mode) {mv : Int} (hmv : mv ∈ movesX L X mode s) : SOk n L m lk rg mode (doX X mode s mv.toNat) := by
  rcases movesX_mem hmv with ⟨t, ht, rfl, ha⟩ | ⟨t, k, ht, hk, rfl, _⟩
  · rw [show (8 * (t : Int)).toNat = 8 * t by omega]
    exact h.step hc hm (by rw [← h.ths]; exact ht) ha
  · rw [show (8 * (t : Int) + (k : Int) + 1).toNat = 8 * t + k + 1 by omega]
    exact h.wait (by rw [← h.ths]; exact ht) hk
theorem mem_nx {s t : Sx} : t ∈ nxX L X mode s ↔ ∃ mv, mv ∈ movesX L X mode s ∧ doX X mode s mv.toNat = t ∧ t.fell = false := by
  unfold nxX
  rw [List.mem_filterMap]
  constructor
  · rintro ⟨mv, h1, h2⟩
    cases hf : (doX X mode s mv.toNat).fell with
    | true => rw [hf] at h2; cases h2
    | false =>
      rw [hf] at h2
      have e : doX X mode s mv.toNat = t := Option.some.inj h2
      exact ⟨mv, h1, e, by rw [← e]; exact hf⟩
  · rintro ⟨mv, h1, h2, h3⟩
    exact ⟨mv, h1, by rw [h2, h3]; rfl⟩
/-- What holds of all that can be come to. -/
theorem reach_ok {s0 s : Sx} (h0 : SOk n L m lk rg mode s0) (hf : s0.fell = false) (hc : COk n L X m lk rg) (hm : 0 ≤ mode) (h : Rch (nxX L X mode) s0 s) : SOk n L m lk rg mode s ∧ s.fell = false := by
  induction h with
  | base => exact ⟨h0, hf⟩
  | step _ ht ih =>
    obtain ⟨mv, h1, h2, h3⟩ := mem_nx.mp ht
    rw [← h2]
    exact ⟨move_ok ih.1 hc hm h1, by rw [h2]; exact h3⟩
/-- What a run by a script comes to is one of the outcomes. -/
theorem run_told {s0 : Sx} : ∀ (f : Nat) (s : Sx) (k : Nat) (sc : List Int), Rch (nxX L X mode) s0 s → (runX L X mode f s k sc).2.1 = 3 ∨ ∃ t, Rch (nxX L X mode) s0 t ∧ (⟨(runX L X mode f s k sc).2.1, if (runX L X mode f s k sc).2.1 = 1 then [] else (runX L X mode f s k sc).1.words, (runX L X mode f s k sc).1.prints⟩ : Oc) ∈ outsX L X mode t
  | f, s, k, sc, h => by
    by_cases he : endedX L s = true
    · rw [run_ended he]
      refine Or.inr ⟨s, h, ?_⟩
      unfold outsX
      rw [if_pos (moves_ended he), he]
      exact List.mem_append_left _ (by simp)
    · have he : endedX L s = false := by simpa using he
      by_cases hm : movesX L X mode s = []
      · rw [run_stuck he hm]
        refine Or.inr ⟨s, h, ?_⟩
        unfold outsX
        rw [if_pos hm, he]
        exact List.mem_append_left _ (by simp)
      · cases f with
        | zero => rw [run_out he hm]; exact Or.inl rfl
        | succ f =>
          have hl : 0 < (movesX L X mode s).length := List.length_pos_iff.mpr hm
          have hlt := pick_lt (movesX L X mode s).length sc hl
          have eg : (movesX L X mode s).getD (pickX (movesX L X mode s).length sc).1 0 = (movesX L X mode s)[(pickX (movesX L X mode s).length sc).1] := by
            rw [List.getD_eq_getElem?_getD, List.getElem?_eq_getElem hlt]; rfl
          rw [run_step he hm, eg]
          have hmem := List.getElem_mem hlt
          obtain ⟨mv, hmv⟩ : ∃ mv, (movesX L X mode s)[(pickX (movesX L X mode s).length sc).1] = mv := ⟨_, rfl⟩
          rw [hmv] at hmem ⊢
          cases hf : (doX X mode s mv.toNat).fell with
          | true =>
            rw [if_pos rfl]
            refine Or.inr ⟨s, h, ?_⟩
            unfold outsX
            refine List.mem_append_right _ (List.mem_filterMap.mpr ⟨mv, hmem, ?_⟩)
            rw [hf]
            rfl
          | false =>
            rw [if_neg (by simp)]
            exact run_told f _ _ _ (.step h (mem_nx.mpr ⟨mv, hmem, rfl, hf⟩))
end
theorem order_modes (s : Sx) (t : Nat) (op a b c : Int) : orderX 1 s t op a b c = orderX 0 s t op a b c ∨ ∃ x, orderX 1 s t op a b c = storeW 1 s t x ∧ orderX 0 s t op a b c = storeW 0 s t x := by
  unfold orderX
  by_cases e : op = 1
  · rw [if_pos e, if_pos e]
    exact Or.inl rfl
  rw [if_neg e, if_neg e]
  clear e
  by_cases e : op = 2
  · rw [if_pos e, if_pos e]
    exact Or.inl rfl
  rw [if_neg e, if_neg e]
  clear e
  by_cases e : op = 3
  · rw [if_pos e, if_pos e]
    exact Or.inl rfl
  rw [if_neg e, if_neg e]
  clear e
  by_cases e : op = 4
  · rw [if_pos e, if_pos e]
    exact Or.inl rfl
  rw [if_neg e, if_neg e]
  clear e
  by_cases e : op = 5
  · rw [if_pos e, if_pos e]
    exact Or.inl rfl
  rw [if_neg e, if_neg e]
  clear e
  by_cases e : op = 6
  · rw [if_pos e, if_pos e]
    exact Or.inl rfl
  rw [if_neg e, if_neg e]
  clear e
  by_cases e : op = 7
  · rw [if_pos e, if_pos e]
    exact Or.inl rfl
  rw [if_neg e, if_neg e]
  clear e
  by_cases e : op = 8
  · rw [if_pos e, if_pos e]
    exact Or.inl rfl
  rw [if_neg e, if_neg e]
  clear e
  by_cases e : op = 9
  · rw [if_pos e, if_pos e]
    exact Or.inr ⟨_, rfl, rfl⟩
  rw [if_neg e, if_neg e]
  clear e
  by_cases e : op = 10
  · rw [if_pos e, if_pos e]
    exact Or.inl rfl
  rw [if_neg e, if_neg e]
  clear e
  by_cases e : op = 11
  · rw [if_pos e, if_pos e]
    by_cases hr : getR s t a < 0 ∨ (s.words.length : Int) ≤ getR s t a
    · rw [if_pos hr, if_pos hr]; exact Or.inl rfl
    · rw [if_neg hr, if_neg hr]; exact Or.inr ⟨_, rfl, rfl⟩
  rw [if_neg e, if_neg e]
  clear e
  by_cases e : op = 13
  · rw [if_pos e, if_pos e]
    exact Or.inl rfl
  rw [if_neg e, if_neg e]
  clear e
  by_cases e : op = 14
  · rw [if_pos e, if_pos e]
    exact Or.inl rfl
  rw [if_neg e, if_neg e]
  clear e
  by_cases e : op = 15
  · rw [if_pos e, if_pos e]
    exact Or.inl rfl
  rw [if_neg e, if_neg e]
  clear e
  by_cases e : op = 16
  · rw [if_pos e, if_pos e]
    exact Or.inl rfl
  rw [if_neg e, if_neg e]
  clear e
  by_cases e : op = 17
  · rw [if_pos e, if_pos e]
    exact Or.inl rfl
  rw [if_neg e, if_neg e]
  clear e
  by_cases e : op = 18
  · rw [if_pos e, if_pos e]
    by_cases hr : s.own.getD a.toNat 0 ≠ t ∨ ((thOf s t).wait.any fun x => x.lk && decide (x.wh = a)) = true
    · rw [if_pos hr, if_pos hr]; exact Or.inl rfl
    · rw [if_neg hr, if_neg hr]; exact Or.inr ⟨_, rfl, rfl⟩
  rw [if_neg e, if_neg e]
  clear e
  exact Or.inl rfl
theorem th_set {s : Sx} {t : Nat} (ht : t < s.ths.length) (x : Th) : thOf (setTh s t x) t = x := by
  unfold thOf setTh
  simp [List.getD, ht]
theorem set_set (s : Sx) (t : Nat) (x y : Th) : setTh (setTh s t x) t y = setTh s t y := by
  unfold setTh
  simp
theorem set_th {s : Sx} {t : Nat} (ht : t < s.ths.length) : setTh s t (thOf s t) = s := by
  unfold setTh thOf
  have : s.ths.set t (s.ths.getD t default) = s.ths := by
    rw [List.getD_eq_getElem?_getD, List.getElem?_eq_getElem ht]
    exact List.set_getElem_self ht
  rw [this]
/-- A store that waits for nothing is one that is done at once. -/
theorem store_flush {X : Nat → Nat → Nat → Int} {s : Sx} {t : Nat} (ht : t < s.ths.length) (hw : (thOf s t).wait = []) (x : Wt) : doX X 1 (storeW 1 s t x) (8 * t + 0 + 1) = storeW 0 s t x := by
  have e1 : storeW 1 s t x = setTh s t { thOf s t with wait := [x] } := by
    unfold storeW
    rw [if_pos (by decide), hw]
    rfl
  have e2 : storeW 0 s t x = doneW s x := by unfold storeW; rw [if_neg (by decide)]
  have e0 := doX_wait (X := X) (mode := 1) (s := storeW 1 s t x) (t := t) (k := 0) (by omega)
  rw [e0, e1, e2, th_set ht]
  show setTh (doneW (setTh s t _) x) t { thOf s t with wait := [] } = _
  have e3 : ({ thOf s t with wait := [] } : Th) = thOf s t := by rw [← hw]
  rw [e3]
  unfold doneW
  cases hk : x.lk with
  | true =>
    show setTh (setTh { s with own := s.own.set x.wh.toNat (-1) } t _) t (thOf s t) = { s with own := s.own.set x.wh.toNat (-1) }
    rw [set_set]
    exact set_th (s := { s with own := s.own.set x.wh.toNat (-1) }) ht
  | false =>
    show setTh (setTh { s with words := s.words.set x.wh.toNat x.what } t _) t (thOf s t) = { s with words := s.words.set x.wh.toNat x.what }
    rw [set_set]
    exact set_th (s := { s with words := s.words.set x.wh.toNat x.what }) ht
section
variable {n : Nat} {L : Nat → Nat} {X : Nat → Nat → Nat → Int} {m lk rg : Nat}
theorem bare_moves {s : Sx} (h : ∀ t, t < s.ths.length → (thOf s t).wait = []) : movesX L X 1 s = movesX L X 0 s := by
  unfold movesX
  rw [List.flatMap_def, List.flatMap_def]
  refine congrArg List.flatten (List.map_congr_left fun t ht => ?_)
  have hw := h t (by simpa using ht)
  unfold movesT
  rw [hw]
  rfl
theorem do_modes {s : Sx} {t : Nat} (ht : t < s.ths.length) (hw : (thOf s t).wait = []) : doX X 1 s (8 * t) = doX X 0 s (8 * t) ∨ ∃ u x, u.ths.length = s.ths.length ∧ (thOf u t).wait = [] ∧ doX X 1 s (8 * t) = storeW 1 u t x ∧ doX X 0 s (8 * t) = storeW 0 u t x := by
  have e : ∀ mode, doX X mode s (8 * t) = orderX mode (setTh s t { thOf s t with pc := (thOf s t).pc + 1 }) t (X t (thOf s t).pc 0) (X t (thOf s t).pc 1) (X t (thOf s t).pc 2) (X t (thOf s t).pc 3) := fun mode => by
    unfold doX
    simp only [show 8 * t / 8 = t by omega, show 8 * t % 8 = 0 by omega]
    rw [if_neg (by omega)]
  rw [e, e]
  rcases order_modes (setTh s t { thOf s t with pc := (thOf s t).pc + 1 }) t (X t (thOf s t).pc 0) (X t (thOf s t).pc 1) (X t (thOf s t).pc 2) (X t (thOf s t).pc 3) with h | ⟨x, h1, h2⟩
  · exact Or.inl h
  · exact Or.inr ⟨_, x, by simp [setTh], by rw [th_set ht]; exact hw, h1, h2⟩
theorem store_fell (s : Sx) (t : Nat) (x : Wt) (mode : Int) : (storeW mode s t x).fell = s.fell := by
  unfold storeW doneW
  split
  · rfl
  · split <;> rfl
/-- What can be come to without stores that wait can be come to with them. -/
theorem reach_more {s0 s : Sx} (h0 : SOk n L m lk rg 0 s0) (hf : s0.fell = false) (hc : COk n L X m lk rg) (h : Rch (nxX L X 0) s0 s) : Rch (nxX L X 1) s0 s := by
  induction h with
  | base => exact .base
  | step hs ht ih =>
    rename_i s t
    obtain ⟨hok, _⟩ := reach_ok h0 hf hc (by decide) hs
    have hbare : ∀ u, u < s.ths.length → (thOf s u).wait = [] := fun u hu => hok.bare rfl u (by rw [← hok.ths]; exact hu)
    obtain ⟨mv, h1, h2, h3⟩ := mem_nx.mp ht
    rcases movesX_mem h1 with ⟨u, hu, rfl, ha⟩ | ⟨u, k, hu, hk, _, _⟩
    · have e8 : (8 * (u : Int)).toNat = 8 * u := by omega
      rw [e8] at h2
      have hin1 : 8 * (u : Int) ∈ movesX L X 1 s := by rw [bare_moves hbare]; exact h1
      rcases do_modes (X := X) hu (hbare u hu) with h4 | ⟨w, x, hl, hw, h4, h5⟩
      · exact .step ih (mem_nx.mpr ⟨_, hin1, by rw [e8, h4]; exact h2, h3⟩)
      · have hul : u < w.ths.length := by rw [hl]; exact hu
        have hfw : w.fell = false := by
          have := h3
          rw [← h2, h5, store_fell] at this
          exact this
        have h6 : Rch (nxX L X 1) s0 (storeW 1 w u x) := .step ih (mem_nx.mpr ⟨_, hin1, by rw [e8]; exact h4, by rw [store_fell]; exact hfw⟩)
        have e1 : storeW 1 w u x = setTh w u { thOf w u with wait := [x] } := by
          unfold storeW
          rw [if_pos (by decide), hw]
          rfl
        have hmv : 8 * (u : Int) + ((0 : Nat) : Int) + 1 ∈ movesX L X 1 (storeW 1 w u x) := by
          unfold movesX
          refine List.mem_flatMap.mpr ⟨u, by rw [e1]; simpa [setTh] using hul, ?_⟩
          unfold movesT
          refine List.mem_append_right _ (List.mem_map.mpr ⟨0, List.mem_filter.mpr ⟨?_, rfl⟩, rfl⟩)
          rw [e1, th_set hul]
          simp
        refine .step h6 (mem_nx.mpr ⟨_, hmv, ?_, h3⟩)
        rw [show (8 * (u : Int) + ((0 : Nat) : Int) + 1).toNat = 8 * u + 0 + 1 by omega, store_flush hul hw]
        rw [← h5]
        exact h2
    · rw [hbare u hu] at hk
      cases hk
/-- Each outcome without stores that wait is one with them. -/
theorem outs_more {s0 s : Sx} (h0 : SOk n L m lk rg 0 s0) (hf : s0.fell = false) (hc : COk n L X m lk rg) (h : Rch (nxX L X 0) s0 s) {o : Oc} (ho : o ∈ outsX L X 0 s) : o ∈ outsX L X 1 s := by
  obtain ⟨hok, hfs⟩ := reach_ok h0 hf hc (by decide) h
  have hbare : ∀ u, u < s.ths.length → (thOf s u).wait = [] := fun u hu => hok.bare rfl u (by rw [← hok.ths]; exact hu)
  have hm := bare_moves (L := L) (X := X) hbare
  unfold outsX at ho ⊢
  rw [hm]
  rcases List.mem_append.mp ho with ho | ho
  · exact List.mem_append_left _ ho
  · refine List.mem_append_right _ ?_
    obtain ⟨mv, h1, h2⟩ := List.mem_filterMap.mp ho
    refine List.mem_filterMap.mpr ⟨mv, h1, ?_⟩
    rcases movesX_mem h1 with ⟨u, hu, rfl, ha⟩ | ⟨u, k, hu, hk, _, _⟩
    · have e8 : (8 * (u : Int)).toNat = 8 * u := by omega
      rw [e8] at h2 ⊢
      rcases do_modes (X := X) hu (hbare u hu) with h4 | ⟨w, x, hl, hw, h4, h5⟩
      · rw [h4]; exact h2
      · cases hff : (doX X 0 s (8 * u)).fell with
        | false => rw [hff] at h2; cases h2
        | true =>
          have hw1 : w.fell = true := by rw [h5, store_fell] at hff; exact hff
          have hp : ∀ mode, (storeW mode w u x).prints = w.prints := fun mode => by
            unfold storeW doneW
            split
            · rfl
            · split <;> rfl
          rw [hff] at h2
          rw [h4, store_fell, hw1, hp]
          rw [h5, hp] at h2
          exact h2
    · rw [hbare u hu] at hk
      cases hk
end
end

section
open Go.RowKit

section
variable {S : Type} {nx : S → List S} {outs : S → List Oc} {s0 : S} {K : List S} {P P' : S → Prop} {E E' : Oc → Prop}
theorem Wk.begin : Wk nx outs s0 [s0] (fun _ => False) (fun _ => False) :=
  ⟨by simp, by simp, fun s h => by rw [List.mem_singleton.mp h]; exact .base, fun _ h => h.elim, fun _ h => h.elim, fun _ h => h.elim, fun _ h => h.elim⟩
theorem Wk.same (h : Wk nx outs s0 K P E) (hP : ∀ s, P' s ↔ P s) (hE : ∀ o, E' o ↔ E o) : Wk nx outs s0 K P' E' :=
  ⟨h.nodup, h.first, h.reach, fun s hs => h.known s ((hP s).1 hs), fun s hs => h.next s ((hP s).1 hs), fun o ho => h.ends o ((hE o).1 ho), fun s hs o ho => (hE o).2 (h.all s ((hP s).1 hs) o ho)⟩
/-- One state more. -/
theorem Wk.push (h : Wk nx outs s0 K P E) {x t : S} (hx : x ∈ K) (ht : t ∈ nx x) (hn : t ∉ K) : Wk nx outs s0 (K ++ [t]) P E where
  nodup := by
    rw [List.nodup_append]
    refine ⟨h.nodup, by simp, fun a ha b hb e => ?_⟩
    rw [List.mem_singleton.mp hb] at e
    exact hn (e ▸ ha)
  first := List.mem_append_left _ h.first
  reach s hs := by
    rcases List.mem_append.mp hs with hs | hs
    · exact h.reach s hs
    · rw [List.mem_singleton.mp hs]; exact .step (h.reach x hx) ht
  known s hs := List.mem_append_left _ (h.known s hs)
  next s hs t' ht' := List.mem_append_left _ (h.next s hs t' ht')
  ends := h.ends
  all := h.all
/-- One outcome more. -/
theorem Wk.out (h : Wk nx outs s0 K P E) {x : S} {o : Oc} (hx : x ∈ K) (ho : o ∈ outs x) (hE : ∀ y, E' y ↔ y = o ∨ E y) : Wk nx outs s0 K P E' :=
  ⟨h.nodup, h.first, h.reach, h.known, h.next, fun y hy => by
    rcases (hE y).1 hy with e | hy
    · rw [e]; exact ⟨x, h.reach x hx, ho⟩
    · exact h.ends y hy, fun s hs y hy => (hE y).2 (Or.inr (h.all s hs y hy))⟩
/-- One state has been gone through. -/
theorem Wk.gone (h : Wk nx outs s0 K P E) {x : S} (hx : x ∈ K) (hn : ∀ t, t ∈ nx x → t ∈ K) (ho : ∀ o, o ∈ outs x → E o) (hP : ∀ s, P' s → s = x ∨ P s) : Wk nx outs s0 K P' E :=
  ⟨h.nodup, h.first, h.reach, fun s hs => by
    rcases hP s hs with e | hs
    · rw [e]; exact hx
    · exact h.known s hs, fun s hs => by
    rcases hP s hs with e | hs
    · rw [e]; exact hn
    · exact h.next s hs, h.ends, fun s hs => by
    rcases hP s hs with e | hs
    · rw [e]; exact ho
    · exact h.all s hs⟩
end
section
variable {L : Nat → Nat} {X : Nat → Nat → Nat → Int} {mode : Int} {s : Sx}
theorem nx_none (h : movesX L X mode s = []) : nxX L X mode s = [] := by unfold nxX; rw [h]; rfl
theorem outs_none (h : movesX L X mode s = []) : outsX L X mode s = [⟨if endedX L s then 0 else 2, s.words, s.prints⟩] := by
  unfold outsX
  rw [h]
  rfl
/-- What was made of the first k moves. -/
def Mvd (L : Nat → Nat) (X : Nat → Nat → Nat → Int) (mode : Int) (s : Sx) (K : List Sx) (E : Oc → Prop) (k : Nat) : Prop :=
  ∀ j, j < k → ((doX X mode s ((movesX L X mode s).getD j 0).toNat).fell = true → E ⟨1, [], (doX X mode s ((movesX L X mode s).getD j 0).toNat).prints⟩) ∧ ((doX X mode s ((movesX L X mode s).getD j 0).toNat).fell = false → doX X mode s ((movesX L X mode s).getD j 0).toNat ∈ K)
theorem Mvd.next {K K' : List Sx} {E E' : Oc → Prop} {k : Nat} (h : Mvd L X mode s K E k) (hK : ∀ t, t ∈ K → t ∈ K') (hE : ∀ o, E o → E' o) (h1 : (doX X mode s ((movesX L X mode s).getD k 0).toNat).fell = true → E' ⟨1, [], (doX X mode s ((movesX L X mode s).getD k 0).toNat).prints⟩) (h2 : (doX X mode s ((movesX L X mode s).getD k 0).toNat).fell = false → doX X mode s ((movesX L X mode s).getD k 0).toNat ∈ K') : Mvd L X mode s K' E' (k + 1) := fun j hj => by
  rcases Nat.lt_or_ge j k with h3 | h3
  · exact ⟨fun hf => hE _ ((h j h3).1 hf), fun hf => hK _ ((h j h3).2 hf)⟩
  · obtain rfl : j = k := by omega
    exact ⟨h1, h2⟩
theorem mv_getD {l : List Int} {mv : Int} (h : mv ∈ l) : ∃ j, j < l.length ∧ l.getD j 0 = mv := by
  obtain ⟨j, hj, e⟩ := List.getElem_of_mem h
  exact ⟨j, hj, by rw [List.getD_eq_getElem?_getD, List.getElem?_eq_getElem hj]; exact e⟩
theorem getD_mv {l : List Int} {j : Nat} (h : j < l.length) : l.getD j 0 ∈ l := by
  rw [List.getD_eq_getElem?_getD, List.getElem?_eq_getElem h]
  exact List.getElem_mem h
theorem Mvd.nx {K : List Sx} {E : Oc → Prop} (h : Mvd L X mode s K E (movesX L X mode s).length) {t : Sx} (ht : t ∈ nxX L X mode s) : t ∈ K := by
  obtain ⟨mv, h1, h2, h3⟩ := mem_nx.mp ht
  obtain ⟨j, hj, rfl⟩ := mv_getD h1
  rw [← h2] at h3 ⊢
  exact (h j hj).2 h3
theorem Mvd.outs {K : List Sx} {E : Oc → Prop} (h : Mvd L X mode s K E (movesX L X mode s).length) (hm : movesX L X mode s ≠ []) {o : Oc} (ho : o ∈ outsX L X mode s) : E o := by
  unfold outsX at ho
  rw [if_neg hm, List.nil_append] at ho
  obtain ⟨mv, h1, h2⟩ := List.mem_filterMap.mp ho
  obtain ⟨j, hj, rfl⟩ := mv_getD h1
  cases hf : (doX X mode s ((movesX L X mode s).getD j 0).toNat).fell with
  | false => rw [hf] at h2; cases h2
  | true =>
    rw [hf] at h2
    rw [← Option.some.inj h2]
    exact (h j hj).1 hf
theorem fell_out {mv : Int} (h : mv ∈ movesX L X mode s) (hf : (doX X mode s mv.toNat).fell = true) : (⟨1, [], (doX X mode s mv.toNat).prints⟩ : Oc) ∈ outsX L X mode s := by
  unfold outsX
  refine List.mem_append_right _ (List.mem_filterMap.mpr ⟨mv, h, ?_⟩)
  rw [hf]
  rfl
end
end

section
open Go.RowKit

/-! A text of numbers. -/
def valD (l : List UInt8) : Nat := l.foldl (fun a c => a * 10 + (c.toNat - 48)) 0
theorem valD_snoc (l : List UInt8) (c : UInt8) : valD (l ++ [c]) = valD l * 10 + (c.toNat - 48) := by simp [valD, List.foldl_append]
theorem decD_ok : ∀ (n u : Nat), u ≤ n → (∀ c, c ∈ Lib.decDigits u → 48 ≤ c.toNat ∧ c.toNat ≤ 57) ∧ valD (Lib.decDigits u) = u := by
  intro n
  have hd : ∀ d : Nat, d < 10 → (UInt8.ofNat (48 + d)).toNat = 48 + d := by decide
  induction n with
  | zero =>
    intro u h
    obtain rfl : u = 0 := by omega
    rw [Lib.decDigits, dif_pos (by omega)]
    exact ⟨fun c hc => by rw [List.mem_singleton.mp hc, hd 0 (by omega)]; omega, rfl⟩
  | succ n ih =>
    intro u h
    rw [Lib.decDigits]
    split
    · rename_i h1
      refine ⟨fun c hc => by rw [List.mem_singleton.mp hc, hd u h1]; omega, ?_⟩
      show 0 * 10 + ((UInt8.ofNat (48 + u)).toNat - 48) = u
      rw [hd u h1]; omega
    · rename_i h1
      obtain ⟨a1, a2⟩ := ih (u / 10) (by omega)
      refine ⟨fun c hc => ?_, ?_⟩
      · rcases List.mem_append.mp hc with hc | hc
        · exact a1 c hc
        · rw [List.mem_singleton.mp hc, hd (u % 10) (by omega)]; omega
      · rw [valD_snoc, a2, hd (u % 10) (by omega)]; omega
theorem decD_inj {u v : Nat} (h : Lib.decDigits u = Lib.decDigits v) : u = v := by
  rw [← (decD_ok _ u (Nat.le_refl _)).2, ← (decD_ok _ v (Nat.le_refl _)).2, h]
theorem itoa_mem {n : Int} {c : UInt8} (h : c ∈ Lib.itoa n) : c ≠ 32 := by
  have key : ∀ u, c ∈ Lib.decDigits u → c ≠ 32 := fun u hc e => by
    have := (decD_ok _ u (Nat.le_refl _)).1 c hc
    rw [e] at this
    exact absurd this.1 (by decide)
  unfold Lib.itoa at h
  split at h
  · rcases List.mem_cons.mp h with e | h
    · rw [e]; decide
    · exact key _ h
  · exact key _ h
theorem dec_not_neg {u : Nat} {r : List UInt8} (h : Lib.decDigits u = 45 :: r) : False := by
  have := (decD_ok _ u (Nat.le_refl _)).1 45 (by rw [h]; simp)
  exact absurd this.1 (by decide)
theorem itoa_inj {a b : Int} (h : Lib.itoa a = Lib.itoa b) : a = b := by
  unfold Lib.itoa at h
  split at h
  · split at h
    · have := decD_inj (List.cons.inj h).2
      omega
    · exact (dec_not_neg h.symm).elim
  · split at h
    · exact (dec_not_neg h).elim
    · have := decD_inj h
      omega
/-- Numbers as text: each with a blank behind it. -/
def textT (xs : List Int) : List UInt8 := xs.flatMap fun n => Lib.itoa n ++ [32]
theorem textT_snoc (xs : List Int) (n : Int) : textT (xs ++ [n]) = textT xs ++ (Lib.itoa n ++ [32]) := by simp [textT]
theorem cut_blank : ∀ {l l' r r' : List UInt8}, (∀ c, c ∈ l → c ≠ 32) → (∀ c, c ∈ l' → c ≠ 32) → l ++ 32 :: r = l' ++ 32 :: r' → l = l' ∧ r = r'
  | [], [], _, _, _, _, h => ⟨rfl, (List.cons.inj h).2⟩
  | [], b :: l', _, _, _, h2, h => absurd (List.cons.inj h).1.symm (h2 b (by simp))
  | a :: l, [], _, _, h1, _, h => absurd (List.cons.inj h).1 (h1 a (by simp))
  | a :: l, b :: l', r, r', h1, h2, h => by
    have h3 := List.cons.inj h
    obtain ⟨h4, h5⟩ := cut_blank (fun c hc => h1 c (by simp [hc])) (fun c hc => h2 c (by simp [hc])) h3.2
    exact ⟨by rw [h3.1, h4], h5⟩
theorem textT_inj : ∀ {xs ys : List Int}, textT xs = textT ys → xs = ys
  | [], [], _ => rfl
  | [], b :: ys, h => by
    have : (textT (b :: ys)).length = 0 := by rw [← h]; rfl
    simp [textT] at this
  | a :: xs, [], h => by
    have : (textT (a :: xs)).length = 0 := by rw [h]; rfl
    simp [textT] at this
  | a :: xs, b :: ys, h => by
    have e : ∀ (n : Int) (l : List Int), textT (n :: l) = Lib.itoa n ++ 32 :: textT l := fun n l => by simp [textT]
    rw [e, e] at h
    obtain ⟨h1, h2⟩ := cut_blank (fun c hc => itoa_mem hc) (fun c hc => itoa_mem hc) h
    rw [itoa_inj h1, textT_inj h2]
/-- A number that an int can hold. -/
def I64n (x : Int) : Prop := -9223372036854775808 ≤ x ∧ x ≤ 9223372036854775807
theorem textT_len : ∀ {xs : List Int}, (∀ x, x ∈ xs → I64n x) → (textT xs).length ≤ 22 * xs.length
  | [], _ => Nat.zero_le _
  | a :: xs, h => by
    have h1 := Lib.itoa_length_le a (h a (by simp)).1 (h a (by simp)).2
    have h2 := textT_len (xs := xs) (fun x hx => h x (by simp [hx]))
    have e : textT (a :: xs) = Lib.itoa a ++ 32 :: textT xs := by simp [textT]
    rw [e]
    simp only [List.length_append, List.length_cons]
    omega

/-! Numbers of a run fit. -/
structure VOk (s : Sx) : Prop where
  regs : ∀ h, h ∈ s.ths → ∀ x, x ∈ h.regs → I64n x
  wait : ∀ h, h ∈ s.ths → ∀ x, x ∈ h.wait → I64n x.what
  words : ∀ x, x ∈ s.words → I64n x
  own : ∀ x, x ∈ s.own → I64n x
  prints : ∀ x, x ∈ s.prints → I64n x
theorem i64_wrap (x : Int) : I64n (IntKind.i64.wrap x) := by
  rw [IntKind.wrap_i64]
  unfold I64n
  omega
theorem i64_getD {l : List Int} (h : ∀ x, x ∈ l → I64n x) (k : Nat) : I64n (l.getD k 0) := by
  rw [List.getD_eq_getElem?_getD]
  cases e : l[k]? with
  | none => exact ⟨by decide, by decide⟩
  | some y => exact h y (List.mem_of_getElem? e)
theorem i64_set {l : List Int} (h : ∀ x, x ∈ l → I64n x) {k : Nat} {v : Int} (hv : I64n v) : ∀ x, x ∈ l.set k v → I64n x := fun x hx => by
  rcases List.mem_or_eq_of_mem_set hx with hx | rfl
  · exact h x hx
  · exact hv
section
variable {s : Sx} {t : Nat}
theorem VOk.th (h : VOk s) {x : Th} (hr : ∀ y, y ∈ x.regs → I64n y) (hw : ∀ y, y ∈ x.wait → I64n y.what) : VOk (setTh s t x) := by
  refine ⟨fun g hg => ?_, fun g hg => ?_, h.words, h.own, h.prints⟩
  · rcases List.mem_or_eq_of_mem_set hg with hg | rfl
    · exact h.regs g hg
    · exact hr
  · rcases List.mem_or_eq_of_mem_set hg with hg | rfl
    · exact h.wait g hg
    · exact hw
theorem thOf_mem (ht : t < s.ths.length) : thOf s t ∈ s.ths := by
  unfold thOf
  rw [List.getD_eq_getElem?_getD, List.getElem?_eq_getElem ht]
  exact List.getElem_mem ht
theorem VOk.getR (h : VOk s) (ht : t < s.ths.length) (r : Int) : I64n (getR s t r) := i64_getD (h.regs _ (thOf_mem ht)) _
theorem VOk.setR (h : VOk s) (ht : t < s.ths.length) (r : Int) {v : Int} (hv : I64n v) : VOk (setR s t r v) := h.th (i64_set (h.regs _ (thOf_mem ht)) hv) (fun y hy => h.wait (thOf s t) (thOf_mem ht) y hy)
theorem VOk.pc (h : VOk s) (ht : t < s.ths.length) (k : Nat) : VOk (setTh s t { thOf s t with pc := k }) := h.th (fun y hy => h.regs (thOf s t) (thOf_mem ht) y hy) (fun y hy => h.wait (thOf s t) (thOf_mem ht) y hy)
theorem VOk.done (h : VOk s) {x : Wt} (hx : I64n x.what) : VOk (doneW s x) := by
  unfold doneW
  split
  · exact ⟨h.regs, h.wait, h.words, i64_set h.own ⟨by decide, by decide⟩, h.prints⟩
  · exact ⟨h.regs, h.wait, i64_set h.words hx, h.own, h.prints⟩
theorem VOk.store (h : VOk s) (ht : t < s.ths.length) (mode : Int) {x : Wt} (hx : I64n x.what) : VOk (storeW mode s t x) := by
  unfold storeW
  split
  · refine h.th (fun y hy => h.regs (thOf s t) (thOf_mem ht) y hy) (fun y hy => ?_)
    rcases List.mem_append.mp hy with hy | hy
    · exact h.wait _ (thOf_mem ht) y hy
    · rw [List.mem_singleton.mp hy]; exact hx
  · exact h.done hx
theorem VOk.finds (h : VOk s) (ht : t < s.ths.length) (wd : Int) : I64n (findsW s t wd) := by
  unfold findsW
  split
  · rename_i x hx
    exact h.wait _ (thOf_mem ht) x (by simpa using List.mem_of_find?_eq_some hx)
  · exact i64_getD h.words _
theorem i64_bit (b : Bool) : I64n (bitI b) := by cases b <;> exact ⟨by decide, by decide⟩
theorem VOk.order (h : VOk s) (ht : t < s.ths.length) (h4 : t < 4) (mode op a b c : Int) (hb : I64n b) : VOk (orderX mode s t op a b c) := by
  unfold orderX
  by_cases e : op = 1
  · rw [if_pos e]
    exact h.setR ht a hb
  rw [if_neg e]
  clear e
  by_cases e : op = 2
  · rw [if_pos e]
    exact h.setR ht a (h.getR ht b)
  rw [if_neg e]
  clear e
  by_cases e : op = 3
  · rw [if_pos e]
    exact h.setR ht a (i64_wrap _)
  rw [if_neg e]
  clear e
  by_cases e : op = 4
  · rw [if_pos e]
    exact h.setR ht a (i64_wrap _)
  rw [if_neg e]
  clear e
  by_cases e : op = 5
  · rw [if_pos e]
    exact h.setR ht a (i64_wrap _)
  rw [if_neg e]
  clear e
  by_cases e : op = 6
  · rw [if_pos e]
    exact h.setR ht a (i64_bit _)
  rw [if_neg e]
  clear e
  by_cases e : op = 7
  · rw [if_pos e]
    exact h.setR ht a (i64_bit _)
  rw [if_neg e]
  clear e
  by_cases e : op = 8
  · rw [if_pos e]
    exact h.setR ht a (h.finds ht b)
  rw [if_neg e]
  clear e
  by_cases e : op = 9
  · rw [if_pos e]
    exact h.store ht mode (h.getR ht b)
  rw [if_neg e]
  clear e
  by_cases e : op = 10
  · rw [if_pos e]
    by_cases e2 : Go.Proofs.YtipdnfpomdcenabGreatDoor.getR s t b < 0 ∨ (s.words.length : Int) ≤ Go.Proofs.YtipdnfpomdcenabGreatDoor.getR s t b
    · rw [if_pos e2]; exact ⟨h.regs, h.wait, h.words, h.own, h.prints⟩
    · rw [if_neg e2]; exact h.setR ht a (h.finds ht _)
  rw [if_neg e]
  clear e
  by_cases e : op = 11
  · rw [if_pos e]
    by_cases e2 : Go.Proofs.YtipdnfpomdcenabGreatDoor.getR s t a < 0 ∨ (s.words.length : Int) ≤ Go.Proofs.YtipdnfpomdcenabGreatDoor.getR s t a
    · rw [if_pos e2]; exact ⟨h.regs, h.wait, h.words, h.own, h.prints⟩
    · rw [if_neg e2]; exact h.store ht mode (h.getR ht b)
  rw [if_neg e]
  clear e
  by_cases e : op = 13
  · rw [if_pos e]
    by_cases e2 : s.words.getD a.toNat 0 = Go.Proofs.YtipdnfpomdcenabGreatDoor.getR s t b
    · rw [if_pos e2]
      have h1 : VOk { s with words := s.words.set a.toNat (Go.Proofs.YtipdnfpomdcenabGreatDoor.getR s t c) } := ⟨h.regs, h.wait, i64_set h.words (h.getR ht c), h.own, h.prints⟩
      exact h1.setR ht b ⟨by decide, by decide⟩
    · rw [if_neg e2]; exact h.setR ht b ⟨by decide, by decide⟩
  rw [if_neg e]
  clear e
  by_cases e : op = 14
  · rw [if_pos e]
    exact h.pc ht _
  rw [if_neg e]
  clear e
  by_cases e : op = 15
  · rw [if_pos e]
    by_cases e2 : Go.Proofs.YtipdnfpomdcenabGreatDoor.getR s t a = 0
    · rw [if_pos e2]; exact h.pc ht _
    · rw [if_neg e2]; exact h
  rw [if_neg e]
  clear e
  by_cases e : op = 16
  · rw [if_pos e]
    refine ⟨h.regs, h.wait, h.words, h.own, fun x hx => ?_⟩
    rcases List.mem_append.mp hx with hx | hx
    · exact h.prints x hx
    · rcases List.mem_cons.mp hx with rfl | hx
      · exact ⟨by omega, by omega⟩
      · rw [List.mem_singleton.mp hx]; exact h.getR ht a
  rw [if_neg e]
  clear e
  by_cases e : op = 17
  · rw [if_pos e]
    exact ⟨h.regs, h.wait, h.words, i64_set h.own ⟨by omega, by omega⟩, h.prints⟩
  rw [if_neg e]
  clear e
  by_cases e : op = 18
  · rw [if_pos e]
    by_cases e2 : s.own.getD a.toNat 0 ≠ t ∨ ((thOf s t).wait.any fun x => x.lk && decide (x.wh = a)) = true
    · rw [if_pos e2]; exact ⟨h.regs, h.wait, h.words, h.own, h.prints⟩
    · rw [if_neg e2]; exact h.store ht mode (x := ⟨true, a, 0⟩) (show I64n 0 from ⟨by decide, by decide⟩)
  rw [if_neg e]
  clear e
  exact h
end
/-- A move keeps all numbers such that an int can hold them. -/
theorem VOk.move {n : Nat} {L : Nat → Nat} {X : Nat → Nat → Nat → Int} {m lk rg : Nat} {mode : Int} {s : Sx} (h : VOk s) (ho : SOk n L m lk rg mode s) (hn : n ≤ 4) (hX : ∀ t i, t < n → i < L t → I64n (X t i 2)) {mv : Int} (hmv : mv ∈ movesX L X mode s) : VOk (doX X mode s mv.toNat) := by
  rcases movesX_mem hmv with ⟨t, ht, rfl, ha⟩ | ⟨t, k, ht, hk, rfl, _⟩
  · rw [show (8 * (t : Int)).toNat = 8 * t by omega]
    unfold doX
    simp only [show 8 * t / 8 = t by omega, show 8 * t % 8 = 0 by omega]
    rw [if_neg (by omega)]
    have htn : t < n := by rw [← ho.ths]; exact ht
    exact (h.pc ht _).order (by rw [ths_set]; exact ht) (by omega) mode _ _ _ _ (hX t _ htn (able_lt ha))
  · have h3 := ho.wlen t (by rw [← ho.ths]; exact ht)
    rw [show (8 * (t : Int) + (k : Int) + 1).toNat = 8 * t + k + 1 by omega, doX_wait (by omega)]
    have hx : (thOf s t).wait.getD k default ∈ (thOf s t).wait := by
      rw [List.getD_eq_getElem?_getD, List.getElem?_eq_getElem hk]; exact List.getElem_mem hk
    exact (h.done (h.wait _ (thOf_mem ht) _ hx)).th (fun y hy => h.regs (thOf s t) (thOf_mem ht) y hy) (fun y hy => h.wait (thOf s t) (thOf_mem ht) y (List.mem_of_mem_eraseIdx hy))
theorem VOk.begin {n : Nat} {words : List Int} {lk rg : Nat} (hw : ∀ x, x ∈ words → I64n x) : VOk (beginX n words lk rg) := by
  refine ⟨fun g hg x hx => ?_, fun g hg x hx => ?_, hw, fun x hx => ?_, fun x hx => (by cases hx)⟩
  · rw [(List.mem_replicate.mp hg).2] at hx
    rw [(List.mem_replicate.mp hx).2]
    exact ⟨by decide, by decide⟩
  · rw [(List.mem_replicate.mp hg).2] at hx
    cases hx
  · rw [(List.mem_replicate.mp hx).2]
    exact ⟨by decide, by decide⟩
/-- What a state tells fits. -/
theorem tel_fits {n : Nat} {L : Nat → Nat} {m lk rg : Nat} {mode : Int} {s : Sx} (h : VOk s) (ho : SOk n L m lk rg mode s) (hL : ∀ t, t < n → L t ≤ 400) (hm : m ≤ 64) (hlk : lk ≤ 4) : ∀ x, x ∈ telX mode s → I64n x := by
  intro x hx
  unfold telX telM at hx
  rcases List.mem_append.mp hx with hx | hx
  · rcases List.mem_append.mp hx with hx | hx
    · obtain ⟨g, hg, hx⟩ := List.mem_flatMap.mp hx
      unfold telT at hx
      rcases List.mem_append.mp hx with hx | hx
      · obtain ⟨t, ht, rfl⟩ := ho.mem hg
        rw [List.mem_singleton.mp hx]
        have h1 := ho.pc t ht
        have h2 := hL t ht
        exact ⟨by omega, by omega⟩
      · exact h.regs g hg x hx
    · rcases List.mem_append.mp hx with hx | hx
      · rcases List.mem_append.mp hx with hx | hx
        · exact h.words x hx
        · exact h.own x hx
      · split at hx
        · obtain ⟨g, hg, hx⟩ := List.mem_flatMap.mp hx
          unfold telB at hx
          obtain ⟨t, ht, rfl⟩ := ho.mem hg
          rcases List.mem_append.mp hx with hx | hx
          · rw [List.mem_singleton.mp hx]
            have h1 := ho.wlen t ht
            exact ⟨by omega, by omega⟩
          · obtain ⟨y, hy, hx⟩ := List.mem_flatMap.mp hx
            have h1 := (ho.wok t ht y hy).1
            unfold telW at hx
            rcases List.mem_cons.mp hx with rfl | hx
            · cases hk : y.lk <;> rw [hk] at h1 <;> simp only [if_true, Bool.false_eq_true, if_false] at h1 ⊢ <;> exact ⟨by omega, by omega⟩
            · rw [List.mem_singleton.mp hx]
              exact h.wait _ hg y hy
        · cases hx
  · exact h.prints x hx
end

section
open Go.RowKit

/-- What holds while the program goes through states: K known, P gone through, Z begun, O still open, F those that fell. -/
structure Df (L : Nat → Nat) (X : Nat → Nat → Nat → Int) (mode : Int) (s0 : Sx) (K P Z O F : List Sx) : Prop where
  nodup : K.Nodup
  first : s0 ∈ K
  reach : ∀ s, s ∈ K → Rch (nxX L X mode) s0 s
  split : ∀ s, s ∈ K ↔ s ∈ Z ∨ s ∈ O
  zo : (Z ++ O).Nodup
  next : ∀ s, s ∈ P → ∀ t, t ∈ nxX L X mode s → t ∈ K
  fin : ∀ f, f ∈ F → ∃ s mv, s ∈ Z ∧ mv ∈ movesX L X mode s ∧ doX X mode s mv.toNat = f ∧ f.fell = true
  fall : ∀ s, s ∈ P → ∀ mv, mv ∈ movesX L X mode s → (doX X mode s mv.toNat).fell = true → doX X mode s mv.toNat ∈ F
section
variable {L : Nat → Nat} {X : Nat → Nat → Nat → Int} {mode : Int} {s0 : Sx} {K P Z O F : List Sx}
theorem Df.begin : Df L X mode s0 [s0] [] [] [s0] [] :=
  ⟨by simp, by simp, fun s h => by rw [List.mem_singleton.mp h]; exact .base, fun s => by simp, by simp, fun _ h => absurd h List.not_mem_nil, fun _ h => absurd h List.not_mem_nil, fun _ h => absurd h List.not_mem_nil⟩
theorem Df.len (h : Df L X mode s0 K P Z O F) : Z.length + O.length = K.length := by
  have h1 := nodup_len h.zo (r := K) (fun x hx => (h.split x).2 (List.mem_append.mp hx))
  have h2 := nodup_len h.nodup (r := Z ++ O) (fun x hx => List.mem_append.mpr ((h.split x).1 hx))
  rw [List.length_append] at h1 h2
  omega
/-- The last one that is open is begun. -/
theorem Df.pop {s : Sx} (h : Df L X mode s0 K Z Z (O ++ [s]) F) : Df L X mode s0 K Z (Z ++ [s]) O F :=
  ⟨h.nodup, h.first, h.reach, fun x => by
    rw [h.split x, List.mem_append, List.mem_append]
    constructor
    · rintro (h1 | h1 | h1)
      · exact Or.inl (Or.inl h1)
      · exact Or.inr h1
      · exact Or.inl (Or.inr h1)
    · rintro ((h1 | h1) | h1)
      · exact Or.inl h1
      · exact Or.inr (Or.inr h1)
      · exact Or.inr (Or.inl h1), by
    refine h.zo.perm ?_
    rw [List.append_assoc]
    exact List.Perm.append_left _ List.perm_append_comm, h.next, fun f hf => by
    obtain ⟨x, mv, h1, h2⟩ := h.fin f hf
    exact ⟨x, mv, List.mem_append_left _ h1, h2⟩, h.fall⟩
/-- One that was not known is come to. -/
theorem Df.come {s t : Sx} (h : Df L X mode s0 K P Z O F) (hs : s ∈ K) (ht : t ∈ nxX L X mode s) (hn : t ∉ K) : Df L X mode s0 (K ++ [t]) P Z (O ++ [t]) F :=
  ⟨by
    rw [List.nodup_append]
    refine ⟨h.nodup, by simp, fun a ha b hb e => ?_⟩
    rw [List.mem_singleton.mp hb] at e
    exact hn (e ▸ ha), List.mem_append_left _ h.first, fun x hx => by
    rcases List.mem_append.mp hx with hx | hx
    · exact h.reach x hx
    · rw [List.mem_singleton.mp hx]; exact .step (h.reach s hs) ht, fun x => by
    rw [List.mem_append, List.mem_append, h.split x, or_assoc], by
    rw [← List.append_assoc, List.nodup_append]
    refine ⟨h.zo, by simp, fun a ha b hb e => ?_⟩
    rw [List.mem_singleton.mp hb] at e
    exact hn (e ▸ (h.split a).2 (List.mem_append.mp ha)), fun x hx y hy => List.mem_append_left _ (h.next x hx y hy), h.fin, h.fall⟩
/-- One fell. -/
theorem Df.fell {s : Sx} {mv : Int} (h : Df L X mode s0 K P Z O F) (hs : s ∈ Z) (hm : mv ∈ movesX L X mode s) (hf : (doX X mode s mv.toNat).fell = true) : Df L X mode s0 K P Z O (F ++ [doX X mode s mv.toNat]) :=
  ⟨h.nodup, h.first, h.reach, h.split, h.zo, h.next, fun f hf' => by
    rcases List.mem_append.mp hf' with hf' | hf'
    · exact h.fin f hf'
    · rw [List.mem_singleton.mp hf']; exact ⟨s, mv, hs, hm, rfl, hf⟩, fun x hx mv' h1 h2 => List.mem_append_left _ (h.fall x hx mv' h1 h2)⟩
/-- What was made of the first k moves. -/
def Fwd (L : Nat → Nat) (X : Nat → Nat → Nat → Int) (mode : Int) (s : Sx) (K F : List Sx) (k : Nat) : Prop :=
  ∀ j, j < k → ((doX X mode s ((movesX L X mode s).getD j 0).toNat).fell = true → doX X mode s ((movesX L X mode s).getD j 0).toNat ∈ F) ∧ ((doX X mode s ((movesX L X mode s).getD j 0).toNat).fell = false → doX X mode s ((movesX L X mode s).getD j 0).toNat ∈ K)
theorem Fwd.next {s : Sx} {K' F' : List Sx} {k : Nat} (h : Fwd L X mode s K F k) (hK : ∀ t, t ∈ K → t ∈ K') (hF : ∀ t, t ∈ F → t ∈ F') (h1 : (doX X mode s ((movesX L X mode s).getD k 0).toNat).fell = true → doX X mode s ((movesX L X mode s).getD k 0).toNat ∈ F') (h2 : (doX X mode s ((movesX L X mode s).getD k 0).toNat).fell = false → doX X mode s ((movesX L X mode s).getD k 0).toNat ∈ K') : Fwd L X mode s K' F' (k + 1) := fun j hj => by
  rcases Nat.lt_or_ge j k with h3 | h3
  · exact ⟨fun hf => hF _ ((h j h3).1 hf), fun hf => hK _ ((h j h3).2 hf)⟩
  · obtain rfl : j = k := by omega
    exact ⟨h1, h2⟩
/-- One has been gone through. -/
theorem Df.gone {s : Sx} (h : Df L X mode s0 K Z (Z ++ [s]) O F) (hw : Fwd L X mode s K F (movesX L X mode s).length) : Df L X mode s0 K (Z ++ [s]) (Z ++ [s]) O F :=
  ⟨h.nodup, h.first, h.reach, h.split, h.zo, fun x hx t ht => by
    rcases List.mem_append.mp hx with hx | hx
    · exact h.next x hx t ht
    · rw [List.mem_singleton.mp hx] at ht
      obtain ⟨mv, h1, h2, h3⟩ := mem_nx.mp ht
      obtain ⟨j, hj, rfl⟩ := mv_getD h1
      rw [← h2] at h3 ⊢
      exact (hw j hj).2 h3, h.fin, fun x hx mv h1 h2 => by
    rcases List.mem_append.mp hx with hx | hx
    · exact h.fall x hx mv h1 h2
    · rw [List.mem_singleton.mp hx] at h1 h2 ⊢
      obtain ⟨j, hj, rfl⟩ := mv_getD h1
      exact (hw j hj).1 h2⟩
/-- Nothing is open: all that can be come to has been gone through. -/
theorem Df.whole (h : Df L X mode s0 K Z Z [] F) : ∀ s, s ∈ Z ↔ Rch (nxX L X mode) s0 s := by
  have hz : ∀ s, s ∈ K ↔ s ∈ Z := fun s => by rw [h.split s]; simp
  refine fun s => ⟨fun hs => h.reach s ((hz s).2 hs), fun hs => ?_⟩
  induction hs with
  | base => exact (hz _).1 h.first
  | step _ ht ih => exact (hz _).1 (h.next _ ih _ ht)
/-- The outcomes that are come to are those of what was begun and of what fell. -/
def outcX (L : Nat → Nat) (X : Nat → Nat → Nat → Int) (mode : Int) (Z F : List Sx) (o : Oc) : Prop :=
  (∃ s, s ∈ Z ∧ movesX L X mode s = [] ∧ o = ⟨if endedX L s then 0 else 2, s.words, s.prints⟩) ∨ ∃ f, f ∈ F ∧ o = ⟨1, [], f.prints⟩
theorem Df.outs (h : Df L X mode s0 K Z Z [] F) (o : Oc) : outcX L X mode Z F o ↔ ∃ s, Rch (nxX L X mode) s0 s ∧ o ∈ outsX L X mode s := by
  constructor
  · rintro (⟨s, hs, hm, rfl⟩ | ⟨f, hf, rfl⟩)
    · refine ⟨s, (h.whole s).1 hs, ?_⟩
      rw [outs_none hm]
      simp
    · obtain ⟨s, mv, h1, h2, h3, h4⟩ := h.fin f hf
      refine ⟨s, (h.whole s).1 h1, ?_⟩
      rw [← h3] at h4 ⊢
      exact fell_out h2 h4
  · rintro ⟨s, hs, ho⟩
    have hz := (h.whole s).2 hs
    by_cases hm : movesX L X mode s = []
    · rw [outs_none hm] at ho
      exact Or.inl ⟨s, hz, hm, List.mem_singleton.mp ho⟩
    · unfold outsX at ho
      rw [if_neg hm, List.nil_append] at ho
      obtain ⟨mv, h1, h2⟩ := List.mem_filterMap.mp ho
      cases hf : (doX X mode s mv.toNat).fell with
      | false => rw [hf] at h2; cases h2
      | true =>
        rw [hf] at h2
        rw [← Option.some.inj h2]
        exact Or.inr ⟨_, h.fall s hz mv h1 hf, rfl⟩
theorem Df.told (h : Df L X mode s0 K Z Z [] F) {l : List Oc} {mx : Nat} (hs : SortedO l) (hl : ∀ o, o ∈ l ↔ outcX L X mode Z F o) (hk : K.length ≤ mx) : Told (nxX L X mode) (outsX L X mode) s0 mx false l := by
  refine Or.inr ⟨rfl, hs, fun o => (hl o).trans (h.outs o), K, h.nodup, fun s => ⟨h.reach s, fun hr => ?_⟩, hk⟩
  rw [h.split s]
  exact Or.inl ((h.whole s).2 hr)
theorem Df.full (h : Df L X mode s0 K P Z O F) {mx : Nat} (l : List Oc) (hk : mx < K.length) : Told (nxX L X mode) (outsX L X mode) s0 mx true l := Or.inl ⟨rfl, K, h.nodup, h.reach, hk⟩
end
end

end Go.Proofs.YtipdnfpomdcenabGreatDoor
