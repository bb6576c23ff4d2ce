/-
  Outcomes and their order; all that can be come to, and what is told of it: plain functions.
  A state's numbers, by the document and by the program, tell it; what a state becomes, what runs come to.
  A move of the document's run that does one that waits; what can be picked, whichever the mode.
  What holds of all that can be come to; what a run comes to is one of the outcomes; each outcome without stores that wait is one with them: plain functions.
-/
import Derived.Test.YtefnmbnakphhfadGreatDoorPlain
import Derived.Test.YtefnmbnakphhfadGreatDoorDSt
namespace Go.Proofs.YtefnmbnakphhfadGreatDoor
section
open Go.RowKit

/-! Outcomes and their order. -/
/-- An outcome: how a run ended, the words, what was printed. -/
structure Oc where
  st : Int
  ws : List Int
  pr : List Int
deriving DecidableEq, Inhabited
/-- The order of lists. -/
def lexL : List Int → List Int → Bool
  | [], [] => false
  | [], _ :: _ => true
  | _ :: _, [] => false
  | a :: l, b :: r => if a = b then lexL l r else decide (a < b)
/-- The order of outcomes. -/
def aheadO (a b : Oc) : Bool := if a.st ≠ b.st then decide (a.st < b.st) else if a.ws ≠ b.ws then lexL a.ws b.ws else lexL a.pr b.pr
theorem lex_irr : ∀ l : List Int, lexL l l = false
  | [] => rfl
  | a :: l => by unfold lexL; rw [if_pos rfl]; exact lex_irr l
theorem lex_trans : ∀ {a b c : List Int}, lexL a b = true → lexL b c = true → lexL a c = true
  | [], _, [], h1, h2 => by
    rename_i b
    cases b with
    | nil => cases h1
    | cons x r => cases h2
  | [], _, _ :: _, _, _ => rfl
  | _ :: _, [], _, h1, _ => by cases h1
  | _ :: _, _ :: _, [], _, h2 => by cases h2
  | x :: a, y :: b, z :: c, h1, h2 => by
    unfold lexL at h1 h2 ⊢
    by_cases e1 : x = y
    · rw [if_pos e1] at h1
      by_cases e2 : y = z
      · rw [if_pos e2] at h2
        rw [if_pos (e1.trans e2)]
        exact lex_trans h1 h2
      · rw [if_neg e2] at h2
        rw [if_neg (by rw [e1]; exact e2), e1]
        exact h2
    · rw [if_neg e1] at h1
      have h1 := of_decide_eq_true h1
      by_cases e2 : y = z
      · rw [if_neg (by rw [← e2]; exact e1), ← e2]
        exact decide_eq_true h1
      · rw [if_neg e2] at h2
        have h2 := of_decide_eq_true h2
        rw [if_neg (by omega)]
        exact decide_eq_true (by omega)
theorem lex_tri : ∀ {a b : List Int}, lexL a b = false → lexL b a = false → a = b
  | [], [], _, _ => rfl
  | [], _ :: _, h, _ => by cases h
  | _ :: _, [], _, h => by cases h
  | x :: a, y :: b, h1, h2 => by
    unfold lexL at h1 h2
    by_cases e : x = y
    · rw [if_pos e] at h1
      rw [if_pos e.symm] at h2
      rw [e, lex_tri h1 h2]
    · rw [if_neg e] at h1
      rw [if_neg (fun h => e h.symm)] at h2
      have h1 := of_decide_eq_false h1
      have h2 := of_decide_eq_false h2
      omega
theorem ahead_irr (a : Oc) : aheadO a a = false := by
  unfold aheadO
  rw [if_neg (by simp), if_neg (by simp)]
  exact lex_irr _
theorem ahead_trans {a b c : Oc} (h1 : aheadO a b = true) (h2 : aheadO b c = true) : aheadO a c = true := by
  unfold aheadO at *
  by_cases e1 : a.st = b.st
  · rw [if_neg (by simpa using e1)] at h1
    by_cases e2 : b.st = c.st
    · rw [if_neg (by simpa using e2)] at h2
      rw [if_neg (by rw [e1, e2]; simp)]
      by_cases w1 : a.ws = b.ws
      · rw [if_neg (by simpa using w1)] at h1
        by_cases w2 : b.ws = c.ws
        · rw [if_neg (by simpa using w2)] at h2
          rw [if_neg (by rw [w1, w2]; simp)]
          exact lex_trans h1 h2
        · rw [if_pos w2] at h2
          rw [if_pos (by rw [w1]; exact w2), w1]
          exact h2
      · rw [if_pos w1] at h1
        by_cases w2 : b.ws = c.ws
        · rw [if_pos (by rw [← w2]; exact w1), ← w2]
          exact h1
        · rw [if_pos w2] at h2
          have h3 := lex_trans h1 h2
          rw [if_pos (fun e => by rw [e, lex_irr] at h3; cases h3)]
          exact h3
    · rw [if_pos e2] at h2
      rw [if_pos (by rw [e1]; exact e2), e1]
      exact h2
  · rw [if_pos e1] at h1
    have h1 := of_decide_eq_true h1
    by_cases e2 : b.st = c.st
    · rw [if_pos (by rw [← e2]; exact e1), ← e2]
      exact decide_eq_true h1
    · rw [if_pos e2] at h2
      have h2 := of_decide_eq_true h2
      rw [if_pos (by omega)]
      exact decide_eq_true (by omega)
theorem ahead_tri {a b : Oc} (h1 : aheadO a b = false) (h2 : aheadO b a = false) : a = b := by
  unfold aheadO at *
  by_cases e : a.st = b.st
  · rw [if_neg (by simpa using e)] at h1
    rw [if_neg (by simpa using e.symm)] at h2
    have ew : a.ws = b.ws := by
      by_cases w : a.ws = b.ws
      · exact w
      · rw [if_pos w] at h1
        rw [if_pos (fun h => w h.symm)] at h2
        exact lex_tri h1 h2
    rw [if_neg (by simpa using ew)] at h1
    rw [if_neg (by simpa using ew.symm)] at h2
    have ep := lex_tri h1 h2
    cases a; cases b
    simp only at e ew ep
    subst e ew ep
    rfl
  · rw [if_pos e] at h1
    rw [if_pos (fun h => e h.symm)] at h2
    have h1 := of_decide_eq_false h1
    have h2 := of_decide_eq_false h2
    omega
theorem ahead_asym {a b : Oc} (h : aheadO a b = true) : aheadO b a = false := by
  cases e : aheadO b a with
  | false => rfl
  | true => have := ahead_trans h e; rw [ahead_irr] at this; cases this
/-- Each comes ahead of all that stand behind it. -/
def SortedO (l : List Oc) : Prop := l.Pairwise fun a b => aheadO a b = true
theorem sorted_same : ∀ {l r : List Oc}, SortedO l → SortedO r → (∀ o, o ∈ l ↔ o ∈ r) → l = r
  | [], [], _, _, _ => rfl
  | [], b :: r, _, _, h => by have := (h b).2 (by simp); cases this
  | a :: l, [], _, _, h => by have := (h a).1 (by simp); cases this
  | a :: l, b :: r, hl, hr, h => by
    rw [SortedO, List.pairwise_cons] at hl hr
    have ha := (h a).1 (by simp)
    have hb := (h b).2 (by simp)
    have e : a = b := by
      rcases List.mem_cons.mp ha with e | ha
      · exact e
      · rcases List.mem_cons.mp hb with e | hb
        · exact e.symm
        · have h1 := hl.1 b hb
          have h2 := hr.1 a ha
          rw [ahead_asym h1] at h2
          cases h2
    subst e
    have hna : ∀ {o}, o ∈ l → o ≠ a := fun ho e => by
      have := hl.1 _ ho
      rw [e, ahead_irr] at this
      cases this
    have hnr : ∀ {o}, o ∈ r → o ≠ a := fun ho e => by
      have := hr.1 _ ho
      rw [e, ahead_irr] at this
      cases this
    rw [sorted_same (l := l) (r := r) hl.2 hr.2 (fun o => ⟨fun ho => by
      rcases List.mem_cons.mp ((h o).1 (by simp [ho])) with e | e
      · exact absurd e (hna ho)
      · exact e, fun ho => by
      rcases List.mem_cons.mp ((h o).2 (by simp [ho])) with e | e
      · exact absurd e (hnr ho)
      · exact e⟩)]
/-- An outcome, into its place, once. -/
def insO (o : Oc) : List Oc → List Oc
  | [] => [o]
  | a :: l => if aheadO o a then o :: a :: l else if aheadO a o then a :: insO o l else a :: l
theorem mem_insO {o x : Oc} : ∀ {l : List Oc}, x ∈ insO o l ↔ x = o ∨ x ∈ l
  | [] => by simp [insO]
  | a :: l => by
    unfold insO
    split
    · simp
    · split
      · rw [List.mem_cons, mem_insO, List.mem_cons]
        constructor
        · rintro (h | h | h)
          · exact Or.inr (Or.inl h)
          · exact Or.inl h
          · exact Or.inr (Or.inr h)
        · rintro (h | h | h)
          · exact Or.inr (Or.inl h)
          · exact Or.inl h
          · exact Or.inr (Or.inr h)
      · rename_i h1 h2
        have e : o = a := ahead_tri (by simpa using h1) (by simpa using h2)
        subst e
        simp
theorem sorted_insO {o : Oc} : ∀ {l : List Oc}, SortedO l → SortedO (insO o l)
  | [], _ => List.pairwise_singleton _ _
  | a :: l, h => by
    unfold insO
    have h' := h
    rw [SortedO, List.pairwise_cons] at h'
    split
    · rename_i h1
      refine List.pairwise_cons.mpr ⟨fun x hx => ?_, h⟩
      rcases List.mem_cons.mp hx with e | hx
      · rw [e]; exact h1
      · exact ahead_trans h1 (h'.1 x hx)
    · split
      · rename_i h1 h2
        refine List.pairwise_cons.mpr ⟨fun x hx => ?_, sorted_insO h'.2⟩
        rcases mem_insO.mp hx with e | hx
        · rw [e]; exact h2
        · exact h'.1 x hx
      · exact h

/-! All that can be come to. -/
section
variable {S : Type}
inductive Rch (nx : S → List S) (s0 : S) : S → Prop
  | base : Rch nx s0 s0
  | step {s t : S} : Rch nx s0 s → t ∈ nx s → Rch nx s0 t
theorem nodup_len [DecidableEq S] : ∀ {l r : List S}, l.Nodup → (∀ x, x ∈ l → x ∈ r) → l.length ≤ r.length
  | [], _, _, _ => Nat.zero_le _
  | a :: l, r, hl, h => by
    rw [List.nodup_cons] at hl
    have ha : a ∈ r := h a (by simp)
    have h1 := nodup_len (l := l) (r := r.erase a) hl.2 (fun x hx => by
      have hne : x ≠ a := fun e => hl.1 (e ▸ hx)
      exact (List.mem_erase_of_ne hne).mpr (h x (by simp [hx])))
    rw [List.length_erase_of_mem ha] at h1
    have : 0 < r.length := List.length_pos_of_mem ha
    simp only [List.length_cons]
    omega
/-- What is told of all that can come: too many states, or all outcomes. -/
def Told (nx : S → List S) (outs : S → List Oc) (s0 : S) (mx : Nat) (full : Bool) (l : List Oc) : Prop :=
  (full = true ∧ ∃ K : List S, K.Nodup ∧ (∀ s, s ∈ K → Rch nx s0 s) ∧ mx < K.length) ∨ (full = false ∧ SortedO l ∧ (∀ o, o ∈ l ↔ ∃ s, Rch nx s0 s ∧ o ∈ outs s) ∧ ∃ K : List S, K.Nodup ∧ (∀ s, s ∈ K ↔ Rch nx s0 s) ∧ K.length ≤ mx)
theorem told_same [DecidableEq S] {nx : S → List S} {outs : S → List Oc} {s0 : S} {mx : Nat} {f1 f2 : Bool} {l1 l2 : List Oc} (h1 : Told nx outs s0 mx f1 l1) (h2 : Told nx outs s0 mx f2 l2) : f1 = f2 ∧ (f1 = false → l1 = l2) := by
  rcases h1 with ⟨e1, K1, n1, r1, c1⟩ | ⟨e1, s1, m1, K1, n1, r1, c1⟩ <;> rcases h2 with ⟨e2, K2, n2, r2, c2⟩ | ⟨e2, s2, m2, K2, n2, r2, c2⟩
  · exact ⟨e1.trans e2.symm, fun h => by rw [e1] at h; cases h⟩
  · have := nodup_len n1 (fun x hx => (r2 x).2 (r1 x hx))
    omega
  · have := nodup_len n2 (fun x hx => (r1 x).2 (r2 x hx))
    omega
  · exact ⟨e1.trans e2.symm, fun _ => sorted_same s1 s2 (fun o => (m1 o).trans (m2 o).symm)⟩
end
end

section
open Go.RowKit

/-! A state's numbers. -/
theorem flat_inj {f : Wt → List Int} {k : Nat} {Q : Wt → Prop} (hk : ∀ x, (f x).length = k) (hf : ∀ x y, Q x → Q y → f x = f y → x = y) : ∀ {l r : List Wt} {u v : List Int}, l.length = r.length → (∀ x, x ∈ l → Q x) → (∀ x, x ∈ r → Q x) → l.flatMap f ++ u = r.flatMap f ++ v → l = r ∧ u = v
  | [], [], _, _, _, _, _, h => ⟨rfl, h⟩
  | a :: l, b :: r, u, v, hl, h1, h2, h => by
    rw [List.flatMap_cons, List.flatMap_cons, List.append_assoc, List.append_assoc] at h
    obtain ⟨e1, e2⟩ := List.append_inj h (by rw [hk, hk])
    obtain ⟨e3, e4⟩ := flat_inj hk hf (by simpa using hl) (fun x hx => h1 x (by simp [hx])) (fun x hx => h2 x (by simp [hx])) e2
    rw [hf _ _ (h1 a (by simp)) (h2 b (by simp)) e1, e3]
    exact ⟨rfl, e4⟩
theorem SOk.mem {n : Nat} {L : Nat → Nat} {m lk rg : Nat} {mode : Int} {s : Sx} (h : SOk n L m lk rg mode s) {x : Th} (hx : x ∈ s.ths) : ∃ t, t < n ∧ thOf s t = x := by
  obtain ⟨t, ht, e⟩ := List.getElem_of_mem hx
  exact ⟨t, by rw [← h.ths]; exact ht, by unfold thOf; rw [List.getD_eq_getElem?_getD, List.getElem?_eq_getElem ht]; exact e⟩
/-- All that a thread is, by the program; what waits of it. -/
def telT (h : Th) : List Int := [(h.pc : Int)] ++ h.regs
def telW (x : Wt) : List Int := [if x.lk then -1 - x.wh else x.wh, x.what]
def telB (h : Th) : List Int := [(h.wait.length : Int)] ++ h.wait.flatMap telW
def telM (mode : Int) (s : Sx) : List Int := s.words ++ s.own ++ (if 0 < mode then s.ths.flatMap telB else [])
def telX (mode : Int) (s : Sx) : List Int := s.ths.flatMap telT ++ telM mode s ++ s.prints
theorem telW_inj {x y : Wt} (hx : 0 ≤ x.wh) (hy : 0 ≤ y.wh) (h : telW x = telW y) : x = y := by
  cases x with
  | mk a b c =>
    cases y with
    | mk a' b' c' =>
      simp only [telW, List.cons.injEq, and_true] at h
      obtain ⟨h1, rfl⟩ := h
      simp only at hx hy
      cases a <;> cases a' <;> simp only [if_true, Bool.false_eq_true, if_false] at h1
      · rw [h1]
      · omega
      · omega
      · rw [show b = b' by omega]
theorem tel_ths : ∀ {l r : List Th} {u v : List Int} {rg : Nat}, l.length = r.length → (∀ x, x ∈ l → x.regs.length = rg) → (∀ x, x ∈ r → x.regs.length = rg) → l.flatMap telT ++ u = r.flatMap telT ++ v → (l.map fun x => (x.pc, x.regs)) = (r.map fun x => (x.pc, x.regs)) ∧ u = v
  | [], [], _, _, _, _, _, _, h => ⟨rfl, h⟩
  | a :: l, b :: r, u, v, rg, hl, h1, h2, h => by
    rw [List.flatMap_cons, List.flatMap_cons, List.append_assoc, List.append_assoc] at h
    obtain ⟨e1, e2⟩ := List.append_inj h (by simp [telT, h1 a (by simp), h2 b (by simp)])
    simp only [telT, List.cons_append, List.nil_append, List.cons.injEq] at e1
    obtain ⟨e3, e4⟩ := tel_ths (rg := rg) (by simpa using hl) (fun x hx => h1 x (by simp [hx])) (fun x hx => h2 x (by simp [hx])) e2
    refine ⟨?_, e4⟩
    rw [List.map_cons, List.map_cons, e3, show a.pc = b.pc by omega, e1.2]
theorem tel_buf : ∀ {l r : List Th} {u v : List Int}, l.length = r.length → (∀ x, x ∈ l → ∀ y, y ∈ x.wait → 0 ≤ y.wh) → (∀ x, x ∈ r → ∀ y, y ∈ x.wait → 0 ≤ y.wh) → l.flatMap telB ++ u = r.flatMap telB ++ v → (l.map fun x => x.wait) = (r.map fun x => x.wait) ∧ u = v
  | [], [], _, _, _, _, _, h => ⟨rfl, h⟩
  | a :: l, b :: r, u, v, hl, h1, h2, h => by
    rw [List.flatMap_cons, List.flatMap_cons, List.append_assoc, List.append_assoc] at h
    simp only [telB, List.cons_append, List.nil_append, List.cons.injEq] at h
    obtain ⟨e0, h⟩ := h
    obtain ⟨e1, e2⟩ := flat_inj (k := 2) (Q := fun y => 0 ≤ y.wh) (fun _ => rfl) (fun _ _ h1 h2 => telW_inj h1 h2) (by omega) (h1 a (by simp)) (h2 b (by simp)) h
    obtain ⟨e3, e4⟩ := tel_buf (by simpa using hl) (fun x hx => h1 x (by simp [hx])) (fun x hx => h2 x (by simp [hx])) e2
    exact ⟨by rw [List.map_cons, List.map_cons, e1, e3], e4⟩
theorem ths_eq : ∀ {l r : List Th}, (l.map fun x => (x.pc, x.regs)) = (r.map fun x => (x.pc, x.regs)) → (l.map fun x => x.wait) = (r.map fun x => x.wait) → l = r
  | [], [], _, _ => rfl
  | [], _ :: _, h, _ => by cases h
  | _ :: _, [], h, _ => by cases h
  | a :: l, b :: r, h1, h2 => by
    simp only [List.map_cons, List.cons.injEq, Prod.mk.injEq] at h1 h2
    rw [ths_eq h1.2 h2.2]
    cases a; cases b
    simp only at h1 h2
    rw [h1.1.1, h1.1.2, h2.1]
/-- Two states of a program are the same where what they tell is. -/
theorem tel_inj {n : Nat} {L : Nat → Nat} {m lk rg : Nat} {mode : Int} {s r : Sx} (h1 : SOk n L m lk rg mode s) (h2 : SOk n L m lk rg mode r) (hm : 0 ≤ mode) (hf : s.fell = r.fell) (h : telX mode s = telX mode r) : s = r := by
  unfold telX telM at h
  simp only [List.append_assoc] at h
  obtain ⟨e1, e2⟩ := tel_ths (rg := rg) (by rw [h1.ths, h2.ths]) (fun x hx => by obtain ⟨t, ht, rfl⟩ := h1.mem hx; exact h1.regs t ht) (fun x hx => by obtain ⟨t, ht, rfl⟩ := h2.mem hx; exact h2.regs t ht) h
  obtain ⟨e3, e4⟩ := List.append_inj e2 (by rw [h1.words, h2.words])
  obtain ⟨e5, e6⟩ := List.append_inj e4 (by rw [h1.own, h2.own])
  have ew : (s.ths.map fun x => x.wait) = (r.ths.map fun x => x.wait) ∧ s.prints = r.prints := by
    by_cases h0 : 0 < mode
    · rw [if_pos h0, if_pos h0] at e6
      exact tel_buf (by rw [h1.ths, h2.ths]) (fun x hx y hy => by obtain ⟨t, ht, rfl⟩ := h1.mem hx; exact (h1.wok t ht y hy).1.1) (fun x hx y hy => by obtain ⟨t, ht, rfl⟩ := h2.mem hx; exact (h2.wok t ht y hy).1.1) e6
    · rw [if_neg h0, if_neg h0] at e6
      have hz : mode = 0 := by omega
      have e : ∀ (q : Sx), SOk n L m lk rg mode q → (q.ths.map fun x => x.wait) = List.replicate n [] := fun q hq => by
        rw [List.eq_replicate_iff]
        refine ⟨by rw [List.length_map, hq.ths], fun b hb => ?_⟩
        obtain ⟨x, hx, rfl⟩ := List.mem_map.mp hb
        obtain ⟨t, ht, rfl⟩ := hq.mem hx
        exact hq.bare hz t ht
      exact ⟨by rw [e s h1, e r h2], by simpa using e6⟩
  have et := ths_eq e1 ew.1
  have ep := ew.2
  cases s; cases r
  simp only at et e3 e5 ep hf
  subst et e3 e5 ep hf
  rfl

/-! What a state becomes; what runs come to. -/
section
variable (L : Nat → Nat) (X : Nat → Nat → Nat → Int) (mode : Int)
def nxX (s : Sx) : List Sx := (movesX L X mode s).filterMap fun mv => if (doX X mode s mv.toNat).fell then none else some (doX X mode s mv.toNat)
def outsX (s : Sx) : List Oc :=
  (if movesX L X mode s = [] then [⟨if endedX L s then 0 else 2, s.words, s.prints⟩] else []) ++
    (movesX L X mode s).filterMap fun mv => if (doX X mode s mv.toNat).fell then some ⟨1, [], (doX X mode s mv.toNat).prints⟩ else none
end
end

section
open Go.RowKit

/-- Cells that are stored one behind the other. -/
def putL (xs : List Value) (o : Nat) : List Value → List Value
  | [] => xs
  | u :: us => putL (xs.set o u) (o + 1) us
theorem fam_puts {B : Nat} {e : TypeId} {size : Nat} {v : Value} {n g : Nat} (hg : v.ownBlock = some g) : ∀ (us : List Value) (o : Nat) (w : World) (xs : List Value), w.ownsRow B e size v n xs → (w.setCells g o us).ownsRow B e size v n (putL xs o us)
  | [], _, _, _, h => h
  | u :: us, o, w, _, h => fam_puts hg us (o + 1) (w.setCell ⟨g, o, none⟩ u) _ (fam_put h hg o u)
theorem fam_shrink {w : World} {B : Nat} {e : TypeId} {size : Nat} {n m g cap : Nat} {xs : List Value} (h : w.ownsRow B e size (.slice (some ⟨g, 0, none⟩) n cap) n xs) (hm : m ≤ n) : w.ownsRow B e size (.slice (some ⟨g, 0, none⟩) m cap) m (xs.take (m * size)) := by
  obtain ⟨h0, h1⟩ := h
  have hmul : m * size ≤ n * size := Nat.mul_le_mul_right _ hm
  refine ⟨by rw [List.length_take, h0]; omega, ?_⟩
  rcases h1 with ⟨h1, _⟩ | ⟨g', cap', cur, hv, hg, hh, h2, h3, h4, h5⟩
  · simp at h1
  · simp only [Value.slice.injEq, Option.some.injEq, Addr.mk.injEq, and_true] at hv
    obtain ⟨rfl, _, rfl⟩ := hv
    exact Or.inr ⟨g, cap, cur, rfl, hg, hh, Nat.le_trans hm h2, h3, h4, by rw [← h5, List.take_take, Nat.min_eq_left hmul]⟩
theorem grown_puts (g : Nat) : ∀ (vs : List Value) (o : Nat) (w : World), w.grownBy (w.setCells g o vs) (some g)
  | [], _, _ => ⟨rfl, rfl, rfl, Nat.le_refl _, fun _ _ _ => rfl⟩
  | u :: us, o, w => by
    have h := grown_puts g us (o + 1) (w.setCell ⟨g, o, none⟩ u)
    have hz : (w.setCell ⟨g, o, none⟩ u).heap.size = w.heap.size := by simp [World.setCell]
    exact ⟨h.os, h.tape, h.output, by have := h.size; rw [hz] at this; exact this, fun k hk hne => (h.block k (by rw [hz]; exact hk) hne).trans (Below.heap_setCell _ _ _ _ (fun e => hne (by rw [e])))⟩
theorem waitV_1 (a : Wt) : waitV [a] = [.bool a.lk, .int .i64 a.wh, .int .i64 a.what] := waitV_snoc [] a
theorem waitV_2 (a b : Wt) : waitV [a, b] = [.bool a.lk, .int .i64 a.wh, .int .i64 a.what, .bool b.lk, .int .i64 b.wh, .int .i64 b.what] := by
  rw [show [a, b] = [a] ++ [b] from rfl, waitV_snoc, waitV_1]; rfl
theorem waitV_3 (a b c : Wt) : waitV [a, b, c] = [.bool a.lk, .int .i64 a.wh, .int .i64 a.what, .bool b.lk, .int .i64 b.wh, .int .i64 b.what, .bool c.lk, .int .i64 c.wh, .int .i64 c.what] := by
  rw [show [a, b, c] = [a, b] ++ [c] from rfl, waitV_snoc, waitV_2]; rfl
/-- One taken out of at most three that wait. -/
theorem waitV_cut {l : List Wt} {k : Nat} (hl : l.length ≤ 3) (hk : k < l.length) : (putL (waitV l) (k * 3) ((waitV l).drop ((k + 1) * 3))).take ((l.length - 1) * 3) = waitV (l.eraseIdx k) := by
  match l, k, hl, hk with
  | [a], 0, _, _ => rfl
  | [a, b], 0, _, _ => rw [waitV_2]; rw [show [a, b].eraseIdx 0 = [b] from rfl, waitV_1]; rfl
  | [a, b], 1, _, _ => rw [waitV_2]; rw [show [a, b].eraseIdx 1 = [a] from rfl, waitV_1]; rfl
  | [a, b, c], 0, _, _ => rw [waitV_3]; rw [show [a, b, c].eraseIdx 0 = [b, c] from rfl, waitV_2]; rfl
  | [a, b, c], 1, _, _ => rw [waitV_3]; rw [show [a, b, c].eraseIdx 1 = [a, c] from rfl, waitV_2]; rfl
  | [a, b, c], 2, _, _ => rw [waitV_3]; rw [show [a, b, c].eraseIdx 2 = [a, b] from rfl, waitV_2]; rfl
theorem waitC_one (x : Wt) (j : Nat) : (waitC x j).oneCell' = true := by
  unfold waitC
  split
  · rfl
  · split <;> rfl
theorem waitV_len (l : List Wt) : (waitV l).length = l.length * 3 := rows3_len _ _

/-- What can be picked: an order of a thread that is able, or one that waits and may be done. -/
theorem movesX_mem {L : Nat → Nat} {X : Nat → Nat → Nat → Int} {mode : Int} {s : Sx} {mv : Int} (h : mv ∈ movesX L X mode s) : (∃ t, t < s.ths.length ∧ mv = 8 * (t : Int) ∧ ableT L X s t = true) ∨ ∃ t k, t < s.ths.length ∧ k < (thOf s t).wait.length ∧ mv = 8 * (t : Int) + (k : Int) + 1 ∧ mayW mode (thOf s t).wait k = true := by
  unfold movesX at h
  rw [List.mem_flatMap] at h
  obtain ⟨t, ht, h⟩ := h
  have htn : t < s.ths.length := by simpa using ht
  unfold movesT at h
  rw [List.mem_append] at h
  rcases h with h | h
  · by_cases ha : ableT L X s t = true
    · rw [if_pos ha] at h
      exact Or.inl ⟨t, htn, by simpa using h, ha⟩
    · rw [if_neg ha] at h
      cases h
  · rw [List.mem_map] at h
    obtain ⟨k, hk, e⟩ := h
    rw [List.mem_filter] at hk
    exact Or.inr ⟨t, k, htn, by simpa using hk.1, e.symm, hk.2⟩
theorem doX_wait {X : Nat → Nat → Nat → Int} {mode : Int} {s : Sx} {t k : Nat} (hk : k < 7) : doX X mode s (8 * t + k + 1) = setTh (doneW s ((thOf s t).wait.getD k default)) t { thOf s t with wait := (thOf s t).wait.eraseIdx k } := by
  have hth : ∀ x, thOf (doneW s x) t = thOf s t := fun x => by unfold doneW; split <;> rfl
  unfold doX
  simp only [show (8 * t + k + 1) / 8 = t by omega, show (8 * t + k + 1) % 8 = k + 1 by omega]
  rw [if_pos (by omega)]
  simp only [Nat.add_sub_cancel, hth]
theorem SOk.wait {n : Nat} {L : Nat → Nat} {X : Nat → Nat → Nat → Int} {m lk rg : Nat} {mode : Int} {s : Sx} (h : SOk n L m lk rg mode s) {t k : Nat} (ht : t < n) (hk : k < (thOf s t).wait.length) : SOk n L m lk rg mode (doX X mode s (8 * t + k + 1)) := by
  have hw := h.wlen t ht
  rw [doX_wait (by omega)]
  have h1 := h.done ((thOf s t).wait.getD k default)
  refine h1.th ht (h.pc t ht) (h.regs t ht) ?_ (fun y hy => h.wok t ht y (List.mem_of_mem_eraseIdx hy)) (fun h0 => ?_)
  · have := List.length_eraseIdx_le (thOf s t).wait k
    show ((thOf s t).wait.eraseIdx k).length ≤ 3
    omega
  · show (thOf s t).wait.eraseIdx k = []
    rw [h.bare h0 t ht]; rfl
theorem prints_wait {X : Nat → Nat → Nat → Int} {mode : Int} {s : Sx} {t k : Nat} (hk : k < 7) : (doX X mode s (8 * t + k + 1)).prints = s.prints := by
  rw [doX_wait hk]
  show (doneW s _).prints = _
  unfold doneW
  split <;> rfl
theorem fell_wait {X : Nat → Nat → Nat → Int} {mode : Int} {s : Sx} {t k : Nat} (hk : k < 7) : (doX X mode s (8 * t + k + 1)).fell = s.fell := by
  rw [doX_wait hk]
  show (doneW s _).fell = _
  unfold doneW
  split <;> rfl

attribute [local go_sem ↓] appS_eq
end

section
open Go.RowKit

section
variable {n : Nat} {L : Nat → Nat} {X : Nat → Nat → Nat → Int} {m lk rg : Nat} {mode : Int}
theorem moves_ended {s : Sx} (h : endedX L s = true) : movesX L X mode s = [] := by
  unfold movesX
  rw [List.flatMap_eq_nil_iff]
  intro t ht
  unfold endedX at h
  rw [List.all_eq_true] at h
  have h1 := h t ht
  rw [Bool.and_eq_true] at h1
  have hw : (thOf s t).wait = [] := List.isEmpty_iff.mp h1.2
  unfold movesT
  rw [hw]
  have ha : ableT L X s t = false := by unfold ableT; rw [if_pos h1.1]
  rw [ha]
  rfl
/-- What a move makes of a state that may be. -/
theorem move_ok {s : Sx} (h : SOk n L m lk rg mode s) (hc : COk n L X m lk rg) (hm : 0 ≤ mode) {mv : Int} (hmv : mv ∈ movesX L X mode s) : SOk n L m lk rg mode (doX X mode s mv.toNat) := by
  rcases movesX_mem hmv with ⟨t, ht, rfl, ha⟩ | ⟨t, k, ht, hk, rfl, _⟩
  · rw [show (8 * (t : Int)).toNat = 8 * t by omega]
    exact h.step hc hm (by rw [← h.ths]; exact ht) ha
  · rw [show (8 * (t : Int) + (k : Int) + 1).toNat = 8 * t + k + 1 by omega]
    exact h.wait (by rw [← h.ths]; exact ht) hk
theorem mem_nx {s t : Sx} : t ∈ nxX L X mode s ↔ ∃ mv, mv ∈ movesX L X mode s ∧ doX X mode s mv.toNat = t ∧ t.fell = false := by
  unfold nxX
  rw [List.mem_filterMap]
  constructor
  · rintro ⟨mv, h1, h2⟩
    cases hf : (doX X mode s mv.toNat).fell with
    | true => rw [hf] at h2; cases h2
    | false =>
      rw [hf] at h2
      have e : doX X mode s mv.toNat = t := Option.some.inj h2
      exact ⟨mv, h1, e, by rw [← e]; exact hf⟩
  · rintro ⟨mv, h1, h2, h3⟩
    exact ⟨mv, h1, by rw [h2, h3]; rfl⟩
/-- What holds of all that can be come to. -/
theorem reach_ok {s0 s : Sx} (h0 : SOk n L m lk rg mode s0) (hf : s0.fell = false) (hc : COk n L X m lk rg) (hm : 0 ≤ mode) (h : Rch (nxX L X mode) s0 s) : SOk n L m lk rg mode s ∧ s.fell = false := by
  induction h with
  | base => exact ⟨h0, hf⟩
  | step _ ht ih =>
    obtain ⟨mv, h1, h2, h3⟩ := mem_nx.mp ht
    rw [← h2]
    exact ⟨move_ok ih.1 hc hm h1, by rw [h2]; exact h3⟩
end
theorem order_modes (s : Sx) (t : Nat) (op a b c : Int) : orderX 1 s t op a b c = orderX 0 s t op a b c ∨ ∃ x, orderX 1 s t op a b c = storeW 1 s t x ∧ orderX 0 s t op a b c = storeW 0 s t x := by
  unfold orderX
  by_cases e : op = 1
  · rw [if_pos e, if_pos e]
    exact Or.inl rfl
  rw [if_neg e, if_neg e]
  clear e
  by_cases e : op = 2
  · rw [if_pos e, if_pos e]
    exact Or.inl rfl
  rw [if_neg e, if_neg e]
  clear e
  by_cases e : op = 3
  · rw [if_pos e, if_pos e]
    exact Or.inl rfl
  rw [if_neg e, if_neg e]
  clear e
  by_cases e : op = 4
  · rw [if_pos e, if_pos e]
    exact Or.inl rfl
  rw [if_neg e, if_neg e]
  clear e
  by_cases e : op = 5
  · rw [if_pos e, if_pos e]
    exact Or.inl rfl
  rw [if_neg e, if_neg e]
  clear e
  by_cases e : op = 6
  · rw [if_pos e, if_pos e]
    exact Or.inl rfl
  rw [if_neg e, if_neg e]
  clear e
  by_cases e : op = 7
  · rw [if_pos e, if_pos e]
    exact Or.inl rfl
  rw [if_neg e, if_neg e]
  clear e
  by_cases e : op = 8
  · rw [if_pos e, if_pos e]
    exact Or.inl rfl
  rw [if_neg e, if_neg e]
  clear e
  by_cases e : op = 9
  · rw [if_pos e, if_pos e]
    exact Or.inr ⟨_, rfl, rfl⟩
  rw [if_neg e, if_neg e]
  clear e
  by_cases e : op = 10
  · rw [if_pos e, if_pos e]
    exact Or.inl rfl
  rw [if_neg e, if_neg e]
  clear e
  by_cases e : op = 11
  · rw [if_pos e, if_pos e]
    by_cases hr : getR s t a < 0 ∨ (s.words.length : Int) ≤ getR s t a
    · rw [if_pos hr, if_pos hr]; exact Or.inl rfl
    · rw [if_neg hr, if_neg hr]; exact Or.inr ⟨_, rfl, rfl⟩
  rw [if_neg e, if_neg e]
  clear e
  by_cases e : op = 13
  · rw [if_pos e, if_pos e]
    exact Or.inl rfl
  rw [if_neg e, if_neg e]
  clear e
  by_cases e : op = 14
  · rw [if_pos e, if_pos e]
    exact Or.inl rfl
  rw [if_neg e, if_neg e]
  clear e
  by_cases e : op = 15
  · rw [if_pos e, if_pos e]
    exact Or.inl rfl
  rw [if_neg e, if_neg e]
  clear e
  by_cases e : op = 16
  · rw [if_pos e, if_pos e]
    exact Or.inl rfl
  rw [if_neg e, if_neg e]
  clear e
  by_cases e : op = 17
  · rw [if_pos e, if_pos e]
    exact Or.inl rfl
  rw [if_neg e, if_neg e]
  clear e
  by_cases e : op = 18
  · rw [if_pos e, if_pos e]
    by_cases hr : s.own.getD a.toNat 0 ≠ t ∨ ((thOf s t).wait.any fun x => x.lk && decide (x.wh = a)) = true
    · rw [if_pos hr, if_pos hr]; exact Or.inl rfl
    · rw [if_neg hr, if_neg hr]; exact Or.inr ⟨_, rfl, rfl⟩
  rw [if_neg e, if_neg e]
  clear e
  exact Or.inl rfl
theorem th_set {s : Sx} {t : Nat} (ht : t < s.ths.length) (x : Th) : thOf (setTh s t x) t = x := by
  unfold thOf setTh
  simp [List.getD, ht]
theorem set_set (s : Sx) (t : Nat) (x y : Th) : setTh (setTh s t x) t y = setTh s t y := by
  unfold setTh
  simp
theorem set_th {s : Sx} {t : Nat} (ht : t < s.ths.length) : setTh s t (thOf s t) = s := by
  unfold setTh thOf
  have : s.ths.set t (s.ths.getD t default) = s.ths := by
    rw [List.getD_eq_getElem?_getD, List.getElem?_eq_getElem ht]
    exact List.set_getElem_self ht
  rw [this]
/-- A store that waits for nothing is one that is done at once. -/
theorem store_flush {X : Nat → Nat → Nat → Int} {s : Sx} {t : Nat} (ht : t < s.ths.length) (hw : (thOf s t).wait = []) (x : Wt) : doX X 1 (storeW 1 s t x) (8 * t + 0 + 1) = storeW 0 s t x := by
  have e1 : storeW 1 s t x = setTh s t { thOf s t with wait := [x] } := by
    unfold storeW
    rw [if_pos (by decide), hw]
    rfl
  have e2 : storeW 0 s t x = doneW s x := by unfold storeW; rw [if_neg (by decide)]
  have e0 := doX_wait (X := X) (mode := 1) (s := storeW 1 s t x) (t := t) (k := 0) (by omega)
  rw [e0, e1, e2, th_set ht]
  show setTh (doneW (setTh s t _) x) t { thOf s t with wait := [] } = _
  have e3 : ({ thOf s t with wait := [] } : Th) = thOf s t := by rw [← hw]
  rw [e3]
  unfold doneW
  cases hk : x.lk with
  | true =>
    show setTh (setTh { s with own := s.own.set x.wh.toNat (-1) } t _) t (thOf s t) = { s with own := s.own.set x.wh.toNat (-1) }
    rw [set_set]
    exact set_th (s := { s with own := s.own.set x.wh.toNat (-1) }) ht
  | false =>
    show setTh (setTh { s with words := s.words.set x.wh.toNat x.what } t _) t (thOf s t) = { s with words := s.words.set x.wh.toNat x.what }
    rw [set_set]
    exact set_th (s := { s with words := s.words.set x.wh.toNat x.what }) ht
section
variable {n : Nat} {L : Nat → Nat} {X : Nat → Nat → Nat → Int} {m lk rg : Nat}
theorem bare_moves {s : Sx} (h : ∀ t, t < s.ths.length → (thOf s t).wait = []) : movesX L X 1 s = movesX L X 0 s := by
  unfold movesX
  rw [List.flatMap_def, List.flatMap_def]
  refine congrArg List.flatten (List.map_congr_left fun t ht => ?_)
  have hw := h t (by simpa using ht)
  unfold movesT
  rw [hw]
  rfl
theorem do_modes {s : Sx} {t : Nat} (ht : t < s.ths.length) (hw : (thOf s t).wait = []) : doX X 1 s (8 * t) = doX X 0 s (8 * t) ∨ ∃ u x, u.ths.length = s.ths.length ∧ (thOf u t).wait = [] ∧ doX X 1 s (8 * t) = storeW 1 u t x ∧ doX X 0 s (8 * t) = storeW 0 u t x := by
  have e : ∀ mode, doX X mode s (8 * t) = orderX mode (setTh s t { thOf s t with pc := (thOf s t).pc + 1 }) t (X t (thOf s t).pc 0) (X t (thOf s t).pc 1) (X t (thOf s t).pc 2) (X t (thOf s t).pc 3) := fun mode => by
    unfold doX
    simp only [show 8 * t / 8 = t by omega, show 8 * t % 8 = 0 by omega]
    rw [if_neg (by omega)]
  rw [e, e]
  rcases order_modes (setTh s t { thOf s t with pc := (thOf s t).pc + 1 }) t (X t (thOf s t).pc 0) (X t (thOf s t).pc 1) (X t (thOf s t).pc 2) (X t (thOf s t).pc 3) with h | ⟨x, h1, h2⟩
  · exact Or.inl h
  · exact Or.inr ⟨_, x, by simp [setTh], by rw [th_set ht]; exact hw, h1, h2⟩
theorem store_fell (s : Sx) (t : Nat) (x : Wt) (mode : Int) : (storeW mode s t x).fell = s.fell := by
  unfold storeW doneW
  split
  · rfl
  · split <;> rfl
/-- What can be come to without stores that wait can be come to with them. -/
theorem reach_more {s0 s : Sx} (h0 : SOk n L m lk rg 0 s0) (hf : s0.fell = false) (hc : COk n L X m lk rg) (h : Rch (nxX L X 0) s0 s) : Rch (nxX L X 1) s0 s := by
  induction h with
  | base => exact .base
  | step hs ht ih =>
    rename_i s t
    obtain ⟨hok, _⟩ := reach_ok h0 hf hc (by decide) hs
    have hbare : ∀ u, u < s.ths.length → (thOf s u).wait = [] := fun u hu => hok.bare rfl u (by rw [← hok.ths]; exact hu)
    obtain ⟨mv, h1, h2, h3⟩ := mem_nx.mp ht
    rcases movesX_mem h1 with ⟨u, hu, rfl, ha⟩ | ⟨u, k, hu, hk, _, _⟩
    · have e8 : (8 * (u : Int)).toNat = 8 * u := by omega
      rw [e8] at h2
      have hin1 : 8 * (u : Int) ∈ movesX L X 1 s := by rw [bare_moves hbare]; exact h1
      rcases do_modes (X := X) hu (hbare u hu) with h4 | ⟨w, x, hl, hw, h4, h5⟩
      · exact .step ih (mem_nx.mpr ⟨_, hin1, by rw [e8, h4]; exact h2, h3⟩)
      · have hul : u < w.ths.length := by rw [hl]; exact hu
        have hfw : w.fell = false := by
          have := h3
          rw [← h2, h5, store_fell] at this
          exact this
        have h6 : Rch (nxX L X 1) s0 (storeW 1 w u x) := .step ih (mem_nx.mpr ⟨_, hin1, by rw [e8]; exact h4, by rw [store_fell]; exact hfw⟩)
        have e1 : storeW 1 w u x = setTh w u { thOf w u with wait := [x] } := by
          unfold storeW
          rw [if_pos (by decide), hw]
          rfl
        have hmv : 8 * (u : Int) + ((0 : Nat) : Int) + 1 ∈ movesX L X 1 (storeW 1 w u x) := by
          unfold movesX
          refine List.mem_flatMap.mpr ⟨u, by rw [e1]; simpa [setTh] using hul, ?_⟩
          unfold movesT
          refine List.mem_append_right _ (List.mem_map.mpr ⟨0, List.mem_filter.mpr ⟨?_, rfl⟩, rfl⟩)
          rw [e1, th_set hul]
          simp
        refine .step h6 (mem_nx.mpr ⟨_, hmv, ?_, h3⟩)
        rw [show (8 * (u : Int) + ((0 : Nat) : Int) + 1).toNat = 8 * u + 0 + 1 by omega, store_flush hul hw]
        rw [← h5]
        exact h2
    · rw [hbare u hu] at hk
      cases hk
/-- Each outcome without stores that wait is one with them. -/
theorem outs_more {s0 s : Sx} (h0 : SOk n L m lk rg 0 s0) (hf : s0.fell = false) (hc : COk n L X m lk rg) (h : Rch (nxX L X 0) s0 s) {o : Oc} (ho : o ∈ outsX L X 0 s) : o ∈ outsX L X 1 s := by
  obtain ⟨hok, hfs⟩ := reach_ok h0 hf hc (by decide) h
  have hbare : ∀ u, u < s.ths.length → (thOf s u).wait = [] := fun u hu => hok.bare rfl u (by rw [← hok.ths]; exact hu)
  have hm := bare_moves (L := L) (X := X) hbare
  unfold outsX at ho ⊢
  rw [hm]
  rcases List.mem_append.mp ho with ho | ho
  · exact List.mem_append_left _ ho
  · refine List.mem_append_right _ ?_
    obtain ⟨mv, h1, h2⟩ := List.mem_filterMap.mp ho
    refine List.mem_filterMap.mpr ⟨mv, h1, ?_⟩
    rcases movesX_mem h1 with ⟨u, hu, rfl, ha⟩ | ⟨u, k, hu, hk, _, _⟩
    · have e8 : (8 * (u : Int)).toNat = 8 * u := by omega
      rw [e8] at h2 ⊢
      rcases do_modes (X := X) hu (hbare u hu) with h4 | ⟨w, x, hl, hw, h4, h5⟩
      · rw [h4]; exact h2
      · cases hff : (doX X 0 s (8 * u)).fell with
        | false => rw [hff] at h2; cases h2
        | true =>
          have hw1 : w.fell = true := by rw [h5, store_fell] at hff; exact hff
          have hp : ∀ mode, (storeW mode w u x).prints = w.prints := fun mode => by
            unfold storeW doneW
            split
            · rfl
            · split <;> rfl
          rw [hff] at h2
          rw [h4, store_fell, hw1, hp]
          rw [h5, hp] at h2
          exact h2
    · rw [hbare u hu] at hk
      cases hk
end
end

end Go.Proofs.YtefnmbnakphhfadGreatDoor
