/-
  Orders that clash, as lists of five numbers, rising: plain functions.
  A clash put into its place, one behind the other: plain functions.
  What the document's Ints does with two lists of the same numbers.
  A list of numbers that was made is one that can be read.
  An outcome put into its place, one behind the other: plain functions.
  States are found again by their sums: the last one of a sum, and the one ahead of it: plain functions.
  The document's Check as one contract.
-/
import Derived.Test.YtipdnfpomdcenabGreatDoorSpaceP
import Derived.Test.YtipdnfpomdcenabGreatDoorOrder
import Derived.Test.YtipdnfpomdcenabGreatDoorRDone
import Derived.Test.YtipdnfpomdcenabGreatDoorWorkP
import Derived.Test.YtipdnfpomdcenabGreatDoorCheckR2
namespace Go.Proofs.YtipdnfpomdcenabGreatDoor
section
open Go.RowKit

/-- Each comes ahead of all that stand behind it. -/
def SortedL (l : List (List Int)) : Prop := l.Pairwise fun a b => lexL a b = true
theorem lex_asym {a b : List Int} (h : lexL a b = true) : lexL b a = false := by
  cases e : lexL b a with
  | false => rfl
  | true => have := lex_trans h e; rw [lex_irr] at this; cases this
theorem sortedL_same : ∀ {l r : List (List Int)}, SortedL l → SortedL r → (∀ o, o ∈ l ↔ o ∈ r) → l = r
  | [], [], _, _, _ => rfl
  | [], b :: r, _, _, h => by have := (h b).2 (by simp); cases this
  | a :: l, [], _, _, h => by have := (h a).1 (by simp); cases this
  | a :: l, b :: r, hl, hr, h => by
    rw [SortedL, List.pairwise_cons] at hl hr
    have ha := (h a).1 (by simp)
    have hb := (h b).2 (by simp)
    have e : a = b := by
      rcases List.mem_cons.mp ha with e | ha
      · exact e
      · rcases List.mem_cons.mp hb with e | hb
        · exact e.symm
        · have h1 := hl.1 b hb
          have h2 := hr.1 a ha
          rw [lex_asym h1] at h2
          cases h2
    subst e
    have hna : ∀ {o}, o ∈ l → o ≠ a := fun ho e => by
      have := hl.1 _ ho
      rw [e, lex_irr] at this
      cases this
    have hnr : ∀ {o}, o ∈ r → o ≠ a := fun ho e => by
      have := hr.1 _ ho
      rw [e, lex_irr] at this
      cases this
    rw [sortedL_same (l := l) (r := r) hl.2 hr.2 (fun o => ⟨fun ho => by
      rcases List.mem_cons.mp ((h o).1 (by simp [ho])) with e | e
      · exact absurd e (hna ho)
      · exact e, fun ho => by
      rcases List.mem_cons.mp ((h o).2 (by simp [ho])) with e | e
      · exact absurd e (hnr ho)
      · exact e⟩)]
/-- One more, into its place, once. -/
def insL (c : List Int) : List (List Int) → List (List Int)
  | [] => [c]
  | x :: l => if lexL c x then c :: x :: l else if lexL x c then x :: insL c l else x :: l
theorem mem_insL {c o : List Int} : ∀ {l : List (List Int)}, o ∈ insL c l ↔ o = c ∨ o ∈ l
  | [] => by simp [insL]
  | x :: l => by
    unfold insL
    split
    · simp
    · rename_i h1
      split
      · rw [List.mem_cons, mem_insL, List.mem_cons]
        exact ⟨fun h => by rcases h with h | h | h <;> simp [h], fun h => by rcases h with h | h | h <;> simp [h]⟩
      · rename_i h2
        have e : c = x := lex_tri (by simpa using h1) (by simpa using h2)
        rw [e, List.mem_cons]
        exact ⟨Or.inr, fun h => by rcases h with h | h | h <;> simp [h]⟩
theorem sorted_insL {c : List Int} : ∀ {l : List (List Int)}, SortedL l → SortedL (insL c l)
  | [], _ => List.pairwise_singleton _ _
  | x :: l, h => by
    have h' := h
    rw [SortedL, List.pairwise_cons] at h'
    unfold insL
    split
    · rename_i h1
      rw [SortedL, List.pairwise_cons]
      exact ⟨fun y hy => by
        rcases List.mem_cons.mp hy with rfl | hy
        · exact h1
        · exact lex_trans h1 (h'.1 y hy), h⟩
    · split
      · rename_i h2
        rw [SortedL, List.pairwise_cons]
        refine ⟨fun y hy => ?_, sorted_insL h'.2⟩
        rcases mem_insL.mp hy with rfl | hy
        · exact h2
        · exact h'.1 y hy
      · exact h
section
variable (L : Nat → Nat) (X : Nat → Nat → Nat → Int)
/-- The word that a thread touches next, where it is able and there is such a word; whether it only stores there. -/
def okT (s : Sx) (t : Nat) : Option (Int × Bool) :=
  if ableT L X s t then (twX X s t).bind fun p => if 0 ≤ p.1 ∧ p.1 < (s.words.length : Int) then some p else none else none
/-- How two threads' next orders clash. -/
def clP (s : Sx) (a b : Nat) : Option (List Int) :=
  (okT L X s a).bind fun p => (okT L X s b).bind fun q => if p.1 = q.1 ∧ (p.2 || q.2) = true then some [(a : Int), ((thOf s a).pc : Int), (b : Int), ((thOf s b).pc : Int), p.1] else none
/-- The clashes of a state. -/
def ClsX (s : Sx) (c : List Int) : Prop := ∃ a b, a < b ∧ b < s.ths.length ∧ clP L X s a b = some c
/-- What is told of clashes. -/
def ToldC (s0 : Sx) (l : List (List Int)) : Prop := SortedL l ∧ ∀ c, c ∈ l ↔ ∃ s, Rch (nxX L X 0) s0 s ∧ ClsX L X s c
end
section
variable {L : Nat → Nat} {X : Nat → Nat → Nat → Int}
theorem toldC_same {s0 : Sx} {l r : List (List Int)} (h1 : ToldC L X s0 l) (h2 : ToldC L X s0 r) : l = r := sortedL_same h1.1 h2.1 fun o => (h1.2 o).trans (h2.2 o).symm
theorem okT_some {s : Sx} {t : Nat} {w : Int} {p : Bool} : okT L X s t = some (w, p) ↔ ableT L X s t = true ∧ twX X s t = some (w, p) ∧ 0 ≤ w ∧ w < (s.words.length : Int) := by
  unfold okT
  cases ha : ableT L X s t with
  | false => simp
  | true =>
    simp only [if_true, true_and]
    cases ht : twX X s t with
    | none => simp
    | some q =>
      obtain ⟨v, r⟩ := q
      simp only [Option.bind_some]
      split
      · rename_i h
        simp only [Option.some.injEq, Prod.mk.injEq]
        exact ⟨fun e => ⟨e, e.1 ▸ h.1, e.1 ▸ h.2⟩, fun e => e.1⟩
      · rename_i h
        simp only [Option.some.injEq, Prod.mk.injEq, reduceCtorEq, false_iff]
        rintro ⟨⟨rfl, _⟩, h1, h2⟩
        exact h ⟨h1, h2⟩
/-- What two threads' touches make. -/
theorem clP_no {s : Sx} {a b : Nat} (h : okT L X s a = none ∨ okT L X s b = none) : clP L X s a b = none := by
  unfold clP
  rcases h with h | h
  · rw [h]; rfl
  · rw [h]
    cases okT L X s a <;> rfl
theorem clP_two {s : Sx} {a b : Nat} {x y : Int} {p q : Bool} (h1 : okT L X s a = some (x, p)) (h2 : okT L X s b = some (y, q)) : clP L X s a b = if x = y ∧ (p || q) = true then some [(a : Int), ((thOf s a).pc : Int), (b : Int), ((thOf s b).pc : Int), x] else none := by
  unfold clP
  rw [h1, h2]
  rfl
end
end

section
open Go.RowKit

theorem insL_end {o : List Int} : ∀ {l : List (List Int)}, (∀ x, x ∈ l → lexL x o = true) → insL o l = l ++ [o]
  | [], _ => rfl
  | a :: l, h => by
    have h1 := h a (by simp)
    unfold insL
    rw [lex_asym h1, h1, insL_end (fun x hx => h x (by simp [hx]))]
    rfl
theorem insL_mid {o x : List Int} {r : List (List Int)} (hx : lexL o x = true) : ∀ {l : List (List Int)}, (∀ y, y ∈ l → lexL y o = true) → insL o (l ++ x :: r) = l ++ o :: x :: r
  | [], _ => by
    show insL o (x :: r) = _
    unfold insL
    rw [hx]
    rfl
  | a :: l, h => by
    have h1 := h a (by simp)
    show insL o (a :: (l ++ x :: r)) = _
    unfold insL
    rw [lex_asym h1, h1, insL_mid hx (fun y hy => h y (by simp [hy]))]
    rfl
theorem insL_in {o : List Int} {r : List (List Int)} : ∀ {l : List (List Int)}, (∀ y, y ∈ l → lexL y o = true) → insL o (l ++ o :: r) = l ++ o :: r
  | [], _ => by
    show insL o (o :: r) = _
    unfold insL
    rw [lex_irr]
    rfl
  | a :: l, h => by
    have h1 := h a (by simp)
    show insL o (a :: (l ++ o :: r)) = _
    unfold insL
    rw [lex_asym h1, h1, insL_in (fun y hy => h y (by simp [hy]))]
    rfl
/-- What has been written so far, of the first k. -/
def putLK (o : List Int) (l : List (List Int)) (done : Bool) (k : Nat) : List (List Int) := if done then insL o (l.take k) else l.take k
structure PutLI (o : List Int) (l : List (List Int)) (done : Bool) (k : Nat) : Prop where
  no : done = false → ∀ x, x ∈ l.take k → lexL x o = true
  yes : done = true → ∃ l1 x l2, l.take k = l1 ++ x :: l2 ∧ lexL o x = true ∧ ∀ y, y ∈ l1 → lexL y o = true
theorem PutLI.start (o : List Int) (l : List (List Int)) : PutLI o l false 0 := ⟨fun _ x hx => (by cases hx), fun h => (by cases h)⟩
section
variable {o : List Int} {l : List (List Int)} {k : Nat}
theorem takeL_next (hk : k < l.length) : l.take (k + 1) = l.take k ++ [l.getD k default] := by
  rw [List.take_add_one, List.getElem?_eq_getElem hk, List.getD_eq_getElem?_getD, List.getElem?_eq_getElem hk]
  rfl
theorem PutLI.later {done : Bool} (h : PutLI o l done k) (hk : k < l.length) (hd : done = true) : PutLI o l true (k + 1) ∧ putLK o l true (k + 1) = putLK o l done k ++ [l.getD k default] := by
  obtain ⟨l1, x, l2, e, hx, hy⟩ := h.yes hd
  have e2 : l.take (k + 1) = l1 ++ x :: (l2 ++ [l.getD k default]) := by rw [takeL_next hk, e]; simp
  refine ⟨⟨fun h => (by cases h), fun _ => ⟨l1, x, _, e2, hx, hy⟩⟩, ?_⟩
  unfold putLK
  rw [if_pos rfl, if_pos hd, e2, e, insL_mid hx hy, insL_mid hx hy]
  simp
theorem PutLI.now (h : PutLI o l false k) (hk : k < l.length) (ho : lexL o (l.getD k default) = true) : PutLI o l true (k + 1) ∧ putLK o l true (k + 1) = putLK o l false k ++ [o] ++ [l.getD k default] := by
  refine ⟨⟨fun h => (by cases h), fun _ => ⟨l.take k, _, [], takeL_next hk, ho, h.no rfl⟩⟩, ?_⟩
  unfold putLK
  rw [if_pos rfl, if_neg (by simp), takeL_next hk, insL_mid ho (h.no rfl)]
  simp
theorem PutLI.skip (h : PutLI o l false k) (hk : k < l.length) (ho : lexL (l.getD k default) o = true) : PutLI o l false (k + 1) ∧ putLK o l false (k + 1) = putLK o l false k ++ [l.getD k default] := by
  refine ⟨⟨fun _ x hx => ?_, fun h => by cases h⟩, ?_⟩
  · rw [takeL_next hk] at hx
    rcases List.mem_append.mp hx with hx | hx
    · exact h.no rfl x hx
    · rw [List.mem_singleton.mp hx]; exact ho
  · unfold putLK
    rw [if_neg (by simp), if_neg (by simp), takeL_next hk]
/-- One that is there already. -/
theorem PutLI.there {done : Bool} (h : PutLI o l done k) (hs : SortedL l) (hk : k < l.length) (h1 : lexL o (l.getD k default) = false) (h2 : lexL (l.getD k default) o = false) : insL o l = l := by
  have e := lex_tri h1 h2
  have hd : l = l.take k ++ l.getD k default :: l.drop (k + 1) := by
    have := List.take_append_drop (k + 1) l
    rw [takeL_next hk, List.append_assoc] at this
    exact this.symm
  cases done with
  | false =>
    rw [hd, ← e]
    exact insL_in (h.no rfl)
  | true =>
    obtain ⟨l1, x, l2, e3, hx, hy⟩ := h.yes rfl
    have hp : SortedL l := hs
    rw [hd, e3, SortedL, List.pairwise_append] at hp
    have := hp.2.2 x (by simp) (l.getD k default) (by simp)
    rw [← e, lex_asym hx] at this
    cases this
theorem PutLI.last {done : Bool} (h : PutLI o l done l.length) : insL o l = if done then putLK o l true l.length else putLK o l false l.length ++ [o] := by
  cases done with
  | false =>
    have := h.no rfl
    rw [List.take_length] at this
    rw [if_neg (by simp), insL_end this]
    unfold putLK
    rw [if_neg (by simp), List.take_length]
  | true =>
    rw [if_pos rfl]
    unfold putLK
    rw [if_pos rfl, List.take_length]
end
end

section
open Go.RowKit

/-- A list of numbers lies in w. -/
def IIn (w : World) (a : Option Addr) (n : Nat) (X : Nat → Int) : Prop := ∀ i, i < n → ∃ b o, a = some ⟨b, o, none⟩ ∧ w.cell? ⟨b, o + i, none⟩ = some (.int .i64 (X i))
theorem IIn.below {w w' : World} {a : Option Addr} {n : Nat} {X : Nat → Int} (h : IIn w a n X) (hb : Below w.heap.size w w') : IIn w' a n X := fun i hi => by
  obtain ⟨b, o, hc, h1⟩ := h i hi
  exact ⟨b, o, hc, (hb.cell (lt_of_cell h1)).trans h1⟩
end

section
open Go.RowKit

theorem IsI.iin {w : World} {B : Nat} {a : Option Addr} {len c : Nat} {xs : List Int} (h : IsI w B a len c xs) : IIn w a len (fun i => xs.getD i 0) := fun i hi => by
  obtain ⟨g, cap, h1, h2, _, _⟩ := fam_block h.own (by omega)
  simp only [Value.slice.injEq] at h1
  exact ⟨g, 0, h1.1, by simpa using fam_cell h.own h2 (intsV_at (by rw [h.is]; exact hi))⟩
end

section
open Go.RowKit

/-! An outcome put into its place, one behind the other. -/
theorem ins_end {o : Oc} : ∀ {l : List Oc}, (∀ x, x ∈ l → aheadO x o = true) → insO o l = l ++ [o]
  | [], _ => rfl
  | a :: l, h => by
    have h1 := h a (by simp)
    unfold insO
    rw [ahead_asym h1, h1, ins_end (fun x hx => h x (by simp [hx]))]
    rfl
theorem ins_mid {o x : Oc} {r : List Oc} (hx : aheadO o x = true) : ∀ {l : List Oc}, (∀ y, y ∈ l → aheadO y o = true) → insO o (l ++ x :: r) = l ++ o :: x :: r
  | [], _ => by
    show insO o (x :: r) = _
    unfold insO
    rw [hx]
    rfl
  | a :: l, h => by
    have h1 := h a (by simp)
    show insO o (a :: (l ++ x :: r)) = _
    unfold insO
    rw [ahead_asym h1, h1, ins_mid hx (fun y hy => h y (by simp [hy]))]
    rfl
theorem ins_in {o : Oc} {r : List Oc} : ∀ {l : List Oc}, (∀ y, y ∈ l → aheadO y o = true) → insO o (l ++ o :: r) = l ++ o :: r
  | [], _ => by
    show insO o (o :: r) = _
    unfold insO
    rw [ahead_irr]
    rfl
  | a :: l, h => by
    have h1 := h a (by simp)
    show insO o (a :: (l ++ o :: r)) = _
    unfold insO
    rw [ahead_asym h1, h1, ins_in (fun y hy => h y (by simp [hy]))]
    rfl
/-- What has been written so far, of the first k. -/
def putK (o : Oc) (l : List Oc) (done : Bool) (k : Nat) : List Oc := if done then insO o (l.take k) else l.take k
structure PutI (o : Oc) (l : List Oc) (done : Bool) (k : Nat) : Prop where
  no : done = false → ∀ x, x ∈ l.take k → aheadO x o = true
  yes : done = true → ∃ l1 x l2, l.take k = l1 ++ x :: l2 ∧ aheadO o x = true ∧ ∀ y, y ∈ l1 → aheadO y o = true
theorem PutI.start (o : Oc) (l : List Oc) : PutI o l false 0 := ⟨fun _ x hx => (by cases hx), fun h => (by cases h)⟩
section
variable {o : Oc} {l : List Oc} {k : Nat}
theorem take_next (hk : k < l.length) : l.take (k + 1) = l.take k ++ [l.getD k default] := by
  rw [List.take_add_one, List.getElem?_eq_getElem hk, List.getD_eq_getElem?_getD, List.getElem?_eq_getElem hk]
  rfl
theorem PutI.later {done : Bool} (h : PutI o l done k) (hk : k < l.length) (hd : done = true) : PutI o l true (k + 1) ∧ putK o l true (k + 1) = putK o l done k ++ [l.getD k default] := by
  obtain ⟨l1, x, l2, e, hx, hy⟩ := h.yes hd
  have e2 : l.take (k + 1) = l1 ++ x :: (l2 ++ [l.getD k default]) := by rw [take_next hk, e]; simp
  refine ⟨⟨fun h => (by cases h), fun _ => ⟨l1, x, _, e2, hx, hy⟩⟩, ?_⟩
  unfold putK
  rw [if_pos rfl, if_pos hd, e2, e, ins_mid hx hy, ins_mid hx hy]
  simp
theorem PutI.now (h : PutI o l false k) (hk : k < l.length) (ho : aheadO o (l.getD k default) = true) : PutI o l true (k + 1) ∧ putK o l true (k + 1) = putK o l false k ++ [o] ++ [l.getD k default] := by
  refine ⟨⟨fun h => (by cases h), fun _ => ⟨l.take k, _, [], take_next hk, ho, h.no rfl⟩⟩, ?_⟩
  unfold putK
  rw [if_pos rfl, if_neg (by simp), take_next hk, ins_mid ho (h.no rfl)]
  simp
theorem PutI.skip (h : PutI o l false k) (hk : k < l.length) (ho : aheadO (l.getD k default) o = true) : PutI o l false (k + 1) ∧ putK o l false (k + 1) = putK o l false k ++ [l.getD k default] := by
  refine ⟨⟨fun _ x hx => ?_, fun h => by cases h⟩, ?_⟩
  · rw [take_next hk] at hx
    rcases List.mem_append.mp hx with hx | hx
    · exact h.no rfl x hx
    · rw [List.mem_singleton.mp hx]; exact ho
  · unfold putK
    rw [if_neg (by simp), if_neg (by simp), take_next hk]
/-- One that is there already. -/
theorem PutI.there {done : Bool} (h : PutI o l done k) (hs : SortedO l) (hk : k < l.length) (h1 : aheadO o (l.getD k default) = false) (h2 : aheadO (l.getD k default) o = false) : insO o l = l := by
  have e := ahead_tri h1 h2
  have hd : l = l.take k ++ l.getD k default :: l.drop (k + 1) := by
    have := List.take_append_drop (k + 1) l
    rw [take_next hk, List.append_assoc] at this
    exact this.symm
  cases done with
  | false =>
    rw [hd, ← e]
    exact ins_in (h.no rfl)
  | true =>
    obtain ⟨l1, x, l2, e3, hx, hy⟩ := h.yes rfl
    have hp : SortedO l := hs
    rw [hd, e3, SortedO, List.pairwise_append] at hp
    have := hp.2.2 x (by simp) (l.getD k default) (by simp)
    rw [← e, ahead_asym hx] at this
    cases this
theorem PutI.last {done : Bool} (h : PutI o l done l.length) : insO o l = if done then putK o l true l.length else putK o l false l.length ++ [o] := by
  cases done with
  | false =>
    have := h.no rfl
    rw [List.take_length] at this
    rw [if_neg (by simp), ins_end this]
    unfold putK
    rw [if_neg (by simp), List.take_length]
  | true =>
    rw [if_pos rfl]
    unfold putK
    rw [if_pos rfl, List.take_length]
end
end

section
open Go.RowKit

/-- The last of the first n whose sum is h; -1: none. -/
def lastS (f : Nat → Nat) (h : Nat) : Nat → Int
  | 0 => -1
  | n + 1 => if f n = h then (n : Int) else lastS f h n
section
variable {f : Nat → Nat} {h : Nat}
theorem last_lt : ∀ n, lastS f h n < n
  | 0 => by show (-1 : Int) < _; omega
  | n + 1 => by
    unfold lastS
    split
    · omega
    · have := last_lt n; omega
theorem last_low : ∀ n, -1 ≤ lastS f h n
  | 0 => by show (-1 : Int) ≤ -1; omega
  | n + 1 => by
    unfold lastS
    split
    · omega
    · exact last_low n
/-- The last one is of the sum, and none behind it is. -/
theorem last_is : ∀ n i, lastS f h n = (i : Nat) → f i = h ∧ ∀ j, i < j → j < n → f j ≠ h
  | 0, i, e => by
    have : (-1 : Int) = (i : Nat) := e
    omega
  | n + 1, i, e => by
    unfold lastS at e
    by_cases hn : f n = h
    · rw [if_pos hn] at e
      obtain rfl : n = i := by omega
      exact ⟨hn, fun j h1 h2 => by omega⟩
    · rw [if_neg hn] at e
      obtain ⟨h1, h2⟩ := last_is n i e
      refine ⟨h1, fun j h3 h4 => ?_⟩
      rcases Nat.lt_or_ge j n with h5 | h5
      · exact h2 j h3 h5
      · obtain rfl : j = n := by omega
        exact hn
theorem last_none : ∀ n, lastS f h n < 0 → ∀ j, j < n → f j ≠ h
  | 0, _, j, hj => absurd hj (Nat.not_lt_zero _)
  | n + 1, e, j, hj => by
    unfold lastS at e
    by_cases hn : f n = h
    · rw [if_pos hn] at e; omega
    · rw [if_neg hn] at e
      rcases Nat.lt_or_ge j n with h5 | h5
      · exact last_none n e j h5
      · obtain rfl : j = n := by omega
        exact hn
theorem last_congr {g : Nat → Nat} : ∀ n, (∀ i, i < n → g i = f i) → lastS g h n = lastS f h n
  | 0, _ => rfl
  | n + 1, e => by
    unfold lastS
    rw [e n (by omega), last_congr n (fun i hi => e i (by omega))]
end
end

section
open Go.RowKit

/-- The document's Check, of every program that lies in memory. -/
theorem rcheck_any (ca : Option Addr) (n cc : Nat) (wa : Option Addr) (m wc : Nat) (lk rg : Int) (A : Nat → Option Addr) (L C : Nat → Nat) (X : Nat → Nat → Nat → Int) (x y z : Int) (HR : Hid (chk n L X m lk rg = (x, y, z))) (w : World) (hp : PIn w ca n A L C X) :
    Calls Tryz.prog 9 #[prgV ca n cc wa m wc lk rg] w fun e w' => e = .returned (ints3 x y z) ∧ Below w.heap.size w w' := by
  have h := HR.out
  unfold chk sizesE at h
  by_cases h1 : (n : Int) < 1 ∨ 4 < (n : Int) ∨ 64 < (m : Int)
  · simp only [h1, if_true] at h
    simp at h
    obtain ⟨rfl, rfl, rfl⟩ := h
    exact rcheck_size ca n cc wa m wc lk rg h1 w
  · by_cases h2 : lk < 0 ∨ 4 < lk ∨ rg < 1 ∨ 200 < rg
    · simp only [h1, h2, if_true, if_false] at h
      simp at h
      obtain ⟨rfl, rfl, rfl⟩ := h
      exact rcheck_range ca n cc wa m wc lk rg (by omega) (by omega) h2 w
    · simp only [h1, h2, if_false, ne_eq, not_true_eq_false] at h
      exact rcheck_go ca n cc wa m wc lk rg A L C X x y z (by omega) (by omega) (by omega) (by omega) h w hp
end

end Go.Proofs.YtipdnfpomdcenabGreatDoor
