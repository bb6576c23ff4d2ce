/-
  Orders that clash, as lists of five numbers, rising: plain functions.
  All that can be come to, gone through by the kernel: what is told of it.
  Where no orders clash, stores that wait cannot be seen; and the clash of two threads that the statements look for by themselves: plain functions.
-/
import Derived.Test.YtipdnfpomdcenacGreatDoorRaceP
import Derived.Test.YtipdnfpomdcenacGreatDoorSOk
import Derived.Test.YtipdnfpomdcenacGreatDoorRaceS
import Derived.Test.YtipdnfpomdcenacGreatDoorReachP
namespace Go.Proofs.YtipdnfpomdcenacGreatDoor
section
open Go.RowKit

/-- Each comes ahead of all that stand behind it. -/
def SortedL (l : List (List Int)) : Prop := l.Pairwise fun a b => lexL a b = true
theorem lex_asym {a b : List Int} (h : lexL a b = true) : lexL b a = false := by
  cases e : lexL b a with
  | false => rfl
  | true => have := lex_trans h e; rw [lex_irr] at this; cases this
theorem sortedL_same : ∀ {l r : List (List Int)}, SortedL l → SortedL r → (∀ o, o ∈ l ↔ o ∈ r) → l = r
  | [], [], _, _, _ => rfl
  | [], b :: r, _, _, h => by have := (h b).2 (by simp); cases this
  | a :: l, [], _, _, h => by have := (h a).1 (by simp); cases this
  | a :: l, b :: r, hl, hr, h => by
    rw [SortedL, List.pairwise_cons] at hl hr
    have ha := (h a).1 (by simp)
    have hb := (h b).2 (by simp)
    have e : a = b := by
      rcases List.mem_cons.mp ha with e | ha
      · exact e
      · rcases List.mem_cons.mp hb with e | hb
        · exact e.symm
        · have h1 := hl.1 b hb
          have h2 := hr.1 a ha
          rw [lex_asym h1] at h2
          cases h2
    subst e
    have hna : ∀ {o}, o ∈ l → o ≠ a := fun ho e => by
      have := hl.1 _ ho
      rw [e, lex_irr] at this
      cases this
    have hnr : ∀ {o}, o ∈ r → o ≠ a := fun ho e => by
      have := hr.1 _ ho
      rw [e, lex_irr] at this
      cases this
    rw [sortedL_same (l := l) (r := r) hl.2 hr.2 (fun o => ⟨fun ho => by
      rcases List.mem_cons.mp ((h o).1 (by simp [ho])) with e | e
      · exact absurd e (hna ho)
      · exact e, fun ho => by
      rcases List.mem_cons.mp ((h o).2 (by simp [ho])) with e | e
      · exact absurd e (hnr ho)
      · exact e⟩)]
/-- One more, into its place, once. -/
def insL (c : List Int) : List (List Int) → List (List Int)
  | [] => [c]
  | x :: l => if lexL c x then c :: x :: l else if lexL x c then x :: insL c l else x :: l
theorem mem_insL {c o : List Int} : ∀ {l : List (List Int)}, o ∈ insL c l ↔ o = c ∨ o ∈ l
  | [] => by simp [insL]
  | x :: l => by
    unfold insL
    split
    · simp
    · rename_i h1
      split
      · rw [List.mem_cons, mem_insL, List.mem_cons]
        exact ⟨fun h => by rcases h with h | h | h <;> simp [h], fun h => by rcases h with h | h | h <;> simp [h]⟩
      · rename_i h2
        have e : c = x := lex_tri (by simpa using h1) (by simpa using h2)
        rw [e, List.mem_cons]
        exact ⟨Or.inr, fun h => by rcases h with h | h | h <;> simp [h]⟩
theorem sorted_insL {c : List Int} : ∀ {l : List (List Int)}, SortedL l → SortedL (insL c l)
  | [], _ => List.pairwise_singleton _ _
  | x :: l, h => by
    have h' := h
    rw [SortedL, List.pairwise_cons] at h'
    unfold insL
    split
    · rename_i h1
      rw [SortedL, List.pairwise_cons]
      exact ⟨fun y hy => by
        rcases List.mem_cons.mp hy with rfl | hy
        · exact h1
        · exact lex_trans h1 (h'.1 y hy), h⟩
    · split
      · rename_i h2
        rw [SortedL, List.pairwise_cons]
        refine ⟨fun y hy => ?_, sorted_insL h'.2⟩
        rcases mem_insL.mp hy with rfl | hy
        · exact h2
        · exact h'.1 y hy
      · exact h
section
variable (L : Nat → Nat) (X : Nat → Nat → Nat → Int)
/-- The word that a thread touches next, where it is able and there is such a word; whether it only stores there. -/
def okT (s : Sx) (t : Nat) : Option (Int × Bool) :=
  if ableT L X s t then (twX X s t).bind fun p => if 0 ≤ p.1 ∧ p.1 < (s.words.length : Int) then some p else none else none
/-- How two threads' next orders clash. -/
def clP (s : Sx) (a b : Nat) : Option (List Int) :=
  (okT L X s a).bind fun p => (okT L X s b).bind fun q => if p.1 = q.1 ∧ (p.2 || q.2) = true then some [(a : Int), ((thOf s a).pc : Int), (b : Int), ((thOf s b).pc : Int), p.1] else none
/-- The clashes of a state. -/
def ClsX (s : Sx) (c : List Int) : Prop := ∃ a b, a < b ∧ b < s.ths.length ∧ clP L X s a b = some c
/-- What is told of clashes. -/
def ToldC (s0 : Sx) (l : List (List Int)) : Prop := SortedL l ∧ ∀ c, c ∈ l ↔ ∃ s, Rch (nxX L X 0) s0 s ∧ ClsX L X s c
end
section
variable {L : Nat → Nat} {X : Nat → Nat → Nat → Int}
theorem toldC_same {s0 : Sx} {l r : List (List Int)} (h1 : ToldC L X s0 l) (h2 : ToldC L X s0 r) : l = r := sortedL_same h1.1 h2.1 fun o => (h1.2 o).trans (h2.2 o).symm
theorem okT_some {s : Sx} {t : Nat} {w : Int} {p : Bool} : okT L X s t = some (w, p) ↔ ableT L X s t = true ∧ twX X s t = some (w, p) ∧ 0 ≤ w ∧ w < (s.words.length : Int) := by
  unfold okT
  cases ha : ableT L X s t with
  | false => simp
  | true =>
    simp only [if_true, true_and]
    cases ht : twX X s t with
    | none => simp
    | some q =>
      obtain ⟨v, r⟩ := q
      simp only [Option.bind_some]
      split
      · rename_i h
        simp only [Option.some.injEq, Prod.mk.injEq]
        exact ⟨fun e => ⟨e, e.1 ▸ h.1, e.1 ▸ h.2⟩, fun e => e.1⟩
      · rename_i h
        simp only [Option.some.injEq, Prod.mk.injEq, reduceCtorEq, false_iff]
        rintro ⟨⟨rfl, _⟩, h1, h2⟩
        exact h ⟨h1, h2⟩
theorem clP_some {s : Sx} {a b : Nat} {c : List Int} : clP L X s a b = some c ↔ ∃ w p q, okT L X s a = some (w, p) ∧ okT L X s b = some (w, q) ∧ (p || q) = true ∧ c = [(a : Int), ((thOf s a).pc : Int), (b : Int), ((thOf s b).pc : Int), w] := by
  unfold clP
  cases h1 : okT L X s a with
  | none => simp
  | some p =>
    cases h2 : okT L X s b with
    | none => simp
    | some q =>
      obtain ⟨v, p⟩ := p
      obtain ⟨u, q⟩ := q
      simp only [Option.bind_some]
      constructor
      · intro h
        split at h
        · rename_i h3
          obtain ⟨rfl, h4⟩ := h3
          cases h
          exact ⟨v, p, q, rfl, rfl, h4, rfl⟩
        · cases h
      · rintro ⟨w, p', q', e1, e2, h4, rfl⟩
        simp only [Option.some.injEq, Prod.mk.injEq] at e1 e2
        obtain ⟨rfl, rfl⟩ := e1
        obtain ⟨rfl, rfl⟩ := e2
        rw [if_pos ⟨rfl, h4⟩]
/-- What two threads' touches make. -/
theorem clP_no {s : Sx} {a b : Nat} (h : okT L X s a = none ∨ okT L X s b = none) : clP L X s a b = none := by
  unfold clP
  rcases h with h | h
  · rw [h]; rfl
  · rw [h]
    cases okT L X s a <;> rfl
theorem clP_two {s : Sx} {a b : Nat} {x y : Int} {p q : Bool} (h1 : okT L X s a = some (x, p)) (h2 : okT L X s b = some (y, q)) : clP L X s a b = if x = y ∧ (p || q) = true then some [(a : Int), ((thOf s a).pc : Int), (b : Int), ((thOf s b).pc : Int), x] else none := by
  unfold clP
  rw [h1, h2]
  rfl
theorem clash_clP {s : Sx} {a b : Nat} {w : Int} (h : ClashX L X s a b w) : ∃ c, clP L X s a b = some c := by
  obtain ⟨h1, h2, h3, h4, p, q, e1, e2, e3⟩ := h
  exact ⟨_, clP_some.mpr ⟨w, p, q, okT_some.mpr ⟨h1, e1, h3, h4⟩, okT_some.mpr ⟨h2, e2, h3, h4⟩, e3, rfl⟩⟩
theorem clash_swap {s : Sx} {a b : Nat} {w : Int} (h : ClashX L X s a b w) : ClashX L X s b a w := by
  obtain ⟨h1, h2, h3, h4, p, q, e1, e2, e3⟩ := h
  exact ⟨h2, h1, h3, h4, q, p, e2, e1, by rw [Bool.or_comm]; exact e3⟩
/-- Where no clash is told, there is none. -/
theorem toldC_none {s0 : Sx} {n : Nat} (h : ToldC L X s0 []) (hn : ∀ s, Rch (nxX L X 0) s0 s → s.ths.length = n) : ∀ s, Rch (nxX L X 0) s0 s → ∀ a b w, a < n → b < n → a ≠ b → ¬ ClashX L X s a b w := fun s hs a b w ha hb hab hc => by
  have key : ∀ a b, a < b → b < n → ClashX L X s a b w → False := fun a b h1 h2 h3 => by
    obtain ⟨c, e⟩ := clash_clP h3
    have := (h.2 c).mpr ⟨s, hs, a, b, h1, by rw [hn s hs]; exact h2, e⟩
    cases this
  rcases Nat.lt_or_gt_of_ne hab with h1 | h1
  · exact key a b h1 hb hc
  · exact key b a h1 ha (clash_swap hc)
end
end

section
open Go.RowKit

section
variable {S : Type} [DecidableEq S]
/-- All that can be come to, gone through: what is still to be looked at, what is known. -/
def goK (nx : S → List S) : Nat → List S → List S → List S
  | 0, _, k => k
  | _ + 1, [], k => k
  | f + 1, s :: r, k =>
    let new := (nx s).foldl (fun l t => if t ∈ k ∨ t ∈ l then l else l ++ [t]) []
    goK nx f (r ++ new) (k ++ new)
theorem new_mem {k : List S} : ∀ {l a : List S} {x : S}, x ∈ l.foldl (fun l t => if t ∈ k ∨ t ∈ l then l else l ++ [t]) a → x ∈ a ∨ x ∈ l
  | [], a, x, h => Or.inl h
  | b :: l, a, x, h => by
    rw [List.foldl_cons] at h
    rcases new_mem h with h1 | h1
    · split at h1
      · exact Or.inl h1
      · rw [List.mem_append] at h1
        rcases h1 with h1 | h1
        · exact Or.inl h1
        · rw [List.mem_singleton.mp h1]; exact Or.inr (by simp)
    · exact Or.inr (by simp [h1])
theorem go_reach {nx : S → List S} {s0 : S} : ∀ {f : Nat} {r k : List S}, (∀ s, s ∈ r → Rch nx s0 s) → (∀ s, s ∈ k → Rch nx s0 s) → ∀ s, s ∈ goK nx f r k → Rch nx s0 s
  | 0, _, _, _, h2 => h2
  | _ + 1, [], _, _, h2 => h2
  | f + 1, s :: r, k, h1, h2 => by
    have hn : ∀ x, x ∈ (nx s).foldl (fun l t => if t ∈ k ∨ t ∈ l then l else l ++ [t]) [] → Rch nx s0 x := fun x hx => by
      rcases new_mem hx with h | h
      · cases h
      · exact (h1 s (by simp)).step h
    refine go_reach (f := f) (fun x hx => ?_) (fun x hx => ?_)
    · rw [List.mem_append] at hx
      exact hx.elim (fun h => h1 x (by simp [h])) (hn x)
    · rw [List.mem_append] at hx
      exact hx.elim (h2 x) (hn x)
def closedK (nx : S → List S) (k : List S) : Bool := k.all fun s => (nx s).all fun t => decide (t ∈ k)
theorem nodup_of : ∀ l : List S, ∃ r : List S, r.Nodup ∧ (∀ x, x ∈ r ↔ x ∈ l) ∧ r.length ≤ l.length
  | [] => ⟨[], List.nodup_nil, fun _ => Iff.rfl, Nat.le_refl _⟩
  | a :: l => by
    obtain ⟨r, h1, h2, h3⟩ := nodup_of l
    by_cases h : a ∈ r
    · exact ⟨r, h1, fun x => by rw [h2, List.mem_cons]; exact ⟨Or.inr, fun e => e.elim (fun e => by rw [e]; exact (h2 a).mp h) id⟩, by simp; omega⟩
    · exact ⟨a :: r, List.nodup_cons.mpr ⟨h, h1⟩, fun x => by rw [List.mem_cons, List.mem_cons, h2], by simp; omega⟩
theorem go_more {nx : S → List S} {s : S} : ∀ {f : Nat} {r k : List S}, s ∈ k → s ∈ goK nx f r k
  | 0, _, _, h => h
  | _ + 1, [], _, h => h
  | f + 1, _ :: _, _, h => go_more (f := f) (List.mem_append.mpr (Or.inl h))
/-- What is told where all was gone through. -/
theorem told_of {nx : S → List S} {outs : S → List Oc} {s0 : S} {mx f : Nat} (hcl : closedK nx (goK nx f [s0] [s0]) = true) (hk : (goK nx f [s0] [s0]).length ≤ mx) : Told nx outs s0 mx false (((goK nx f [s0] [s0]).flatMap outs).foldr insO []) := by
  have hr : ∀ s, s ∈ goK nx f [s0] [s0] → Rch nx s0 s := go_reach (fun x hx => by rw [List.mem_singleton.mp hx]; exact .base) (fun x hx => by rw [List.mem_singleton.mp hx]; exact .base)
  have hall : ∀ s, Rch nx s0 s → s ∈ goK nx f [s0] [s0] := fun s hs => by
    induction hs with
    | base => exact go_more (by simp)
    | step _ ht ih =>
      unfold closedK at hcl
      rw [List.all_eq_true] at hcl
      have := hcl _ ih
      rw [List.all_eq_true] at this
      simpa using this _ ht
  obtain ⟨r, n1, n2, n3⟩ := nodup_of (goK nx f [s0] [s0])
  refine Or.inr ⟨rfl, ?_, fun o => ?_, r, n1, fun s => (n2 s).trans ⟨hr s, hall s⟩, by omega⟩
  · have : ∀ l : List Oc, SortedO (l.foldr insO []) := fun l => by
      induction l with
      | nil => exact List.Pairwise.nil
      | cons a l ih => exact sorted_insO ih
    exact this _
  · have : ∀ l : List Oc, o ∈ l.foldr insO [] ↔ o ∈ l := fun l => by
      induction l with
      | nil => exact Iff.rfl
      | cons a l ih => rw [List.foldr_cons, mem_insO, ih, List.mem_cons]
    rw [this, List.mem_flatMap]
    exact ⟨fun ⟨s, h1, h2⟩ => ⟨s, hr s h1, h2⟩, fun ⟨s, h1, h2⟩ => ⟨s, hall s h1, h2⟩⟩
end
end

section
open Go.RowKit

/-- Where no clash is told, the outcomes with stores that wait are those without. -/
theorem free_same {n : Nat} {L : Nat → Nat} {X : Nat → Nat → Nat → Int} {words : List Int} {lk rg : Nat} {a b : List Oc} {mx : Nat} (hc : COk n L X words.length lk rg) (hz : ToldC L X (beginX n words lk rg) []) (ha : Told (nxX L X 0) (outsX L X 0) (beginX n words lk rg) mx false a) (hb : Told (nxX L X 1) (outsX L X 1) (beginX n words lk rg) mx false b) : a = b := by
  rcases ha with ⟨e, _⟩ | ⟨_, sa, ma, _⟩
  · cases e
  rcases hb with ⟨e, _⟩ | ⟨_, sb, mb, _⟩
  · cases e
  refine sorted_same sa sb fun o => ?_
  rw [ma, mb]
  have hwait : ∀ t, t < n → (thOf (beginX n words lk rg) t).wait = [] := fun t ht => by
    unfold thOf beginX
    simp [List.getD, ht]
  constructor
  · rintro ⟨s, h1, h2⟩
    exact ⟨s, reach_more begin_ok rfl hc h1, outs_more begin_ok rfl hc h1 h2⟩
  · rintro ⟨s, h1, h2⟩
    exact race_free begin_ok rfl hwait LkI.begin hc (by decide) (toldC_none hz fun s hs => (reach_ok begin_ok rfl hc (Int.le_refl _) hs).1.ths) h1 h2
/-- The clashes of a state, gone through. -/
def clsL (L : Nat → Nat) (X : Nat → Nat → Nat → Int) (s : Sx) : List (List Int) := (List.range s.ths.length).flatMap fun b => (List.range b).flatMap fun a => (clP L X s a b).toList
theorem mem_clsL {L : Nat → Nat} {X : Nat → Nat → Nat → Int} {s : Sx} {c : List Int} : c ∈ clsL L X s ↔ ClsX L X s c := by
  unfold clsL ClsX
  simp only [List.mem_flatMap, List.mem_range, Option.mem_toList]
  exact ⟨fun ⟨b, h1, a, h2, h3⟩ => ⟨a, b, h2, h1, h3⟩, fun ⟨a, b, h2, h1, h3⟩ => ⟨b, h1, a, h2, h3⟩⟩
/-- What clashes are told where all was gone through. -/
theorem toldC_of {L : Nat → Nat} {X : Nat → Nat → Nat → Int} {s0 : Sx} {f : Nat} (hcl : closedK (nxX L X 0) (goK (nxX L X 0) f [s0] [s0]) = true) : ToldC L X s0 (((goK (nxX L X 0) f [s0] [s0]).flatMap (clsL L X)).foldr insL []) := by
  have hr : ∀ s, s ∈ goK (nxX L X 0) f [s0] [s0] → Rch (nxX L X 0) s0 s := go_reach (fun x hx => by rw [List.mem_singleton.mp hx]; exact .base) (fun x hx => by rw [List.mem_singleton.mp hx]; exact .base)
  have hall : ∀ s, Rch (nxX L X 0) s0 s → s ∈ goK (nxX L X 0) f [s0] [s0] := fun s hs => by
    induction hs with
    | base => exact go_more (by simp)
    | step _ ht ih =>
      unfold closedK at hcl
      rw [List.all_eq_true] at hcl
      have := hcl _ ih
      rw [List.all_eq_true] at this
      simpa using this _ ht
  refine ⟨?_, fun c => ?_⟩
  · have : ∀ l : List (List Int), SortedL (l.foldr insL []) := fun l => by
      induction l with
      | nil => exact List.Pairwise.nil
      | cons a l ih => exact sorted_insL ih
    exact this _
  · have : ∀ l : List (List Int), c ∈ l.foldr insL [] ↔ c ∈ l := fun l => by
      induction l with
      | nil => exact Iff.rfl
      | cons a l ih => rw [List.foldr_cons, mem_insL, ih, List.mem_cons]
    rw [this, List.mem_flatMap]
    exact ⟨fun ⟨s, h1, h2⟩ => ⟨s, hr s h1, mem_clsL.mp h2⟩, fun ⟨s, h1, h2⟩ => ⟨s, hall s h1, mem_clsL.mpr h2⟩⟩
/-- One thread stores, one loads. -/
def litL : Nat → Nat := fun _ => 1
def litX : Nat → Nat → Nat → Int := fun t _ q => if q = 0 then (if t = 0 then 9 else 8) else 0
def litS : List Sx := goK (nxX litL litX 0) 100 [beginX 2 [0] 0 1] [beginX 2 [0] 0 1]
theorem lit_len : litS.length ≤ 4000 ∧ ((litS.flatMap (clsL litL litX)).foldr insL []).length = 1 := by decide +kernel
theorem lit_closed : closedK (nxX litL litX 0) (goK (nxX litL litX 0) 100 [beginX 2 [0] 0 1] [beginX 2 [0] 0 1]) = true := by decide +kernel
/-- How many states they come to, and their clash. -/
theorem lit_told : Told (nxX litL litX 0) (fun _ => []) (beginX 2 [0] 0 1) 4000 false ((litS.flatMap fun _ => []).foldr insO []) :=
  told_of (f := 100) lit_closed (by have := lit_len.1; unfold litS at this; exact this)
theorem lit_one {full : Bool} {l : List (List Int)} (h1 : Told (nxX litL litX 0) (fun _ => []) (beginX 2 [0] 0 1) 4000 full []) (h2 : full = false → ToldC litL litX (beginX 2 [0] 0 1) l) : full = false ∧ l.length = 1 := by
  obtain ⟨e, _⟩ := told_same h1 lit_told
  refine ⟨e, ?_⟩
  have := toldC_same (h2 e) (toldC_of lit_closed)
  rw [this]
  exact lit_len.2
theorem lit_chk : chk 2 litL litX 1 0 1 = (0, 0, 0) := by decide +kernel
end

end Go.Proofs.YtipdnfpomdcenacGreatDoor
