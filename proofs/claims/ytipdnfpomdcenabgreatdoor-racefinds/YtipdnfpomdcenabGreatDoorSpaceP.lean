/-
  A state's numbers, by the document and by the program, tell it; what a state becomes, what runs come to.
  What holds of all that can be come to; what a run comes to is one of the outcomes; each outcome without stores that wait is one with them: plain functions.
  Without clashes what waits cannot be seen: what waits, and the states without it that go with a state with it. Plain functions.
  States that are gone through one behind the other: plain functions.
  A text of numbers tells them; numbers of a run fit: plain functions.
-/
import Derived.Test.YtipdnfpomdcenabGreatDoorSOk
import Derived.Test.YtipdnfpomdcenabGreatDoorWorkP
import Derived.Test.YtipdnfpomdcenabGreatDoorRDoW
import Derived.Test.YtipdnfpomdcenabGreatDoorRLk
import Derived.Lib.ItoaNum
import Derived.Lib.ItoaLen
namespace Go.Proofs.YtipdnfpomdcenabGreatDoor
section
open Go.RowKit

/-! A state's numbers. -/
/-- All that a thread is, by the document. -/
def numW (x : Wt) : List Int := [bitI x.lk, x.wh, x.what]
def numT (h : Th) : List Int := [(h.pc : Int), (h.wait.length : Int)] ++ h.regs ++ h.wait.flatMap numW
def numsX (s : Sx) : List Int := s.ths.flatMap numT ++ s.words ++ s.own ++ s.prints
theorem numW_inj {x y : Wt} (h : numW x = numW y) : x = y := by
  cases x with
  | mk a b c =>
    cases y with
    | mk a' b' c' =>
      simp only [numW, List.cons.injEq, and_true] at h
      obtain ⟨h1, rfl, rfl⟩ := h
      cases a <;> cases a' <;> first | rfl | cases h1
theorem flat_inj {f : Wt → List Int} {k : Nat} {Q : Wt → Prop} (hk : ∀ x, (f x).length = k) (hf : ∀ x y, Q x → Q y → f x = f y → x = y) : ∀ {l r : List Wt} {u v : List Int}, l.length = r.length → (∀ x, x ∈ l → Q x) → (∀ x, x ∈ r → Q x) → l.flatMap f ++ u = r.flatMap f ++ v → l = r ∧ u = v
  | [], [], _, _, _, _, _, h => ⟨rfl, h⟩
  | a :: l, b :: r, u, v, hl, h1, h2, h => by
    rw [List.flatMap_cons, List.flatMap_cons, List.append_assoc, List.append_assoc] at h
    obtain ⟨e1, e2⟩ := List.append_inj h (by rw [hk, hk])
    obtain ⟨e3, e4⟩ := flat_inj hk hf (by simpa using hl) (fun x hx => h1 x (by simp [hx])) (fun x hx => h2 x (by simp [hx])) e2
    rw [hf _ _ (h1 a (by simp)) (h2 b (by simp)) e1, e3]
    exact ⟨rfl, e4⟩
theorem numT_inj {a b : Th} {u v : List Int} (hr : a.regs.length = b.regs.length) (h : numT a ++ u = numT b ++ v) : a = b ∧ u = v := by
  cases a with
  | mk pa ra wa =>
    cases b with
    | mk pb rb wb =>
      simp only [numT, List.append_assoc, List.cons_append, List.nil_append, List.cons.injEq] at h
      obtain ⟨h1, h2, h3⟩ := h
      obtain ⟨e1, e2⟩ := List.append_inj h3 hr
      obtain ⟨e3, e4⟩ := flat_inj (k := 3) (Q := fun _ => True) (fun _ => rfl) (fun _ _ _ _ => numW_inj) (by omega) (fun _ _ => trivial) (fun _ _ => trivial) e2
      subst e1 e3
      exact ⟨by rw [show pa = pb by omega], e4⟩
theorem nums_ths : ∀ {l r : List Th} {u v : List Int} {rg : Nat}, l.length = r.length → (∀ x, x ∈ l → x.regs.length = rg) → (∀ x, x ∈ r → x.regs.length = rg) → l.flatMap numT ++ u = r.flatMap numT ++ v → l = r ∧ u = v
  | [], [], _, _, _, _, _, _, h => ⟨rfl, h⟩
  | a :: l, b :: r, u, v, rg, hl, h1, h2, h => by
    rw [List.flatMap_cons, List.flatMap_cons, List.append_assoc, List.append_assoc] at h
    obtain ⟨e1, e2⟩ := numT_inj (by rw [h1 a (by simp), h2 b (by simp)]) h
    obtain ⟨e3, e4⟩ := nums_ths (rg := rg) (by simpa using hl) (fun x hx => h1 x (by simp [hx])) (fun x hx => h2 x (by simp [hx])) e2
    rw [e1, e3]
    exact ⟨rfl, e4⟩
theorem SOk.mem {n : Nat} {L : Nat → Nat} {m lk rg : Nat} {mode : Int} {s : Sx} (h : SOk n L m lk rg mode s) {x : Th} (hx : x ∈ s.ths) : ∃ t, t < n ∧ thOf s t = x := by
  obtain ⟨t, ht, e⟩ := List.getElem_of_mem hx
  exact ⟨t, by rw [← h.ths]; exact ht, by unfold thOf; rw [List.getD_eq_getElem?_getD, List.getElem?_eq_getElem ht]; exact e⟩
/-- Two states of a program are the same where their numbers are. -/
theorem nums_inj {n : Nat} {L : Nat → Nat} {m lk rg : Nat} {mode : Int} {s r : Sx} (h1 : SOk n L m lk rg mode s) (h2 : SOk n L m lk rg mode r) (hf : s.fell = r.fell) (h : numsX s = numsX r) : s = r := by
  unfold numsX at h
  simp only [List.append_assoc] at h
  obtain ⟨e1, e2⟩ := nums_ths (rg := rg) (by rw [h1.ths, h2.ths]) (fun x hx => by obtain ⟨t, ht, rfl⟩ := h1.mem hx; exact h1.regs t ht) (fun x hx => by obtain ⟨t, ht, rfl⟩ := h2.mem hx; exact h2.regs t ht) h
  obtain ⟨e3, e4⟩ := List.append_inj e2 (by rw [h1.words, h2.words])
  obtain ⟨e5, e6⟩ := List.append_inj e4 (by rw [h1.own, h2.own])
  cases s; cases r
  simp only at e1 e3 e5 e6 hf
  subst e1 e3 e5 e6 hf
  rfl
/-- All that a thread is, by the program; what waits of it. -/
def telT (h : Th) : List Int := [(h.pc : Int)] ++ h.regs
def telW (x : Wt) : List Int := [if x.lk then -1 - x.wh else x.wh, x.what]
def telB (h : Th) : List Int := [(h.wait.length : Int)] ++ h.wait.flatMap telW
def telM (mode : Int) (s : Sx) : List Int := s.words ++ s.own ++ (if 0 < mode then s.ths.flatMap telB else [])
def telX (mode : Int) (s : Sx) : List Int := s.ths.flatMap telT ++ telM mode s ++ s.prints
theorem telW_inj {x y : Wt} (hx : 0 ≤ x.wh) (hy : 0 ≤ y.wh) (h : telW x = telW y) : x = y := by
  cases x with
  | mk a b c =>
    cases y with
    | mk a' b' c' =>
      simp only [telW, List.cons.injEq, and_true] at h
      obtain ⟨h1, rfl⟩ := h
      simp only at hx hy
      cases a <;> cases a' <;> simp only [if_true, Bool.false_eq_true, if_false] at h1
      · rw [h1]
      · omega
      · omega
      · rw [show b = b' by omega]
theorem tel_ths : ∀ {l r : List Th} {u v : List Int} {rg : Nat}, l.length = r.length → (∀ x, x ∈ l → x.regs.length = rg) → (∀ x, x ∈ r → x.regs.length = rg) → l.flatMap telT ++ u = r.flatMap telT ++ v → (l.map fun x => (x.pc, x.regs)) = (r.map fun x => (x.pc, x.regs)) ∧ u = v
  | [], [], _, _, _, _, _, _, h => ⟨rfl, h⟩
  | a :: l, b :: r, u, v, rg, hl, h1, h2, h => by
    rw [List.flatMap_cons, List.flatMap_cons, List.append_assoc, List.append_assoc] at h
    obtain ⟨e1, e2⟩ := List.append_inj h (by simp [telT, h1 a (by simp), h2 b (by simp)])
    simp only [telT, List.cons_append, List.nil_append, List.cons.injEq] at e1
    obtain ⟨e3, e4⟩ := tel_ths (rg := rg) (by simpa using hl) (fun x hx => h1 x (by simp [hx])) (fun x hx => h2 x (by simp [hx])) e2
    refine ⟨?_, e4⟩
    rw [List.map_cons, List.map_cons, e3, show a.pc = b.pc by omega, e1.2]
theorem tel_buf : ∀ {l r : List Th} {u v : List Int}, l.length = r.length → (∀ x, x ∈ l → ∀ y, y ∈ x.wait → 0 ≤ y.wh) → (∀ x, x ∈ r → ∀ y, y ∈ x.wait → 0 ≤ y.wh) → l.flatMap telB ++ u = r.flatMap telB ++ v → (l.map fun x => x.wait) = (r.map fun x => x.wait) ∧ u = v
  | [], [], _, _, _, _, _, h => ⟨rfl, h⟩
  | a :: l, b :: r, u, v, hl, h1, h2, h => by
    rw [List.flatMap_cons, List.flatMap_cons, List.append_assoc, List.append_assoc] at h
    simp only [telB, List.cons_append, List.nil_append, List.cons.injEq] at h
    obtain ⟨e0, h⟩ := h
    obtain ⟨e1, e2⟩ := flat_inj (k := 2) (Q := fun y => 0 ≤ y.wh) (fun _ => rfl) (fun _ _ h1 h2 => telW_inj h1 h2) (by omega) (h1 a (by simp)) (h2 b (by simp)) h
    obtain ⟨e3, e4⟩ := tel_buf (by simpa using hl) (fun x hx => h1 x (by simp [hx])) (fun x hx => h2 x (by simp [hx])) e2
    exact ⟨by rw [List.map_cons, List.map_cons, e1, e3], e4⟩
theorem ths_eq : ∀ {l r : List Th}, (l.map fun x => (x.pc, x.regs)) = (r.map fun x => (x.pc, x.regs)) → (l.map fun x => x.wait) = (r.map fun x => x.wait) → l = r
  | [], [], _, _ => rfl
  | [], _ :: _, h, _ => by cases h
  | _ :: _, [], h, _ => by cases h
  | a :: l, b :: r, h1, h2 => by
    simp only [List.map_cons, List.cons.injEq, Prod.mk.injEq] at h1 h2
    rw [ths_eq h1.2 h2.2]
    cases a; cases b
    simp only at h1 h2
    rw [h1.1.1, h1.1.2, h2.1]
/-- Two states of a program are the same where what they tell is. -/
theorem tel_inj {n : Nat} {L : Nat → Nat} {m lk rg : Nat} {mode : Int} {s r : Sx} (h1 : SOk n L m lk rg mode s) (h2 : SOk n L m lk rg mode r) (hm : 0 ≤ mode) (hf : s.fell = r.fell) (h : telX mode s = telX mode r) : s = r := by
  unfold telX telM at h
  simp only [List.append_assoc] at h
  obtain ⟨e1, e2⟩ := tel_ths (rg := rg) (by rw [h1.ths, h2.ths]) (fun x hx => by obtain ⟨t, ht, rfl⟩ := h1.mem hx; exact h1.regs t ht) (fun x hx => by obtain ⟨t, ht, rfl⟩ := h2.mem hx; exact h2.regs t ht) h
  obtain ⟨e3, e4⟩ := List.append_inj e2 (by rw [h1.words, h2.words])
  obtain ⟨e5, e6⟩ := List.append_inj e4 (by rw [h1.own, h2.own])
  have ew : (s.ths.map fun x => x.wait) = (r.ths.map fun x => x.wait) ∧ s.prints = r.prints := by
    by_cases h0 : 0 < mode
    · rw [if_pos h0, if_pos h0] at e6
      exact tel_buf (by rw [h1.ths, h2.ths]) (fun x hx y hy => by obtain ⟨t, ht, rfl⟩ := h1.mem hx; exact (h1.wok t ht y hy).1.1) (fun x hx y hy => by obtain ⟨t, ht, rfl⟩ := h2.mem hx; exact (h2.wok t ht y hy).1.1) e6
    · rw [if_neg h0, if_neg h0] at e6
      have hz : mode = 0 := by omega
      have e : ∀ (q : Sx), SOk n L m lk rg mode q → (q.ths.map fun x => x.wait) = List.replicate n [] := fun q hq => by
        rw [List.eq_replicate_iff]
        refine ⟨by rw [List.length_map, hq.ths], fun b hb => ?_⟩
        obtain ⟨x, hx, rfl⟩ := List.mem_map.mp hb
        obtain ⟨t, ht, rfl⟩ := hq.mem hx
        exact hq.bare hz t ht
      exact ⟨by rw [e s h1, e r h2], by simpa using e6⟩
  have et := ths_eq e1 ew.1
  have ep := ew.2
  cases s; cases r
  simp only at et e3 e5 ep hf
  subst et e3 e5 ep hf
  rfl

/-! What a state becomes; what runs come to. -/
section
variable (L : Nat → Nat) (X : Nat → Nat → Nat → Int) (mode : Int)
def nxX (s : Sx) : List Sx := (movesX L X mode s).filterMap fun mv => if (doX X mode s mv.toNat).fell then none else some (doX X mode s mv.toNat)
def outsX (s : Sx) : List Oc :=
  (if movesX L X mode s = [] then [⟨if endedX L s then 0 else 2, s.words, s.prints⟩] else []) ++
    (movesX L X mode s).filterMap fun mv => if (doX X mode s mv.toNat).fell then some ⟨1, [], (doX X mode s mv.toNat).prints⟩ else none
end
end

section
open Go.RowKit

section
variable {n : Nat} {L : Nat → Nat} {X : Nat → Nat → Nat → Int} {m lk rg : Nat} {mode : Int}
theorem moves_ended {s : Sx} (h : endedX L s = true) : movesX L X mode s = [] := by
  unfold movesX
  rw [List.flatMap_eq_nil_iff]
  intro t ht
  unfold endedX at h
  rw [List.all_eq_true] at h
  have h1 := h t ht
  rw [Bool.and_eq_true] at h1
  have hw : (thOf s t).wait = [] := List.isEmpty_iff.mp h1.2
  unfold movesT
  rw [hw]
  have ha : ableT L X s t = false := by unfold ableT; rw [if_pos h1.1]
  rw [ha]
  rfl
/-- What a move makes of a state that may be. -/
theorem move_ok {s : Sx} (h : SOk n L m lk rg mode s) (hc : COk n L X m lk rg) (hm : 0 ≤ mode) {mv : Int} (hmv : mv ∈ movesX L X mode s) : SOk n L m lk rg mode (doX X mode s mv.toNat) := by
  rcases movesX_mem hmv with ⟨t, ht, rfl, ha⟩ | ⟨t, k, ht, hk, rfl, _⟩
  · rw [show (8 * (t : Int)).toNat = 8 * t by omega]
    exact h.step hc hm (by rw [← h.ths]; exact ht) ha
  · rw [show (8 * (t : Int) + (k : Int) + 1).toNat = 8 * t + k + 1 by omega]
    exact h.wait (by rw [← h.ths]; exact ht) hk
theorem mem_nx {s t : Sx} : t ∈ nxX L X mode s ↔ ∃ mv, mv ∈ movesX L X mode s ∧ doX X mode s mv.toNat = t ∧ t.fell = false := by
  unfold nxX
  rw [List.mem_filterMap]
  constructor
  · rintro ⟨mv, h1, h2⟩
    cases hf : (doX X mode s mv.toNat).fell with
    | true => rw [hf] at h2; cases h2
    | false =>
      rw [hf] at h2
      have e : doX X mode s mv.toNat = t := Option.some.inj h2
      exact ⟨mv, h1, e, by rw [← e]; exact hf⟩
  · rintro ⟨mv, h1, h2, h3⟩
    exact ⟨mv, h1, by rw [h2, h3]; rfl⟩
end
section
variable {n : Nat} {L : Nat → Nat} {X : Nat → Nat → Nat → Int} {m lk rg : Nat}
end
end

section
open Go.RowKit

/-! What waits, and what it makes of words and locks. -/
/-! Those that were put into a buffer; some of them are done already. -/
/-- The word that a thread's next order touches, and whether it only stores there. -/
def twX (X : Nat → Nat → Nat → Int) (s : Sx) (t : Nat) : Option (Int × Bool) :=
  if opT X s t 0 = 8 then some (opT X s t 2, false)
  else if opT X s t 0 = 9 then some (opT X s t 1, true)
  else if opT X s t 0 = 10 then some (getR s t (opT X s t 2), false)
  else if opT X s t 0 = 11 then some (getR s t (opT X s t 1), true)
  else if opT X s t 0 = 13 then some (opT X s t 1, false)
  else none
section
variable {n m lk rg : Nat} {L : Nat → Nat} {X : Nat → Nat → Nat → Int} {mode : Int} {s0 s : Sx} {B : List Int} {g : Nat → List (Wt × Bool)}
theorem ok_lt {s : Sx} (hc : COk n L X m lk rg) {t : Nat} (ht : t < n) (ha : ableT L X s t = true) : ordE rg m lk (L t) (opT X s t 0) (opT X s t 1) (opT X s t 2) (opT X s t 3) = 0 := hc.ord t _ ht (able_lt ha)
end
section
variable {n m lk rg : Nat} {L : Nat → Nat} {X : Nat → Nat → Nat → Int} {mode : Int} {s0 s A : Sx} {B : List Int} {I : Nat → List Wt} {u : Nat}
end
end

section
open Go.RowKit

section
variable {S : Type} {nx : S → List S} {outs : S → List Oc} {s0 : S} {K : List S} {P P' : S → Prop} {E E' : Oc → Prop}
theorem Wk.begin : Wk nx outs s0 [s0] (fun _ => False) (fun _ => False) :=
  ⟨by simp, by simp, fun s h => by rw [List.mem_singleton.mp h]; exact .base, fun _ h => h.elim, fun _ h => h.elim, fun _ h => h.elim, fun _ h => h.elim⟩
theorem Wk.same (h : Wk nx outs s0 K P E) (hP : ∀ s, P' s ↔ P s) (hE : ∀ o, E' o ↔ E o) : Wk nx outs s0 K P' E' :=
  ⟨h.nodup, h.first, h.reach, fun s hs => h.known s ((hP s).1 hs), fun s hs => h.next s ((hP s).1 hs), fun o ho => h.ends o ((hE o).1 ho), fun s hs o ho => (hE o).2 (h.all s ((hP s).1 hs) o ho)⟩
/-- One state more. -/
theorem Wk.push (h : Wk nx outs s0 K P E) {x t : S} (hx : x ∈ K) (ht : t ∈ nx x) (hn : t ∉ K) : Wk nx outs s0 (K ++ [t]) P E where
  nodup := by
    rw [List.nodup_append]
    refine ⟨h.nodup, by simp, fun a ha b hb e => ?_⟩
    rw [List.mem_singleton.mp hb] at e
    exact hn (e ▸ ha)
  first := List.mem_append_left _ h.first
  reach s hs := by
    rcases List.mem_append.mp hs with hs | hs
    · exact h.reach s hs
    · rw [List.mem_singleton.mp hs]; exact .step (h.reach x hx) ht
  known s hs := List.mem_append_left _ (h.known s hs)
  next s hs t' ht' := List.mem_append_left _ (h.next s hs t' ht')
  ends := h.ends
  all := h.all
/-- One outcome more. -/
theorem Wk.out (h : Wk nx outs s0 K P E) {x : S} {o : Oc} (hx : x ∈ K) (ho : o ∈ outs x) (hE : ∀ y, E' y ↔ y = o ∨ E y) : Wk nx outs s0 K P E' :=
  ⟨h.nodup, h.first, h.reach, h.known, h.next, fun y hy => by
    rcases (hE y).1 hy with e | hy
    · rw [e]; exact ⟨x, h.reach x hx, ho⟩
    · exact h.ends y hy, fun s hs y hy => (hE y).2 (Or.inr (h.all s hs y hy))⟩
/-- One state has been gone through. -/
theorem Wk.gone (h : Wk nx outs s0 K P E) {x : S} (hx : x ∈ K) (hn : ∀ t, t ∈ nx x → t ∈ K) (ho : ∀ o, o ∈ outs x → E o) (hP : ∀ s, P' s → s = x ∨ P s) : Wk nx outs s0 K P' E :=
  ⟨h.nodup, h.first, h.reach, fun s hs => by
    rcases hP s hs with e | hs
    · rw [e]; exact hx
    · exact h.known s hs, fun s hs => by
    rcases hP s hs with e | hs
    · rw [e]; exact hn
    · exact h.next s hs, h.ends, fun s hs => by
    rcases hP s hs with e | hs
    · rw [e]; exact ho
    · exact h.all s hs⟩
end
section
variable {L : Nat → Nat} {X : Nat → Nat → Nat → Int} {mode : Int} {s : Sx}
theorem nx_none (h : movesX L X mode s = []) : nxX L X mode s = [] := by unfold nxX; rw [h]; rfl
theorem outs_none (h : movesX L X mode s = []) : outsX L X mode s = [⟨if endedX L s then 0 else 2, s.words, s.prints⟩] := by
  unfold outsX
  rw [h]
  rfl
/-- What was made of the first k moves. -/
def Mvd (L : Nat → Nat) (X : Nat → Nat → Nat → Int) (mode : Int) (s : Sx) (K : List Sx) (E : Oc → Prop) (k : Nat) : Prop :=
  ∀ j, j < k → ((doX X mode s ((movesX L X mode s).getD j 0).toNat).fell = true → E ⟨1, [], (doX X mode s ((movesX L X mode s).getD j 0).toNat).prints⟩) ∧ ((doX X mode s ((movesX L X mode s).getD j 0).toNat).fell = false → doX X mode s ((movesX L X mode s).getD j 0).toNat ∈ K)
theorem Mvd.next {K K' : List Sx} {E E' : Oc → Prop} {k : Nat} (h : Mvd L X mode s K E k) (hK : ∀ t, t ∈ K → t ∈ K') (hE : ∀ o, E o → E' o) (h1 : (doX X mode s ((movesX L X mode s).getD k 0).toNat).fell = true → E' ⟨1, [], (doX X mode s ((movesX L X mode s).getD k 0).toNat).prints⟩) (h2 : (doX X mode s ((movesX L X mode s).getD k 0).toNat).fell = false → doX X mode s ((movesX L X mode s).getD k 0).toNat ∈ K') : Mvd L X mode s K' E' (k + 1) := fun j hj => by
  rcases Nat.lt_or_ge j k with h3 | h3
  · exact ⟨fun hf => hE _ ((h j h3).1 hf), fun hf => hK _ ((h j h3).2 hf)⟩
  · obtain rfl : j = k := by omega
    exact ⟨h1, h2⟩
theorem mv_getD {l : List Int} {mv : Int} (h : mv ∈ l) : ∃ j, j < l.length ∧ l.getD j 0 = mv := by
  obtain ⟨j, hj, e⟩ := List.getElem_of_mem h
  exact ⟨j, hj, by rw [List.getD_eq_getElem?_getD, List.getElem?_eq_getElem hj]; exact e⟩
theorem getD_mv {l : List Int} {j : Nat} (h : j < l.length) : l.getD j 0 ∈ l := by
  rw [List.getD_eq_getElem?_getD, List.getElem?_eq_getElem h]
  exact List.getElem_mem h
theorem Mvd.nx {K : List Sx} {E : Oc → Prop} (h : Mvd L X mode s K E (movesX L X mode s).length) {t : Sx} (ht : t ∈ nxX L X mode s) : t ∈ K := by
  obtain ⟨mv, h1, h2, h3⟩ := mem_nx.mp ht
  obtain ⟨j, hj, rfl⟩ := mv_getD h1
  rw [← h2] at h3 ⊢
  exact (h j hj).2 h3
theorem Mvd.outs {K : List Sx} {E : Oc → Prop} (h : Mvd L X mode s K E (movesX L X mode s).length) (hm : movesX L X mode s ≠ []) {o : Oc} (ho : o ∈ outsX L X mode s) : E o := by
  unfold outsX at ho
  rw [if_neg hm, List.nil_append] at ho
  obtain ⟨mv, h1, h2⟩ := List.mem_filterMap.mp ho
  obtain ⟨j, hj, rfl⟩ := mv_getD h1
  cases hf : (doX X mode s ((movesX L X mode s).getD j 0).toNat).fell with
  | false => rw [hf] at h2; cases h2
  | true =>
    rw [hf] at h2
    rw [← Option.some.inj h2]
    exact (h j hj).1 hf
theorem fell_out {mv : Int} (h : mv ∈ movesX L X mode s) (hf : (doX X mode s mv.toNat).fell = true) : (⟨1, [], (doX X mode s mv.toNat).prints⟩ : Oc) ∈ outsX L X mode s := by
  unfold outsX
  refine List.mem_append_right _ (List.mem_filterMap.mpr ⟨mv, h, ?_⟩)
  rw [hf]
  rfl
end
end

section
open Go.RowKit

/-! A text of numbers. -/
def valD (l : List UInt8) : Nat := l.foldl (fun a c => a * 10 + (c.toNat - 48)) 0
theorem valD_snoc (l : List UInt8) (c : UInt8) : valD (l ++ [c]) = valD l * 10 + (c.toNat - 48) := by simp [valD, List.foldl_append]
theorem decD_ok : ∀ (n u : Nat), u ≤ n → (∀ c, c ∈ Lib.decDigits u → 48 ≤ c.toNat ∧ c.toNat ≤ 57) ∧ valD (Lib.decDigits u) = u := by
  intro n
  have hd : ∀ d : Nat, d < 10 → (UInt8.ofNat (48 + d)).toNat = 48 + d := by decide
  induction n with
  | zero =>
    intro u h
    obtain rfl : u = 0 := by omega
    rw [Lib.decDigits, dif_pos (by omega)]
    exact ⟨fun c hc => by rw [List.mem_singleton.mp hc, hd 0 (by omega)]; omega, rfl⟩
  | succ n ih =>
    intro u h
    rw [Lib.decDigits]
    split
    · rename_i h1
      refine ⟨fun c hc => by rw [List.mem_singleton.mp hc, hd u h1]; omega, ?_⟩
      show 0 * 10 + ((UInt8.ofNat (48 + u)).toNat - 48) = u
      rw [hd u h1]; omega
    · rename_i h1
      obtain ⟨a1, a2⟩ := ih (u / 10) (by omega)
      refine ⟨fun c hc => ?_, ?_⟩
      · rcases List.mem_append.mp hc with hc | hc
        · exact a1 c hc
        · rw [List.mem_singleton.mp hc, hd (u % 10) (by omega)]; omega
      · rw [valD_snoc, a2, hd (u % 10) (by omega)]; omega
theorem decD_inj {u v : Nat} (h : Lib.decDigits u = Lib.decDigits v) : u = v := by
  rw [← (decD_ok _ u (Nat.le_refl _)).2, ← (decD_ok _ v (Nat.le_refl _)).2, h]
theorem itoa_mem {n : Int} {c : UInt8} (h : c ∈ Lib.itoa n) : c ≠ 32 := by
  have key : ∀ u, c ∈ Lib.decDigits u → c ≠ 32 := fun u hc e => by
    have := (decD_ok _ u (Nat.le_refl _)).1 c hc
    rw [e] at this
    exact absurd this.1 (by decide)
  unfold Lib.itoa at h
  split at h
  · rcases List.mem_cons.mp h with e | h
    · rw [e]; decide
    · exact key _ h
  · exact key _ h
theorem dec_not_neg {u : Nat} {r : List UInt8} (h : Lib.decDigits u = 45 :: r) : False := by
  have := (decD_ok _ u (Nat.le_refl _)).1 45 (by rw [h]; simp)
  exact absurd this.1 (by decide)
theorem itoa_inj {a b : Int} (h : Lib.itoa a = Lib.itoa b) : a = b := by
  unfold Lib.itoa at h
  split at h
  · split at h
    · have := decD_inj (List.cons.inj h).2
      omega
    · exact (dec_not_neg h.symm).elim
  · split at h
    · exact (dec_not_neg h).elim
    · have := decD_inj h
      omega
/-- Numbers as text: each with a blank behind it. -/
def textT (xs : List Int) : List UInt8 := xs.flatMap fun n => Lib.itoa n ++ [32]
theorem textT_snoc (xs : List Int) (n : Int) : textT (xs ++ [n]) = textT xs ++ (Lib.itoa n ++ [32]) := by simp [textT]
theorem cut_blank : ∀ {l l' r r' : List UInt8}, (∀ c, c ∈ l → c ≠ 32) → (∀ c, c ∈ l' → c ≠ 32) → l ++ 32 :: r = l' ++ 32 :: r' → l = l' ∧ r = r'
  | [], [], _, _, _, _, h => ⟨rfl, (List.cons.inj h).2⟩
  | [], b :: l', _, _, _, h2, h => absurd (List.cons.inj h).1.symm (h2 b (by simp))
  | a :: l, [], _, _, h1, _, h => absurd (List.cons.inj h).1 (h1 a (by simp))
  | a :: l, b :: l', r, r', h1, h2, h => by
    have h3 := List.cons.inj h
    obtain ⟨h4, h5⟩ := cut_blank (fun c hc => h1 c (by simp [hc])) (fun c hc => h2 c (by simp [hc])) h3.2
    exact ⟨by rw [h3.1, h4], h5⟩
theorem textT_inj : ∀ {xs ys : List Int}, textT xs = textT ys → xs = ys
  | [], [], _ => rfl
  | [], b :: ys, h => by
    have : (textT (b :: ys)).length = 0 := by rw [← h]; rfl
    simp [textT] at this
  | a :: xs, [], h => by
    have : (textT (a :: xs)).length = 0 := by rw [h]; rfl
    simp [textT] at this
  | a :: xs, b :: ys, h => by
    have e : ∀ (n : Int) (l : List Int), textT (n :: l) = Lib.itoa n ++ 32 :: textT l := fun n l => by simp [textT]
    rw [e, e] at h
    obtain ⟨h1, h2⟩ := cut_blank (fun c hc => itoa_mem hc) (fun c hc => itoa_mem hc) h
    rw [itoa_inj h1, textT_inj h2]
/-- A number that an int can hold. -/
def I64n (x : Int) : Prop := -9223372036854775808 ≤ x ∧ x ≤ 9223372036854775807
theorem textT_len : ∀ {xs : List Int}, (∀ x, x ∈ xs → I64n x) → (textT xs).length ≤ 22 * xs.length
  | [], _ => Nat.zero_le _
  | a :: xs, h => by
    have h1 := Lib.itoa_length_le a (h a (by simp)).1 (h a (by simp)).2
    have h2 := textT_len (xs := xs) (fun x hx => h x (by simp [hx]))
    have e : textT (a :: xs) = Lib.itoa a ++ 32 :: textT xs := by simp [textT]
    rw [e]
    simp only [List.length_append, List.length_cons]
    omega

/-! Numbers of a run fit. -/
structure VOk (s : Sx) : Prop where
  regs : ∀ h, h ∈ s.ths → ∀ x, x ∈ h.regs → I64n x
  wait : ∀ h, h ∈ s.ths → ∀ x, x ∈ h.wait → I64n x.what
  words : ∀ x, x ∈ s.words → I64n x
  own : ∀ x, x ∈ s.own → I64n x
  prints : ∀ x, x ∈ s.prints → I64n x
theorem i64_wrap (x : Int) : I64n (IntKind.i64.wrap x) := by
  rw [IntKind.wrap_i64]
  unfold I64n
  omega
theorem i64_getD {l : List Int} (h : ∀ x, x ∈ l → I64n x) (k : Nat) : I64n (l.getD k 0) := by
  rw [List.getD_eq_getElem?_getD]
  cases e : l[k]? with
  | none => exact ⟨by decide, by decide⟩
  | some y => exact h y (List.mem_of_getElem? e)
theorem i64_set {l : List Int} (h : ∀ x, x ∈ l → I64n x) {k : Nat} {v : Int} (hv : I64n v) : ∀ x, x ∈ l.set k v → I64n x := fun x hx => by
  rcases List.mem_or_eq_of_mem_set hx with hx | rfl
  · exact h x hx
  · exact hv
section
variable {s : Sx} {t : Nat}
theorem VOk.th (h : VOk s) {x : Th} (hr : ∀ y, y ∈ x.regs → I64n y) (hw : ∀ y, y ∈ x.wait → I64n y.what) : VOk (setTh s t x) := by
  refine ⟨fun g hg => ?_, fun g hg => ?_, h.words, h.own, h.prints⟩
  · rcases List.mem_or_eq_of_mem_set hg with hg | rfl
    · exact h.regs g hg
    · exact hr
  · rcases List.mem_or_eq_of_mem_set hg with hg | rfl
    · exact h.wait g hg
    · exact hw
theorem thOf_mem (ht : t < s.ths.length) : thOf s t ∈ s.ths := by
  unfold thOf
  rw [List.getD_eq_getElem?_getD, List.getElem?_eq_getElem ht]
  exact List.getElem_mem ht
theorem VOk.getR (h : VOk s) (ht : t < s.ths.length) (r : Int) : I64n (getR s t r) := i64_getD (h.regs _ (thOf_mem ht)) _
theorem VOk.setR (h : VOk s) (ht : t < s.ths.length) (r : Int) {v : Int} (hv : I64n v) : VOk (setR s t r v) := h.th (i64_set (h.regs _ (thOf_mem ht)) hv) (fun y hy => h.wait (thOf s t) (thOf_mem ht) y hy)
theorem VOk.pc (h : VOk s) (ht : t < s.ths.length) (k : Nat) : VOk (setTh s t { thOf s t with pc := k }) := h.th (fun y hy => h.regs (thOf s t) (thOf_mem ht) y hy) (fun y hy => h.wait (thOf s t) (thOf_mem ht) y hy)
theorem VOk.done (h : VOk s) {x : Wt} (hx : I64n x.what) : VOk (doneW s x) := by
  unfold doneW
  split
  · exact ⟨h.regs, h.wait, h.words, i64_set h.own ⟨by decide, by decide⟩, h.prints⟩
  · exact ⟨h.regs, h.wait, i64_set h.words hx, h.own, h.prints⟩
theorem VOk.store (h : VOk s) (ht : t < s.ths.length) (mode : Int) {x : Wt} (hx : I64n x.what) : VOk (storeW mode s t x) := by
  unfold storeW
  split
  · refine h.th (fun y hy => h.regs (thOf s t) (thOf_mem ht) y hy) (fun y hy => ?_)
    rcases List.mem_append.mp hy with hy | hy
    · exact h.wait _ (thOf_mem ht) y hy
    · rw [List.mem_singleton.mp hy]; exact hx
  · exact h.done hx
theorem VOk.finds (h : VOk s) (ht : t < s.ths.length) (wd : Int) : I64n (findsW s t wd) := by
  unfold findsW
  split
  · rename_i x hx
    exact h.wait _ (thOf_mem ht) x (by simpa using List.mem_of_find?_eq_some hx)
  · exact i64_getD h.words _
theorem i64_bit (b : Bool) : I64n (bitI b) := by cases b <;> exact ⟨by decide, by decide⟩
theorem VOk.order (h : VOk s) (ht : t < s.ths.length) (h4 : t < 4) (mode op a b c : Int) (hb : I64n b) : VOk (orderX mode s t op a b c) := by
  unfold orderX
  by_cases e : op = 1
  · rw [if_pos e]
    exact h.setR ht a hb
  rw [if_neg e]
  clear e
  by_cases e : op = 2
  · rw [if_pos e]
    exact h.setR ht a (h.getR ht b)
  rw [if_neg e]
  clear e
  by_cases e : op = 3
  · rw [if_pos e]
    exact h.setR ht a (i64_wrap _)
  rw [if_neg e]
  clear e
  by_cases e : op = 4
  · rw [if_pos e]
    exact h.setR ht a (i64_wrap _)
  rw [if_neg e]
  clear e
  by_cases e : op = 5
  · rw [if_pos e]
    exact h.setR ht a (i64_wrap _)
  rw [if_neg e]
  clear e
  by_cases e : op = 6
  · rw [if_pos e]
    exact h.setR ht a (i64_bit _)
  rw [if_neg e]
  clear e
  by_cases e : op = 7
  · rw [if_pos e]
    exact h.setR ht a (i64_bit _)
  rw [if_neg e]
  clear e
  by_cases e : op = 8
  · rw [if_pos e]
    exact h.setR ht a (h.finds ht b)
  rw [if_neg e]
  clear e
  by_cases e : op = 9
  · rw [if_pos e]
    exact h.store ht mode (h.getR ht b)
  rw [if_neg e]
  clear e
  by_cases e : op = 10
  · rw [if_pos e]
    by_cases e2 : Go.Proofs.YtipdnfpomdcenabGreatDoor.getR s t b < 0 ∨ (s.words.length : Int) ≤ Go.Proofs.YtipdnfpomdcenabGreatDoor.getR s t b
    · rw [if_pos e2]; exact ⟨h.regs, h.wait, h.words, h.own, h.prints⟩
    · rw [if_neg e2]; exact h.setR ht a (h.finds ht _)
  rw [if_neg e]
  clear e
  by_cases e : op = 11
  · rw [if_pos e]
    by_cases e2 : Go.Proofs.YtipdnfpomdcenabGreatDoor.getR s t a < 0 ∨ (s.words.length : Int) ≤ Go.Proofs.YtipdnfpomdcenabGreatDoor.getR s t a
    · rw [if_pos e2]; exact ⟨h.regs, h.wait, h.words, h.own, h.prints⟩
    · rw [if_neg e2]; exact h.store ht mode (h.getR ht b)
  rw [if_neg e]
  clear e
  by_cases e : op = 13
  · rw [if_pos e]
    by_cases e2 : s.words.getD a.toNat 0 = Go.Proofs.YtipdnfpomdcenabGreatDoor.getR s t b
    · rw [if_pos e2]
      have h1 : VOk { s with words := s.words.set a.toNat (Go.Proofs.YtipdnfpomdcenabGreatDoor.getR s t c) } := ⟨h.regs, h.wait, i64_set h.words (h.getR ht c), h.own, h.prints⟩
      exact h1.setR ht b ⟨by decide, by decide⟩
    · rw [if_neg e2]; exact h.setR ht b ⟨by decide, by decide⟩
  rw [if_neg e]
  clear e
  by_cases e : op = 14
  · rw [if_pos e]
    exact h.pc ht _
  rw [if_neg e]
  clear e
  by_cases e : op = 15
  · rw [if_pos e]
    by_cases e2 : Go.Proofs.YtipdnfpomdcenabGreatDoor.getR s t a = 0
    · rw [if_pos e2]; exact h.pc ht _
    · rw [if_neg e2]; exact h
  rw [if_neg e]
  clear e
  by_cases e : op = 16
  · rw [if_pos e]
    refine ⟨h.regs, h.wait, h.words, h.own, fun x hx => ?_⟩
    rcases List.mem_append.mp hx with hx | hx
    · exact h.prints x hx
    · rcases List.mem_cons.mp hx with rfl | hx
      · exact ⟨by omega, by omega⟩
      · rw [List.mem_singleton.mp hx]; exact h.getR ht a
  rw [if_neg e]
  clear e
  by_cases e : op = 17
  · rw [if_pos e]
    exact ⟨h.regs, h.wait, h.words, i64_set h.own ⟨by omega, by omega⟩, h.prints⟩
  rw [if_neg e]
  clear e
  by_cases e : op = 18
  · rw [if_pos e]
    by_cases e2 : s.own.getD a.toNat 0 ≠ t ∨ ((thOf s t).wait.any fun x => x.lk && decide (x.wh = a)) = true
    · rw [if_pos e2]; exact ⟨h.regs, h.wait, h.words, h.own, h.prints⟩
    · rw [if_neg e2]; exact h.store ht mode (x := ⟨true, a, 0⟩) (show I64n 0 from ⟨by decide, by decide⟩)
  rw [if_neg e]
  clear e
  exact h
end
/-- A move keeps all numbers such that an int can hold them. -/
theorem VOk.move {n : Nat} {L : Nat → Nat} {X : Nat → Nat → Nat → Int} {m lk rg : Nat} {mode : Int} {s : Sx} (h : VOk s) (ho : SOk n L m lk rg mode s) (hn : n ≤ 4) (hX : ∀ t i, t < n → i < L t → I64n (X t i 2)) {mv : Int} (hmv : mv ∈ movesX L X mode s) : VOk (doX X mode s mv.toNat) := by
  rcases movesX_mem hmv with ⟨t, ht, rfl, ha⟩ | ⟨t, k, ht, hk, rfl, _⟩
  · rw [show (8 * (t : Int)).toNat = 8 * t by omega]
    unfold doX
    simp only [show 8 * t / 8 = t by omega, show 8 * t % 8 = 0 by omega]
    rw [if_neg (by omega)]
    have htn : t < n := by rw [← ho.ths]; exact ht
    exact (h.pc ht _).order (by rw [ths_set]; exact ht) (by omega) mode _ _ _ _ (hX t _ htn (able_lt ha))
  · have h3 := ho.wlen t (by rw [← ho.ths]; exact ht)
    rw [show (8 * (t : Int) + (k : Int) + 1).toNat = 8 * t + k + 1 by omega, doX_wait (by omega)]
    have hx : (thOf s t).wait.getD k default ∈ (thOf s t).wait := by
      rw [List.getD_eq_getElem?_getD, List.getElem?_eq_getElem hk]; exact List.getElem_mem hk
    exact (h.done (h.wait _ (thOf_mem ht) _ hx)).th (fun y hy => h.regs (thOf s t) (thOf_mem ht) y hy) (fun y hy => h.wait (thOf s t) (thOf_mem ht) y (List.mem_of_mem_eraseIdx hy))
theorem VOk.begin {n : Nat} {words : List Int} {lk rg : Nat} (hw : ∀ x, x ∈ words → I64n x) : VOk (beginX n words lk rg) := by
  refine ⟨fun g hg x hx => ?_, fun g hg x hx => ?_, hw, fun x hx => ?_, fun x hx => (by cases hx)⟩
  · rw [(List.mem_replicate.mp hg).2] at hx
    rw [(List.mem_replicate.mp hx).2]
    exact ⟨by decide, by decide⟩
  · rw [(List.mem_replicate.mp hg).2] at hx
    cases hx
  · rw [(List.mem_replicate.mp hx).2]
    exact ⟨by decide, by decide⟩
/-- What a state tells fits. -/
theorem tel_fits {n : Nat} {L : Nat → Nat} {m lk rg : Nat} {mode : Int} {s : Sx} (h : VOk s) (ho : SOk n L m lk rg mode s) (hL : ∀ t, t < n → L t ≤ 400) (hm : m ≤ 64) (hlk : lk ≤ 4) : ∀ x, x ∈ telX mode s → I64n x := by
  intro x hx
  unfold telX telM at hx
  rcases List.mem_append.mp hx with hx | hx
  · rcases List.mem_append.mp hx with hx | hx
    · obtain ⟨g, hg, hx⟩ := List.mem_flatMap.mp hx
      unfold telT at hx
      rcases List.mem_append.mp hx with hx | hx
      · obtain ⟨t, ht, rfl⟩ := ho.mem hg
        rw [List.mem_singleton.mp hx]
        have h1 := ho.pc t ht
        have h2 := hL t ht
        exact ⟨by omega, by omega⟩
      · exact h.regs g hg x hx
    · rcases List.mem_append.mp hx with hx | hx
      · rcases List.mem_append.mp hx with hx | hx
        · exact h.words x hx
        · exact h.own x hx
      · split at hx
        · obtain ⟨g, hg, hx⟩ := List.mem_flatMap.mp hx
          unfold telB at hx
          obtain ⟨t, ht, rfl⟩ := ho.mem hg
          rcases List.mem_append.mp hx with hx | hx
          · rw [List.mem_singleton.mp hx]
            have h1 := ho.wlen t ht
            exact ⟨by omega, by omega⟩
          · obtain ⟨y, hy, hx⟩ := List.mem_flatMap.mp hx
            have h1 := (ho.wok t ht y hy).1
            unfold telW at hx
            rcases List.mem_cons.mp hx with rfl | hx
            · cases hk : y.lk <;> rw [hk] at h1 <;> simp only [if_true, Bool.false_eq_true, if_false] at h1 ⊢ <;> exact ⟨by omega, by omega⟩
            · rw [List.mem_singleton.mp hx]
              exact h.wait _ hg y hy
        · cases hx
  · exact h.prints x hx
end

end Go.Proofs.YtipdnfpomdcenabGreatDoor
