/-
  What the document's Ints does with two lists of the same numbers.
  A list of numbers that was made is one that can be read.
  A state's numbers, by the document and by the program, tell it; what a state becomes, what runs come to.
  The box of a program that was handed in.
  The document's sum of numbers; whether two lists are the same, which comes first; the order of outcomes.
  Whether two lists of outcomes are the same, by the document.
  A program and a script that are handed in, opened.
-/
import Derived.Test.YtipdnfpomdcenabGreatDoorOrder
import Derived.Test.YtipdnfpomdcenabGreatDoorSOk
import Derived.Test.YtipdnfpomdcenabGreatDoorRunP
import Derived.Test.YtipdnfpomdcenabGreatDoorPlain
import Derived.Test.YtipdnfpomdcenabGreatDoorPRow
namespace Go.Proofs.YtipdnfpomdcenabGreatDoor
section
open Go.RowKit

/-- A list of numbers lies in w. -/
def IIn (w : World) (a : Option Addr) (n : Nat) (X : Nat → Int) : Prop := ∀ i, i < n → ∃ b o, a = some ⟨b, o, none⟩ ∧ w.cell? ⟨b, o + i, none⟩ = some (.int .i64 (X i))
theorem IIn.below {w w' : World} {a : Option Addr} {n : Nat} {X : Nat → Int} (h : IIn w a n X) (hb : Below w.heap.size w w') : IIn w' a n X := fun i hi => by
  obtain ⟨b, o, hc, h1⟩ := h i hi
  exact ⟨b, o, hc, (hb.cell (lt_of_cell h1)).trans h1⟩
end

section
open Go.RowKit

theorem IsI.iin {w : World} {B : Nat} {a : Option Addr} {len c : Nat} {xs : List Int} (h : IsI w B a len c xs) : IIn w a len (fun i => xs.getD i 0) := fun i hi => by
  obtain ⟨g, cap, h1, h2, _, _⟩ := fam_block h.own (by omega)
  simp only [Value.slice.injEq] at h1
  exact ⟨g, 0, h1.1, by simpa using fam_cell h.own h2 (intsV_at (by rw [h.is]; exact hi))⟩
end

section
open Go.RowKit

/-! A state's numbers. -/
theorem flat_inj {f : Wt → List Int} {k : Nat} {Q : Wt → Prop} (hk : ∀ x, (f x).length = k) (hf : ∀ x y, Q x → Q y → f x = f y → x = y) : ∀ {l r : List Wt} {u v : List Int}, l.length = r.length → (∀ x, x ∈ l → Q x) → (∀ x, x ∈ r → Q x) → l.flatMap f ++ u = r.flatMap f ++ v → l = r ∧ u = v
  | [], [], _, _, _, _, _, h => ⟨rfl, h⟩
  | a :: l, b :: r, u, v, hl, h1, h2, h => by
    rw [List.flatMap_cons, List.flatMap_cons, List.append_assoc, List.append_assoc] at h
    obtain ⟨e1, e2⟩ := List.append_inj h (by rw [hk, hk])
    obtain ⟨e3, e4⟩ := flat_inj hk hf (by simpa using hl) (fun x hx => h1 x (by simp [hx])) (fun x hx => h2 x (by simp [hx])) e2
    rw [hf _ _ (h1 a (by simp)) (h2 b (by simp)) e1, e3]
    exact ⟨rfl, e4⟩
theorem SOk.mem {n : Nat} {L : Nat → Nat} {m lk rg : Nat} {mode : Int} {s : Sx} (h : SOk n L m lk rg mode s) {x : Th} (hx : x ∈ s.ths) : ∃ t, t < n ∧ thOf s t = x := by
  obtain ⟨t, ht, e⟩ := List.getElem_of_mem hx
  exact ⟨t, by rw [← h.ths]; exact ht, by unfold thOf; rw [List.getD_eq_getElem?_getD, List.getElem?_eq_getElem ht]; exact e⟩
/-- All that a thread is, by the program; what waits of it. -/
def telT (h : Th) : List Int := [(h.pc : Int)] ++ h.regs
def telW (x : Wt) : List Int := [if x.lk then -1 - x.wh else x.wh, x.what]
def telB (h : Th) : List Int := [(h.wait.length : Int)] ++ h.wait.flatMap telW
def telM (mode : Int) (s : Sx) : List Int := s.words ++ s.own ++ (if 0 < mode then s.ths.flatMap telB else [])
def telX (mode : Int) (s : Sx) : List Int := s.ths.flatMap telT ++ telM mode s ++ s.prints
theorem telW_inj {x y : Wt} (hx : 0 ≤ x.wh) (hy : 0 ≤ y.wh) (h : telW x = telW y) : x = y := by
  cases x with
  | mk a b c =>
    cases y with
    | mk a' b' c' =>
      simp only [telW, List.cons.injEq, and_true] at h
      obtain ⟨h1, rfl⟩ := h
      simp only at hx hy
      cases a <;> cases a' <;> simp only [if_true, Bool.false_eq_true, if_false] at h1
      · rw [h1]
      · omega
      · omega
      · rw [show b = b' by omega]
theorem tel_ths : ∀ {l r : List Th} {u v : List Int} {rg : Nat}, l.length = r.length → (∀ x, x ∈ l → x.regs.length = rg) → (∀ x, x ∈ r → x.regs.length = rg) → l.flatMap telT ++ u = r.flatMap telT ++ v → (l.map fun x => (x.pc, x.regs)) = (r.map fun x => (x.pc, x.regs)) ∧ u = v
  | [], [], _, _, _, _, _, _, h => ⟨rfl, h⟩
  | a :: l, b :: r, u, v, rg, hl, h1, h2, h => by
    rw [List.flatMap_cons, List.flatMap_cons, List.append_assoc, List.append_assoc] at h
    obtain ⟨e1, e2⟩ := List.append_inj h (by simp [telT, h1 a (by simp), h2 b (by simp)])
    simp only [telT, List.cons_append, List.nil_append, List.cons.injEq] at e1
    obtain ⟨e3, e4⟩ := tel_ths (rg := rg) (by simpa using hl) (fun x hx => h1 x (by simp [hx])) (fun x hx => h2 x (by simp [hx])) e2
    refine ⟨?_, e4⟩
    rw [List.map_cons, List.map_cons, e3, show a.pc = b.pc by omega, e1.2]
theorem tel_buf : ∀ {l r : List Th} {u v : List Int}, l.length = r.length → (∀ x, x ∈ l → ∀ y, y ∈ x.wait → 0 ≤ y.wh) → (∀ x, x ∈ r → ∀ y, y ∈ x.wait → 0 ≤ y.wh) → l.flatMap telB ++ u = r.flatMap telB ++ v → (l.map fun x => x.wait) = (r.map fun x => x.wait) ∧ u = v
  | [], [], _, _, _, _, _, h => ⟨rfl, h⟩
  | a :: l, b :: r, u, v, hl, h1, h2, h => by
    rw [List.flatMap_cons, List.flatMap_cons, List.append_assoc, List.append_assoc] at h
    simp only [telB, List.cons_append, List.nil_append, List.cons.injEq] at h
    obtain ⟨e0, h⟩ := h
    obtain ⟨e1, e2⟩ := flat_inj (k := 2) (Q := fun y => 0 ≤ y.wh) (fun _ => rfl) (fun _ _ h1 h2 => telW_inj h1 h2) (by omega) (h1 a (by simp)) (h2 b (by simp)) h
    obtain ⟨e3, e4⟩ := tel_buf (by simpa using hl) (fun x hx => h1 x (by simp [hx])) (fun x hx => h2 x (by simp [hx])) e2
    exact ⟨by rw [List.map_cons, List.map_cons, e1, e3], e4⟩
theorem ths_eq : ∀ {l r : List Th}, (l.map fun x => (x.pc, x.regs)) = (r.map fun x => (x.pc, x.regs)) → (l.map fun x => x.wait) = (r.map fun x => x.wait) → l = r
  | [], [], _, _ => rfl
  | [], _ :: _, h, _ => by cases h
  | _ :: _, [], h, _ => by cases h
  | a :: l, b :: r, h1, h2 => by
    simp only [List.map_cons, List.cons.injEq, Prod.mk.injEq] at h1 h2
    rw [ths_eq h1.2 h2.2]
    cases a; cases b
    simp only at h1 h2
    rw [h1.1.1, h1.1.2, h2.1]
/-- Two states of a program are the same where what they tell is. -/
theorem tel_inj {n : Nat} {L : Nat → Nat} {m lk rg : Nat} {mode : Int} {s r : Sx} (h1 : SOk n L m lk rg mode s) (h2 : SOk n L m lk rg mode r) (hm : 0 ≤ mode) (hf : s.fell = r.fell) (h : telX mode s = telX mode r) : s = r := by
  unfold telX telM at h
  simp only [List.append_assoc] at h
  obtain ⟨e1, e2⟩ := tel_ths (rg := rg) (by rw [h1.ths, h2.ths]) (fun x hx => by obtain ⟨t, ht, rfl⟩ := h1.mem hx; exact h1.regs t ht) (fun x hx => by obtain ⟨t, ht, rfl⟩ := h2.mem hx; exact h2.regs t ht) h
  obtain ⟨e3, e4⟩ := List.append_inj e2 (by rw [h1.words, h2.words])
  obtain ⟨e5, e6⟩ := List.append_inj e4 (by rw [h1.own, h2.own])
  have ew : (s.ths.map fun x => x.wait) = (r.ths.map fun x => x.wait) ∧ s.prints = r.prints := by
    by_cases h0 : 0 < mode
    · rw [if_pos h0, if_pos h0] at e6
      exact tel_buf (by rw [h1.ths, h2.ths]) (fun x hx y hy => by obtain ⟨t, ht, rfl⟩ := h1.mem hx; exact (h1.wok t ht y hy).1.1) (fun x hx y hy => by obtain ⟨t, ht, rfl⟩ := h2.mem hx; exact (h2.wok t ht y hy).1.1) e6
    · rw [if_neg h0, if_neg h0] at e6
      have hz : mode = 0 := by omega
      have e : ∀ (q : Sx), SOk n L m lk rg mode q → (q.ths.map fun x => x.wait) = List.replicate n [] := fun q hq => by
        rw [List.eq_replicate_iff]
        refine ⟨by rw [List.length_map, hq.ths], fun b hb => ?_⟩
        obtain ⟨x, hx, rfl⟩ := List.mem_map.mp hb
        obtain ⟨t, ht, rfl⟩ := hq.mem hx
        exact hq.bare hz t ht
      exact ⟨by rw [e s h1, e r h2], by simpa using e6⟩
  have et := ths_eq e1 ew.1
  have ep := ew.2
  cases s; cases r
  simp only at et e3 e5 ep hf
  subst et e3 e5 ep hf
  rfl

/-! What a state becomes; what runs come to. -/
section
variable (L : Nat → Nat) (X : Nat → Nat → Nat → Int) (mode : Int)
def nxX (s : Sx) : List Sx := (movesX L X mode s).filterMap fun mv => if (doX X mode s mv.toNat).fell then none else some (doX X mode s mv.toNat)
def outsX (s : Sx) : List Oc :=
  (if movesX L X mode s = [] then [⟨if endedX L s then 0 else 2, s.words, s.prints⟩] else []) ++
    (movesX L X mode s).filterMap fun mv => if (doX X mode s mv.toNat).fell then some ⟨1, [], (doX X mode s mv.toNat).prints⟩ else none
end
end

section
open Go.RowKit

theorem box_lt {w : World} {g : Nat} {o : Obj} (h : w.heap[g]? = some o) : g < w.heap.size := by
  rcases Nat.lt_or_ge g w.heap.size with h1 | h1
  · exact h1
  · rw [Array.getElem?_eq_none h1] at h; cases h

theorem heap_set_same {w : World} {g i : Nat} {cs : Array Value} {t : TypeId} {u : Value} (h : w.heap[g]? = some (.cells cs t)) : (w.setCell ⟨g, i, none⟩ u).heap[g]? = some (.cells (cs.setIfInBounds i u) t) := by
  simp only [World.setCell, Array.getElem?_modify, if_true, h, Option.map_some]
  rfl

theorem own_type {w : World} {B : Nat} {e t : TypeId} {size : Nat} {v : Value} {n g : Nat} {xs : List Value} {c : Array Value} (h : w.ownsRow B e size v n xs) (hg : w.heap[g]? = some (.cells c t (0, 0))) (hne : e ≠ t) : v.ownBlock ≠ some g := fun e1 => by
  rcases h.2 with ⟨h0, _⟩ | ⟨g', cap, cur, hv, _, hh, _⟩
  · rw [h0] at e1; simp [Value.ownBlock] at e1
  · rw [hv] at e1
    have e2 : g' = g := by simpa [Value.ownBlock] using e1
    subst e2
    rw [hh] at hg
    simp only [Option.some.injEq, Obj.cells.injEq] at hg
    exact hne hg.2.1
theorem box_cell {w : World} {g i : Nat} {cs : Array Value} {t : TypeId} {u : Value} (h : w.heap[g]? = some (.cells cs t)) (hi : cs[i]? = some u) : w.cell? ⟨g, i, none⟩ = some u := by
  simp [World.cell?, h, hi]
theorem box_free {w : World} {g i : Nat} {cs : Array Value} {t : TypeId} (h : w.heap[g]? = some (.cells cs t)) : w.frozen? ⟨g, i, none⟩ = false := by
  simp [World.frozen?, h]
theorem box_later {w : World} {g : Nat} {o : Obj} (h : w.heap[g]? = some o) (p : Obj) : (w.alloc p).heap[g]? = some o := by
  have hl : g < w.heap.size := by
    rcases Nat.lt_or_ge g w.heap.size with h1 | h1
    · exact h1
    · rw [Array.getElem?_eq_none h1] at h; cases h
  exact (((Below.refl w.heap.size w).alloc (Nat.le_refl _) p).block _ hl).trans h
end

section
open Go.RowKit

/-- A list of numbers, all of it, lies in w. -/
abbrev LI (w : World) (a : Option Addr) (x : List Int) : Prop := IIn w a x.length (fun i => x.getD i 0)
theorem getD_lt {x : List Int} {k : Nat} (h : k < x.length) : x.getD k 0 = x[k] := by rw [List.getD_eq_getElem?_getD, List.getElem?_eq_getElem h]; rfl
theorem take_ext {x y : List Int} {k : Nat} (h : x.take k = y.take k) (h1 : k < x.length) (h2 : k < y.length) (e : x.getD k 0 = y.getD k 0) : x.take (k + 1) = y.take (k + 1) := by
  rw [List.take_add_one, List.take_add_one, h, List.getElem?_eq_getElem h1, List.getElem?_eq_getElem h2, ← getD_lt h1, ← getD_lt h2, e]
/-- An outcome as a value. -/
abbrev ocV (st : Int) (wa : Option Addr) (wl wc : Nat) (pa : Option Addr) (pl pc : Nat) : Value := .agg #[.int .i64 st, .slice wa wl wc, .slice pa pl pc]
end

section
open Go.RowKit

/-- A list of outcomes lies in w. -/
def OsIn (w : World) (a : Option Addr) (l : List Oc) : Prop := ∀ i, i < l.length → ∃ b o wa wc pa pc, a = some ⟨b, o, none⟩ ∧ w.cell? ⟨b, o + i * 3, none⟩ = some (.int .i64 (l.getD i default).st) ∧ w.cell? ⟨b, o + i * 3 + 1, none⟩ = some (.slice wa (l.getD i default).ws.length wc) ∧ w.cell? ⟨b, o + i * 3 + 2, none⟩ = some (.slice pa (l.getD i default).pr.length pc) ∧ LI w wa (l.getD i default).ws ∧ LI w pa (l.getD i default).pr
theorem OsIn.below {w w' : World} {a : Option Addr} {l : List Oc} (h : OsIn w a l) (hb : Below w.heap.size w w') : OsIn w' a l := fun i hi => by
  obtain ⟨b, o, wa, wc, pa, pc, h1, h2, h3, h4, h5, h6⟩ := h i hi
  exact ⟨b, o, wa, wc, pa, pc, h1, (hb.cell (lt_of_cell h2)).trans h2, (hb.cell (lt_of_cell h3)).trans h3, (hb.cell (lt_of_cell h4)).trans h4, IIn.below h5 hb, IIn.below h6 hb⟩
/-- Few outcomes, each with few words and prints. -/
def OBd (l : List Oc) : Prop := l.length ≤ 100000 ∧ ∀ o, o ∈ l → o.ws.length ≤ 100000 ∧ o.pr.length ≤ 100000
theorem OBd.at {l : List Oc} (h : OBd l) {i : Nat} (hi : i < l.length) : (l.getD i default).ws.length ≤ 100000 ∧ (l.getD i default).pr.length ≤ 100000 := by
  refine h.2 _ ?_
  rw [List.getD_eq_getElem?_getD, List.getElem?_eq_getElem hi]
  exact List.getElem_mem hi
theorem otake_ext {x y : List Oc} {k : Nat} (h : x.take k = y.take k) (h1 : k < x.length) (h2 : k < y.length) (e : x.getD k default = y.getD k default) : x.take (k + 1) = y.take (k + 1) := by
  rw [List.getD_eq_getElem?_getD, List.getD_eq_getElem?_getD, List.getElem?_eq_getElem h1, List.getElem?_eq_getElem h2] at e
  rw [List.take_add_one, List.take_add_one, h, List.getElem?_eq_getElem h1, List.getElem?_eq_getElem h2, show x[k] = y[k] from e]
end

section
open Go.ChangeShapes Go.WideShapes Go.ChangeAt Go.RowKit Go.Joins Go.Deep

theorem Tryz.own : ownKnob Tryz.prog.godebug = none := by kernel_rfl
theorem Tryz.laidOut : laidOutB Tryz.prog = true := by kernel_rfl
theorem Tryz.readableP : Tryz.prog.readableRec 25 = true := by kernel_rfl
theorem Tryz.readableI : Tryz.prog.readableRec 23 = true := by kernel_rfl

/-- A list of numbers that is handed in, opened. -/
theorem open_ints {H : Type} {enc : TypeId × Value → H} {W : World} {fuel : Nat} {v : Value} {x : DataW H × List MemPlace} (h : DataW.trod enc Tryz.prog W 0 (fun _ => true) true fuel 23 [v] = some x) :
    ∃ (sa : Option Addr) (xs : List Int) (sc : Nat), v = .slice sa xs.length sc ∧ xs.length ≤ sc ∧ sc ≤ maxLen ∧ SIs W sa xs ∧ (sa = none → xs = [] ∧ sc = 0) := by
  rcases open_slice1 Tryz.underlying23 cells3 h with ⟨hcs, _⟩ | ⟨a, len, cap, _, _, V, _, _, hcs, _, hl, hm, hmm, _, hx⟩
  · simp at hcs
    subst hcs
    exact ⟨none, [], 0, rfl, by simp, by simp, fun i hi => absurd hi (Nat.not_lt_zero _), fun _ => ⟨rfl, rfl⟩⟩
  · simp at hcs hmm
    subst hcs
    obtain ⟨Y, hY⟩ := choose_lt (α := Int) (p := fun i (y : Int) => W.cell? (a.add i) = some (.int .i64 y)) (n := len) (fun i hi => by
      obtain ⟨x1, x2⟩ := hx i (by omega)
      obtain ⟨y, e, _, _⟩ := DataW.trod_int Tryz.underlying3 x2
      simp at e
      exact ⟨y, by rw [x1, e]⟩)
    have hlen : ((List.range len).map Y).length = len := by simp
    refine ⟨some a, (List.range len).map Y, cap, by rw [hlen], by rw [hlen]; exact hl, hm, fun i hi => ?_, fun e => by cases e⟩
    rw [hlen] at hi
    obtain ⟨b, o, sp⟩ := a
    have hsp : sp = none := by simpa [Addr.add] using World.cell?_spot (hY 0 (by omega))
    subst hsp
    refine ⟨b, o, rfl, ?_⟩
    rw [← Go.WideShapes.add_plain, hY i hi]
    simp [List.getD, hi]

/-- Where a list that is handed in lies. -/
theorem slice_lt {P : Program} {t e : TypeId} (ht : P.underlying t = some (.slice e)) {W : World} {b0 : Nat} {a : Addr} {len cap : Nat} (h : Value.okWide P W .any b0 t (.slice (some a) len cap)) : a.block < W.heap.size := by
  unfold Value.okWide at h
  rw [ht] at h
  simp only [Cell.okWide, Cell.ok, ht] at h
  obtain ⟨_, _, _, _, row, cells, hs, _⟩ := h
  rcases Nat.lt_or_ge a.block W.heap.size with h1 | h1
  · exact h1
  · unfold World.shape? at hs
    rw [Array.getElem?_eq_none h1] at hs
    cases hs
end

end Go.Proofs.YtipdnfpomdcenabGreatDoor
