/-
  Whether two lists of outcomes are the same, by the document.
  An outcome put into its place, one behind the other: plain functions.
  States that are gone through one behind the other: plain functions.
-/
import Derived.Test.YtefnmbnakphhfadZSum
import Derived.Test.YtefnmbnakphhfadRDoP
import Derived.Test.YtefnmbnakphhfadWorkP
import Derived.Test.YtefnmbnakphhfadReachP
namespace Go.Proofs.Ytefnmbnakphhfad
section
open Go.RowKit

/-- A list of outcomes lies in w. -/
def OsIn (w : World) (a : Option Addr) (l : List Oc) : Prop := ∀ i, i < l.length → ∃ b o wa wc pa pc, a = some ⟨b, o, none⟩ ∧ w.cell? ⟨b, o + i * 3, none⟩ = some (.int .i64 (l.getD i default).st) ∧ w.cell? ⟨b, o + i * 3 + 1, none⟩ = some (.slice wa (l.getD i default).ws.length wc) ∧ w.cell? ⟨b, o + i * 3 + 2, none⟩ = some (.slice pa (l.getD i default).pr.length pc) ∧ LI w wa (l.getD i default).ws ∧ LI w pa (l.getD i default).pr
theorem OsIn.below {w w' : World} {a : Option Addr} {l : List Oc} (h : OsIn w a l) (hb : Below w.heap.size w w') : OsIn w' a l := fun i hi => by
  obtain ⟨b, o, wa, wc, pa, pc, h1, h2, h3, h4, h5, h6⟩ := h i hi
  exact ⟨b, o, wa, wc, pa, pc, h1, (hb.cell (lt_of_cell h2)).trans h2, (hb.cell (lt_of_cell h3)).trans h3, (hb.cell (lt_of_cell h4)).trans h4, IIn.below h5 hb, IIn.below h6 hb⟩
/-- Few outcomes, each with few words and prints. -/
def OBd (l : List Oc) : Prop := l.length ≤ 100000 ∧ ∀ o, o ∈ l → o.ws.length ≤ 100000 ∧ o.pr.length ≤ 100000
theorem OBd.at {l : List Oc} (h : OBd l) {i : Nat} (hi : i < l.length) : (l.getD i default).ws.length ≤ 100000 ∧ (l.getD i default).pr.length ≤ 100000 := by
  refine h.2 _ ?_
  rw [List.getD_eq_getElem?_getD, List.getElem?_eq_getElem hi]
  exact List.getElem_mem hi
theorem otake_ext {x y : List Oc} {k : Nat} (h : x.take k = y.take k) (h1 : k < x.length) (h2 : k < y.length) (e : x.getD k default = y.getD k default) : x.take (k + 1) = y.take (k + 1) := by
  rw [List.getD_eq_getElem?_getD, List.getD_eq_getElem?_getD, List.getElem?_eq_getElem h1, List.getElem?_eq_getElem h2] at e
  rw [List.take_add_one, List.take_add_one, h, List.getElem?_eq_getElem h1, List.getElem?_eq_getElem h2, show x[k] = y[k] from e]

set_option maxRecDepth 100000 in
set_option maxHeartbeats 3200000 in
theorem rsame_any (a b : Option Addr) (x y : List Oc) (c d : Nat) (hx : OBd x) (hy : OBd y) (w : World) (h : OsIn w a x) (h' : OsIn w b y) :
    Calls Try.prog 14 #[.slice a x.length c, .slice b y.length d] w fun e w' => e = .returned (.bool (decide (x = y))) ∧ Below w.heap.size w w' := by
  have hn := hx.1
  have hm := hy.1
  by_cases hl : x.length = y.length
  rotate_left
  · have HE : Hid (decide (x = y) = false) := decide_eq_false (fun e => hl (by rw [e]))
    have hl' : ¬ (x.length : Int) = y.length := by omega
    go_enter Try.func14, Try.ntmps14
    go_wp2
    go_ret
    exact ⟨congrArg (fun b => Ending.returned (.bool b)) HE.out.symm, Below.refl _ _⟩
  obtain ⟨n, hxl⟩ : ∃ n, x.length = n := ⟨_, rfl⟩
  have hyl : y.length = n := by omega
  have hn' : n ≤ 100000 := by omega
  have HX : Hid (OBd x ∧ OsIn w a x ∧ x.length = n) := ⟨hx, h, hxl⟩
  have HY : Hid (OBd y ∧ OsIn w b y ∧ y.length = n) := ⟨hy, h', hyl⟩
  rw [hxl, hyl]
  clear h h' hx hy hl hn hm hxl hyl
  go_enter Try.func14, Try.ntmps14
  go_wp2
  go_loopw [5] (fun i wr => ∃ k : Nat, k ≤ n ∧ Hid (x.take k = y.take k) ∧ i = .int .i64 k ∧ Below w.heap.size w wr) (fun i _ => n - (intOf i).toNat)
  case atStart => exact ⟨0, Nat.zero_le _, rfl, rfl, Below.refl _ _⟩
  case round =>
    obtain ⟨k, hk, ht, rfl, hbr⟩ := hrel
    by_cases hlt : k < n
    · obtain ⟨x1, x2, x3⟩ := HX.out
      obtain ⟨y1, y2, y3⟩ := HY.out
      have hu1 := x1.at (i := k) (by omega)
      have hv1 := y1.at (i := k) (by omega)
      obtain ⟨b1, o1, wa, wc, pa, pc, rfl, c0, c1, c2, l1, l2⟩ := x2.below hbr k (by omega)
      obtain ⟨b2, o2, va, vc, qa, qc, rfl, d0, d1, d2, m1, m2⟩ := y2.below hbr k (by omega)
      have HT : Hid (x.getD k default = y.getD k default → x.take (k + 1) = y.take (k + 1)) := fun e => otake_ext ht.out (by omega) (by omega) e
      have HF : Hid (x.getD k default ≠ y.getD k default → decide (x = y) = false) := fun e => decide_eq_false (fun e2 => e (by rw [e2]))
      obtain ⟨u, hu⟩ : ∃ u, x.getD k default = u := ⟨_, rfl⟩
      obtain ⟨v, hv⟩ : ∃ v, y.getD k default = v := ⟨_, rfl⟩
      rw [hu] at c0 c1 c2 l1 l2 HT HF hu1
      rw [hv] at d0 d1 d2 m1 m2 HT HF hv1
      clear hu hv x1 x2 x3 y1 y2 y3
      obtain ⟨us, uw, up⟩ := u
      obtain ⟨vs, vw, vp⟩ := v
      simp only at c0 c1 c2 l1 l2 d0 d1 d2 m1 m2 hu1 hv1
      have HI1 : Hid (∀ W, Below wr.heap.size wr W → Calls Try.prog 27 #[.slice wa uw.length wc, .slice va vw.length vc] W fun e w' => e = .returned (.bool (decide (uw = vw))) ∧ Below wr.heap.size wr w') := fun W hb => (rints_any wa va uw vw wc vc hu1.1 hv1.1 W (IIn.below l1 hb) (IIn.below m1 hb)).mono fun e w' g => ⟨g.1, hb.trans (g.2.mono hb.size)⟩
      have HI2 : Hid (∀ W, Below wr.heap.size wr W → Calls Try.prog 27 #[.slice pa up.length pc, .slice qa vp.length qc] W fun e w' => e = .returned (.bool (decide (up = vp))) ∧ Below wr.heap.size wr w') := fun W hb => (rints_any pa qa up vp pc qc hu1.2 hv1.2 W (IIn.below l2 hb) (IIn.below m2 hb)).mono fun e w' g => ⟨g.1, hb.trans (g.2.mono hb.size)⟩
      clear l1 l2 m1 m2 hu1 hv1
      go_wp2_with (fail)
      refine region_tail 10 (by kernel_rfl) (by kernel_rfl) ?_
      simp only [List.take_succ_cons, List.take_zero, List.drop_succ_cons, List.drop_zero]
      repeat still_step
      refine wpStill_nil ?_
      go_wp2_with (fail)
      refine Calls.mono (HI1.out _ (Below.refl _ _).drew) ?_
      rintro e w1 ⟨rfl, hb1⟩
      have e0 := (hb1.cell (lt_of_cell c0)).trans c0
      have e1 := (hb1.cell (lt_of_cell c2)).trans c2
      have f0 := (hb1.cell (lt_of_cell d0)).trans d0
      have f1 := (hb1.cell (lt_of_cell d2)).trans d2
      go_wp2_with (fail)
      refine region_tail 10 (by kernel_rfl) (by kernel_rfl) ?_
      simp only [List.take_succ_cons, List.take_zero, List.drop_succ_cons, List.drop_zero]
      repeat still_step
      refine wpStill_nil ?_
      go_wp2_with (fail)
      refine Calls.mono (HI2.out _ hb1.drew) ?_
      rintro e w2 ⟨rfl, hb2⟩
      have g0 := (hb2.cell (lt_of_cell c0)).trans c0
      have g1 := (hb2.cell (lt_of_cell d0)).trans d0
      have hB2 : Below w.heap.size w w2 := hbr.trans (hb2.mono hbr.size)
      clear c0 c1 c2 d0 d1 d2 e0 e1 f0 f1 hb1 hb2 HI1 HI2
      by_cases q1 : us = vs
      · subst q1
        by_cases q2 : uw = vw
        · subst q2
          by_cases q3 : up = vp
          · subst q3
            have ht' : Hid (x.take (k + 1) = y.take (k + 1)) := HT.out rfl
            clear HT HF
            go_wp2
            go_region
            all_goals go_wp2
            all_goals go_roundw
            case rel => exact ⟨k + 1, by omega, ht', by go_num, hB2.drew⟩
            case measure => simp [intOf]; omega
          · have HE : Hid (decide (x = y) = false) := HF.out (by simpa using q3)
            rw [decide_eq_false q3]
            clear HT HF q3
            go_wp2
            go_region
            all_goals go_wp2
            all_goals go_ret
            all_goals exact ⟨congrArg (fun b => Ending.returned (.bool b)) HE.out.symm, hB2.drew⟩
        · have HE : Hid (decide (x = y) = false) := HF.out (fun e => q2 (by simp only [Oc.mk.injEq] at e; exact e.2.1))
          rw [decide_eq_false q2]
          clear HT HF q2
          go_wp2
          go_region
          all_goals go_wp2
          all_goals go_ret
          all_goals exact ⟨congrArg (fun b => Ending.returned (.bool b)) HE.out.symm, hB2.drew⟩
      · have HE : Hid (decide (x = y) = false) := HF.out (fun e => q1 (by simp only [Oc.mk.injEq] at e; exact e.1))
        have q1' : (us != vs) = true := by simpa using q1
        obtain ⟨bw, hbw⟩ : ∃ b, decide (uw = vw) = b := ⟨_, rfl⟩
        obtain ⟨bp, hbp⟩ : ∃ b, decide (up = vp) = b := ⟨_, rfl⟩
        rw [hbw, hbp]
        clear HT HF q1 hbw hbp HX HY ht
        go_wp2
        go_region
        all_goals go_wp2
        all_goals go_ret
        all_goals exact ⟨congrArg (fun b => Ending.returned (.bool b)) HE.out.symm, hB2.drew⟩
    · have HE : Hid (decide (x = y) = true) := decide_eq_true (by
        have := ht.out
        rwa [List.take_of_length_le (by rw [HX.out.2.2]; omega), List.take_of_length_le (by rw [HY.out.2.2]; omega)] at this)
      go_wp2
      go_ret
      exact ⟨congrArg (fun b => Ending.returned (.bool b)) HE.out.symm, hbr⟩
end

section
open Go.RowKit

/-! An outcome put into its place, one behind the other. -/
theorem ins_end {o : Oc} : ∀ {l : List Oc}, (∀ x, x ∈ l → aheadO x o = true) → insO o l = l ++ [o]
  | [], _ => rfl
  | a :: l, h => by
    have h1 := h a (by simp)
    unfold insO
    rw [ahead_asym h1, h1, ins_end (fun x hx => h x (by simp [hx]))]
    rfl
theorem ins_mid {o x : Oc} {r : List Oc} (hx : aheadO o x = true) : ∀ {l : List Oc}, (∀ y, y ∈ l → aheadO y o = true) → insO o (l ++ x :: r) = l ++ o :: x :: r
  | [], _ => by
    show insO o (x :: r) = _
    unfold insO
    rw [hx]
    rfl
  | a :: l, h => by
    have h1 := h a (by simp)
    show insO o (a :: (l ++ x :: r)) = _
    unfold insO
    rw [ahead_asym h1, h1, ins_mid hx (fun y hy => h y (by simp [hy]))]
    rfl
theorem ins_in {o : Oc} {r : List Oc} : ∀ {l : List Oc}, (∀ y, y ∈ l → aheadO y o = true) → insO o (l ++ o :: r) = l ++ o :: r
  | [], _ => by
    show insO o (o :: r) = _
    unfold insO
    rw [ahead_irr]
    rfl
  | a :: l, h => by
    have h1 := h a (by simp)
    show insO o (a :: (l ++ o :: r)) = _
    unfold insO
    rw [ahead_asym h1, h1, ins_in (fun y hy => h y (by simp [hy]))]
    rfl
/-- What has been written so far, of the first k. -/
def putK (o : Oc) (l : List Oc) (done : Bool) (k : Nat) : List Oc := if done then insO o (l.take k) else l.take k
structure PutI (o : Oc) (l : List Oc) (done : Bool) (k : Nat) : Prop where
  no : done = false → ∀ x, x ∈ l.take k → aheadO x o = true
  yes : done = true → ∃ l1 x l2, l.take k = l1 ++ x :: l2 ∧ aheadO o x = true ∧ ∀ y, y ∈ l1 → aheadO y o = true
theorem PutI.start (o : Oc) (l : List Oc) : PutI o l false 0 := ⟨fun _ x hx => (by cases hx), fun h => (by cases h)⟩
section
variable {o : Oc} {l : List Oc} {k : Nat}
theorem take_next (hk : k < l.length) : l.take (k + 1) = l.take k ++ [l.getD k default] := by
  rw [List.take_add_one, List.getElem?_eq_getElem hk, List.getD_eq_getElem?_getD, List.getElem?_eq_getElem hk]
  rfl
theorem PutI.later {done : Bool} (h : PutI o l done k) (hk : k < l.length) (hd : done = true) : PutI o l true (k + 1) ∧ putK o l true (k + 1) = putK o l done k ++ [l.getD k default] := by
  obtain ⟨l1, x, l2, e, hx, hy⟩ := h.yes hd
  have e2 : l.take (k + 1) = l1 ++ x :: (l2 ++ [l.getD k default]) := by rw [take_next hk, e]; simp
  refine ⟨⟨fun h => (by cases h), fun _ => ⟨l1, x, _, e2, hx, hy⟩⟩, ?_⟩
  unfold putK
  rw [if_pos rfl, if_pos hd, e2, e, ins_mid hx hy, ins_mid hx hy]
  simp
theorem PutI.now (h : PutI o l false k) (hk : k < l.length) (ho : aheadO o (l.getD k default) = true) : PutI o l true (k + 1) ∧ putK o l true (k + 1) = putK o l false k ++ [o] ++ [l.getD k default] := by
  refine ⟨⟨fun h => (by cases h), fun _ => ⟨l.take k, _, [], take_next hk, ho, h.no rfl⟩⟩, ?_⟩
  unfold putK
  rw [if_pos rfl, if_neg (by simp), take_next hk, ins_mid ho (h.no rfl)]
  simp
theorem PutI.skip (h : PutI o l false k) (hk : k < l.length) (ho : aheadO (l.getD k default) o = true) : PutI o l false (k + 1) ∧ putK o l false (k + 1) = putK o l false k ++ [l.getD k default] := by
  refine ⟨⟨fun _ x hx => ?_, fun h => by cases h⟩, ?_⟩
  · rw [take_next hk] at hx
    rcases List.mem_append.mp hx with hx | hx
    · exact h.no rfl x hx
    · rw [List.mem_singleton.mp hx]; exact ho
  · unfold putK
    rw [if_neg (by simp), if_neg (by simp), take_next hk]
/-- One that is there already. -/
theorem PutI.there {done : Bool} (h : PutI o l done k) (hs : SortedO l) (hk : k < l.length) (h1 : aheadO o (l.getD k default) = false) (h2 : aheadO (l.getD k default) o = false) : insO o l = l := by
  have e := ahead_tri h1 h2
  have hd : l = l.take k ++ l.getD k default :: l.drop (k + 1) := by
    have := List.take_append_drop (k + 1) l
    rw [take_next hk, List.append_assoc] at this
    exact this.symm
  cases done with
  | false =>
    rw [hd, ← e]
    exact ins_in (h.no rfl)
  | true =>
    obtain ⟨l1, x, l2, e3, hx, hy⟩ := h.yes rfl
    have hp : SortedO l := hs
    rw [hd, e3, SortedO, List.pairwise_append] at hp
    have := hp.2.2 x (by simp) (l.getD k default) (by simp)
    rw [← e, ahead_asym hx] at this
    cases this
theorem PutI.last {done : Bool} (h : PutI o l done l.length) : insO o l = if done then putK o l true l.length else putK o l false l.length ++ [o] := by
  cases done with
  | false =>
    have := h.no rfl
    rw [List.take_length] at this
    rw [if_neg (by simp), ins_end this]
    unfold putK
    rw [if_neg (by simp), List.take_length]
  | true =>
    rw [if_pos rfl]
    unfold putK
    rw [if_pos rfl, List.take_length]
end
end

section
open Go.RowKit

section
variable {S : Type} {nx : S → List S} {outs : S → List Oc} {s0 : S} {K : List S} {P P' : S → Prop} {E E' : Oc → Prop}
theorem Wk.begin : Wk nx outs s0 [s0] (fun _ => False) (fun _ => False) :=
  ⟨by simp, by simp, fun s h => by rw [List.mem_singleton.mp h]; exact .base, fun _ h => h.elim, fun _ h => h.elim, fun _ h => h.elim, fun _ h => h.elim⟩
theorem Wk.same (h : Wk nx outs s0 K P E) (hP : ∀ s, P' s ↔ P s) (hE : ∀ o, E' o ↔ E o) : Wk nx outs s0 K P' E' :=
  ⟨h.nodup, h.first, h.reach, fun s hs => h.known s ((hP s).1 hs), fun s hs => h.next s ((hP s).1 hs), fun o ho => h.ends o ((hE o).1 ho), fun s hs o ho => (hE o).2 (h.all s ((hP s).1 hs) o ho)⟩
/-- One state more. -/
theorem Wk.push (h : Wk nx outs s0 K P E) {x t : S} (hx : x ∈ K) (ht : t ∈ nx x) (hn : t ∉ K) : Wk nx outs s0 (K ++ [t]) P E where
  nodup := by
    rw [List.nodup_append]
    refine ⟨h.nodup, by simp, fun a ha b hb e => ?_⟩
    rw [List.mem_singleton.mp hb] at e
    exact hn (e ▸ ha)
  first := List.mem_append_left _ h.first
  reach s hs := by
    rcases List.mem_append.mp hs with hs | hs
    · exact h.reach s hs
    · rw [List.mem_singleton.mp hs]; exact .step (h.reach x hx) ht
  known s hs := List.mem_append_left _ (h.known s hs)
  next s hs t' ht' := List.mem_append_left _ (h.next s hs t' ht')
  ends := h.ends
  all := h.all
/-- One outcome more. -/
theorem Wk.out (h : Wk nx outs s0 K P E) {x : S} {o : Oc} (hx : x ∈ K) (ho : o ∈ outs x) (hE : ∀ y, E' y ↔ y = o ∨ E y) : Wk nx outs s0 K P E' :=
  ⟨h.nodup, h.first, h.reach, h.known, h.next, fun y hy => by
    rcases (hE y).1 hy with e | hy
    · rw [e]; exact ⟨x, h.reach x hx, ho⟩
    · exact h.ends y hy, fun s hs y hy => (hE y).2 (Or.inr (h.all s hs y hy))⟩
/-- One state has been gone through. -/
theorem Wk.gone (h : Wk nx outs s0 K P E) {x : S} (hx : x ∈ K) (hn : ∀ t, t ∈ nx x → t ∈ K) (ho : ∀ o, o ∈ outs x → E o) (hP : ∀ s, P' s → s = x ∨ P s) : Wk nx outs s0 K P' E :=
  ⟨h.nodup, h.first, h.reach, fun s hs => by
    rcases hP s hs with e | hs
    · rw [e]; exact hx
    · exact h.known s hs, fun s hs => by
    rcases hP s hs with e | hs
    · rw [e]; exact hn
    · exact h.next s hs, h.ends, fun s hs => by
    rcases hP s hs with e | hs
    · rw [e]; exact ho
    · exact h.all s hs⟩
end
section
variable {L : Nat → Nat} {X : Nat → Nat → Nat → Int} {mode : Int} {s : Sx}
theorem nx_none (h : movesX L X mode s = []) : nxX L X mode s = [] := by unfold nxX; rw [h]; rfl
theorem outs_none (h : movesX L X mode s = []) : outsX L X mode s = [⟨if endedX L s then 0 else 2, s.words, s.prints⟩] := by
  unfold outsX
  rw [h]
  rfl
/-- What was made of the first k moves. -/
def Mvd (L : Nat → Nat) (X : Nat → Nat → Nat → Int) (mode : Int) (s : Sx) (K : List Sx) (E : Oc → Prop) (k : Nat) : Prop :=
  ∀ j, j < k → ((doX X mode s ((movesX L X mode s).getD j 0).toNat).fell = true → E ⟨1, [], (doX X mode s ((movesX L X mode s).getD j 0).toNat).prints⟩) ∧ ((doX X mode s ((movesX L X mode s).getD j 0).toNat).fell = false → doX X mode s ((movesX L X mode s).getD j 0).toNat ∈ K)
theorem Mvd.next {K K' : List Sx} {E E' : Oc → Prop} {k : Nat} (h : Mvd L X mode s K E k) (hK : ∀ t, t ∈ K → t ∈ K') (hE : ∀ o, E o → E' o) (h1 : (doX X mode s ((movesX L X mode s).getD k 0).toNat).fell = true → E' ⟨1, [], (doX X mode s ((movesX L X mode s).getD k 0).toNat).prints⟩) (h2 : (doX X mode s ((movesX L X mode s).getD k 0).toNat).fell = false → doX X mode s ((movesX L X mode s).getD k 0).toNat ∈ K') : Mvd L X mode s K' E' (k + 1) := fun j hj => by
  rcases Nat.lt_or_ge j k with h3 | h3
  · exact ⟨fun hf => hE _ ((h j h3).1 hf), fun hf => hK _ ((h j h3).2 hf)⟩
  · obtain rfl : j = k := by omega
    exact ⟨h1, h2⟩
theorem mv_getD {l : List Int} {mv : Int} (h : mv ∈ l) : ∃ j, j < l.length ∧ l.getD j 0 = mv := by
  obtain ⟨j, hj, e⟩ := List.getElem_of_mem h
  exact ⟨j, hj, by rw [List.getD_eq_getElem?_getD, List.getElem?_eq_getElem hj]; exact e⟩
theorem getD_mv {l : List Int} {j : Nat} (h : j < l.length) : l.getD j 0 ∈ l := by
  rw [List.getD_eq_getElem?_getD, List.getElem?_eq_getElem h]
  exact List.getElem_mem h
theorem Mvd.nx {K : List Sx} {E : Oc → Prop} (h : Mvd L X mode s K E (movesX L X mode s).length) {t : Sx} (ht : t ∈ nxX L X mode s) : t ∈ K := by
  obtain ⟨mv, h1, h2, h3⟩ := mem_nx.mp ht
  obtain ⟨j, hj, rfl⟩ := mv_getD h1
  rw [← h2] at h3 ⊢
  exact (h j hj).2 h3
theorem Mvd.outs {K : List Sx} {E : Oc → Prop} (h : Mvd L X mode s K E (movesX L X mode s).length) (hm : movesX L X mode s ≠ []) {o : Oc} (ho : o ∈ outsX L X mode s) : E o := by
  unfold outsX at ho
  rw [if_neg hm, List.nil_append] at ho
  obtain ⟨mv, h1, h2⟩ := List.mem_filterMap.mp ho
  obtain ⟨j, hj, rfl⟩ := mv_getD h1
  cases hf : (doX X mode s ((movesX L X mode s).getD j 0).toNat).fell with
  | false => rw [hf] at h2; cases h2
  | true =>
    rw [hf] at h2
    rw [← Option.some.inj h2]
    exact (h j hj).1 hf
theorem fell_out {mv : Int} (h : mv ∈ movesX L X mode s) (hf : (doX X mode s mv.toNat).fell = true) : (⟨1, [], (doX X mode s mv.toNat).prints⟩ : Oc) ∈ outsX L X mode s := by
  unfold outsX
  refine List.mem_append_right _ (List.mem_filterMap.mpr ⟨mv, h, ?_⟩)
  rw [hf]
  rfl
end
end

end Go.Proofs.Ytefnmbnakphhfad
