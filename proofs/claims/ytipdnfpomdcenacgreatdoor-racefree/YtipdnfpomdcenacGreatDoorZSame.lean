/-
  Whether two lists of outcomes are the same, by the document.
  All that can be come to, gone through by the kernel: what is told of it.
  Where no orders clash, stores that wait cannot be seen; and the clash of two threads that the statements look for by themselves: plain functions.
-/
import Derived.Test.YtipdnfpomdcenacGreatDoorRcP
import Derived.Test.YtipdnfpomdcenacGreatDoorRDoP
import Derived.Test.YtipdnfpomdcenacGreatDoorWorkP
import Derived.Test.YtipdnfpomdcenacGreatDoorRaceS
import Derived.Test.YtipdnfpomdcenacGreatDoorReachP
namespace Go.Proofs.YtipdnfpomdcenacGreatDoor
section
open Go.RowKit

/-- A list of outcomes lies in w. -/
def OsIn (w : World) (a : Option Addr) (l : List Oc) : Prop := ∀ i, i < l.length → ∃ b o wa wc pa pc, a = some ⟨b, o, none⟩ ∧ w.cell? ⟨b, o + i * 3, none⟩ = some (.int .i64 (l.getD i default).st) ∧ w.cell? ⟨b, o + i * 3 + 1, none⟩ = some (.slice wa (l.getD i default).ws.length wc) ∧ w.cell? ⟨b, o + i * 3 + 2, none⟩ = some (.slice pa (l.getD i default).pr.length pc) ∧ LI w wa (l.getD i default).ws ∧ LI w pa (l.getD i default).pr
theorem OsIn.below {w w' : World} {a : Option Addr} {l : List Oc} (h : OsIn w a l) (hb : Below w.heap.size w w') : OsIn w' a l := fun i hi => by
  obtain ⟨b, o, wa, wc, pa, pc, h1, h2, h3, h4, h5, h6⟩ := h i hi
  exact ⟨b, o, wa, wc, pa, pc, h1, (hb.cell (lt_of_cell h2)).trans h2, (hb.cell (lt_of_cell h3)).trans h3, (hb.cell (lt_of_cell h4)).trans h4, IIn.below h5 hb, IIn.below h6 hb⟩
/-- Few outcomes, each with few words and prints. -/
def OBd (l : List Oc) : Prop := l.length ≤ 100000 ∧ ∀ o, o ∈ l → o.ws.length ≤ 100000 ∧ o.pr.length ≤ 100000
theorem OBd.at {l : List Oc} (h : OBd l) {i : Nat} (hi : i < l.length) : (l.getD i default).ws.length ≤ 100000 ∧ (l.getD i default).pr.length ≤ 100000 := by
  refine h.2 _ ?_
  rw [List.getD_eq_getElem?_getD, List.getElem?_eq_getElem hi]
  exact List.getElem_mem hi
theorem otake_ext {x y : List Oc} {k : Nat} (h : x.take k = y.take k) (h1 : k < x.length) (h2 : k < y.length) (e : x.getD k default = y.getD k default) : x.take (k + 1) = y.take (k + 1) := by
  rw [List.getD_eq_getElem?_getD, List.getD_eq_getElem?_getD, List.getElem?_eq_getElem h1, List.getElem?_eq_getElem h2] at e
  rw [List.take_add_one, List.take_add_one, h, List.getElem?_eq_getElem h1, List.getElem?_eq_getElem h2, show x[k] = y[k] from e]

set_option maxRecDepth 100000 in
set_option maxHeartbeats 3200000 in
theorem rsame_any (a b : Option Addr) (x y : List Oc) (c d : Nat) (hx : OBd x) (hy : OBd y) (w : World) (h : OsIn w a x) (h' : OsIn w b y) :
    Calls Tryz.prog 8 #[.slice a x.length c, .slice b y.length d] w fun e w' => e = .returned (.bool (decide (x = y))) ∧ Below w.heap.size w w' := by
  have hn := hx.1
  have hm := hy.1
  by_cases hl : x.length = y.length
  rotate_left
  · have HE : Hid (decide (x = y) = false) := decide_eq_false (fun e => hl (by rw [e]))
    have hl' : ¬ (x.length : Int) = y.length := by omega
    go_enter Tryz.func8, Tryz.ntmps8
    go_wp2
    go_ret
    exact ⟨congrArg (fun b => Ending.returned (.bool b)) HE.out.symm, Below.refl _ _⟩
  obtain ⟨n, hxl⟩ : ∃ n, x.length = n := ⟨_, rfl⟩
  have hyl : y.length = n := by omega
  have hn' : n ≤ 100000 := by omega
  have HX : Hid (OBd x ∧ OsIn w a x ∧ x.length = n) := ⟨hx, h, hxl⟩
  have HY : Hid (OBd y ∧ OsIn w b y ∧ y.length = n) := ⟨hy, h', hyl⟩
  rw [hxl, hyl]
  clear h h' hx hy hl hn hm hxl hyl
  go_enter Tryz.func8, Tryz.ntmps8
  go_wp2
  go_loopw [5] (fun i wr => ∃ k : Nat, k ≤ n ∧ Hid (x.take k = y.take k) ∧ i = .int .i64 k ∧ Below w.heap.size w wr) (fun i _ => n - (intOf i).toNat)
  case atStart => exact ⟨0, Nat.zero_le _, rfl, rfl, Below.refl _ _⟩
  case round =>
    obtain ⟨k, hk, ht, rfl, hbr⟩ := hrel
    by_cases hlt : k < n
    · obtain ⟨x1, x2, x3⟩ := HX.out
      obtain ⟨y1, y2, y3⟩ := HY.out
      have hu1 := x1.at (i := k) (by omega)
      have hv1 := y1.at (i := k) (by omega)
      obtain ⟨b1, o1, wa, wc, pa, pc, rfl, c0, c1, c2, l1, l2⟩ := x2.below hbr k (by omega)
      obtain ⟨b2, o2, va, vc, qa, qc, rfl, d0, d1, d2, m1, m2⟩ := y2.below hbr k (by omega)
      have HT : Hid (x.getD k default = y.getD k default → x.take (k + 1) = y.take (k + 1)) := fun e => otake_ext ht.out (by omega) (by omega) e
      have HF : Hid (x.getD k default ≠ y.getD k default → decide (x = y) = false) := fun e => decide_eq_false (fun e2 => e (by rw [e2]))
      obtain ⟨u, hu⟩ : ∃ u, x.getD k default = u := ⟨_, rfl⟩
      obtain ⟨v, hv⟩ : ∃ v, y.getD k default = v := ⟨_, rfl⟩
      rw [hu] at c0 c1 c2 l1 l2 HT HF hu1
      rw [hv] at d0 d1 d2 m1 m2 HT HF hv1
      clear hu hv x1 x2 x3 y1 y2 y3
      obtain ⟨us, uw, up⟩ := u
      obtain ⟨vs, vw, vp⟩ := v
      simp only at c0 c1 c2 l1 l2 d0 d1 d2 m1 m2 hu1 hv1
      have HI1 : Hid (∀ W, Below wr.heap.size wr W → Calls Tryz.prog 21 #[.slice wa uw.length wc, .slice va vw.length vc] W fun e w' => e = .returned (.bool (decide (uw = vw))) ∧ Below wr.heap.size wr w') := fun W hb => (rints_any wa va uw vw wc vc hu1.1 hv1.1 W (IIn.below l1 hb) (IIn.below m1 hb)).mono fun e w' g => ⟨g.1, hb.trans (g.2.mono hb.size)⟩
      have HI2 : Hid (∀ W, Below wr.heap.size wr W → Calls Tryz.prog 21 #[.slice pa up.length pc, .slice qa vp.length qc] W fun e w' => e = .returned (.bool (decide (up = vp))) ∧ Below wr.heap.size wr w') := fun W hb => (rints_any pa qa up vp pc qc hu1.2 hv1.2 W (IIn.below l2 hb) (IIn.below m2 hb)).mono fun e w' g => ⟨g.1, hb.trans (g.2.mono hb.size)⟩
      clear l1 l2 m1 m2 hu1 hv1
      go_wp2_with (fail)
      refine region_tail 10 (by kernel_rfl) (by kernel_rfl) ?_
      simp only [List.take_succ_cons, List.take_zero, List.drop_succ_cons, List.drop_zero]
      repeat still_step
      refine wpStill_nil ?_
      go_wp2_with (fail)
      refine Calls.mono (HI1.out _ (Below.refl _ _).drew) ?_
      rintro e w1 ⟨rfl, hb1⟩
      have e0 := (hb1.cell (lt_of_cell c0)).trans c0
      have e1 := (hb1.cell (lt_of_cell c2)).trans c2
      have f0 := (hb1.cell (lt_of_cell d0)).trans d0
      have f1 := (hb1.cell (lt_of_cell d2)).trans d2
      go_wp2_with (fail)
      refine region_tail 10 (by kernel_rfl) (by kernel_rfl) ?_
      simp only [List.take_succ_cons, List.take_zero, List.drop_succ_cons, List.drop_zero]
      repeat still_step
      refine wpStill_nil ?_
      go_wp2_with (fail)
      refine Calls.mono (HI2.out _ hb1.drew) ?_
      rintro e w2 ⟨rfl, hb2⟩
      have g0 := (hb2.cell (lt_of_cell c0)).trans c0
      have g1 := (hb2.cell (lt_of_cell d0)).trans d0
      have hB2 : Below w.heap.size w w2 := hbr.trans (hb2.mono hbr.size)
      clear c0 c1 c2 d0 d1 d2 e0 e1 f0 f1 hb1 hb2 HI1 HI2
      by_cases q1 : us = vs
      · subst q1
        by_cases q2 : uw = vw
        · subst q2
          by_cases q3 : up = vp
          · subst q3
            have ht' : Hid (x.take (k + 1) = y.take (k + 1)) := HT.out rfl
            clear HT HF
            go_wp2
            go_region
            all_goals go_wp2
            all_goals go_roundw
            case rel => exact ⟨k + 1, by omega, ht', by go_num, hB2.drew⟩
            case measure => simp [intOf]; omega
          · have HE : Hid (decide (x = y) = false) := HF.out (by simpa using q3)
            rw [decide_eq_false q3]
            clear HT HF q3
            go_wp2
            go_region
            all_goals go_wp2
            all_goals go_ret
            all_goals exact ⟨congrArg (fun b => Ending.returned (.bool b)) HE.out.symm, hB2.drew⟩
        · have HE : Hid (decide (x = y) = false) := HF.out (fun e => q2 (by simp only [Oc.mk.injEq] at e; exact e.2.1))
          rw [decide_eq_false q2]
          clear HT HF q2
          go_wp2
          go_region
          all_goals go_wp2
          all_goals go_ret
          all_goals exact ⟨congrArg (fun b => Ending.returned (.bool b)) HE.out.symm, hB2.drew⟩
      · have HE : Hid (decide (x = y) = false) := HF.out (fun e => q1 (by simp only [Oc.mk.injEq] at e; exact e.1))
        have q1' : (us != vs) = true := by simpa using q1
        obtain ⟨bw, hbw⟩ : ∃ b, decide (uw = vw) = b := ⟨_, rfl⟩
        obtain ⟨bp, hbp⟩ : ∃ b, decide (up = vp) = b := ⟨_, rfl⟩
        rw [hbw, hbp]
        clear HT HF q1 hbw hbp HX HY ht
        go_wp2
        go_region
        all_goals go_wp2
        all_goals go_ret
        all_goals exact ⟨congrArg (fun b => Ending.returned (.bool b)) HE.out.symm, hB2.drew⟩
    · have HE : Hid (decide (x = y) = true) := decide_eq_true (by
        have := ht.out
        rwa [List.take_of_length_le (by rw [HX.out.2.2]; omega), List.take_of_length_le (by rw [HY.out.2.2]; omega)] at this)
      go_wp2
      go_ret
      exact ⟨congrArg (fun b => Ending.returned (.bool b)) HE.out.symm, hbr⟩
end

section
open Go.RowKit

section
variable {S : Type} [DecidableEq S]
/-- All that can be come to, gone through: what is still to be looked at, what is known. -/
def goK (nx : S → List S) : Nat → List S → List S → List S
  | 0, _, k => k
  | _ + 1, [], k => k
  | f + 1, s :: r, k =>
    let new := (nx s).foldl (fun l t => if t ∈ k ∨ t ∈ l then l else l ++ [t]) []
    goK nx f (r ++ new) (k ++ new)
theorem new_mem {k : List S} : ∀ {l a : List S} {x : S}, x ∈ l.foldl (fun l t => if t ∈ k ∨ t ∈ l then l else l ++ [t]) a → x ∈ a ∨ x ∈ l
  | [], a, x, h => Or.inl h
  | b :: l, a, x, h => by
    rw [List.foldl_cons] at h
    rcases new_mem h with h1 | h1
    · split at h1
      · exact Or.inl h1
      · rw [List.mem_append] at h1
        rcases h1 with h1 | h1
        · exact Or.inl h1
        · rw [List.mem_singleton.mp h1]; exact Or.inr (by simp)
    · exact Or.inr (by simp [h1])
theorem go_reach {nx : S → List S} {s0 : S} : ∀ {f : Nat} {r k : List S}, (∀ s, s ∈ r → Rch nx s0 s) → (∀ s, s ∈ k → Rch nx s0 s) → ∀ s, s ∈ goK nx f r k → Rch nx s0 s
  | 0, _, _, _, h2 => h2
  | _ + 1, [], _, _, h2 => h2
  | f + 1, s :: r, k, h1, h2 => by
    have hn : ∀ x, x ∈ (nx s).foldl (fun l t => if t ∈ k ∨ t ∈ l then l else l ++ [t]) [] → Rch nx s0 x := fun x hx => by
      rcases new_mem hx with h | h
      · cases h
      · exact (h1 s (by simp)).step h
    refine go_reach (f := f) (fun x hx => ?_) (fun x hx => ?_)
    · rw [List.mem_append] at hx
      exact hx.elim (fun h => h1 x (by simp [h])) (hn x)
    · rw [List.mem_append] at hx
      exact hx.elim (h2 x) (hn x)
def closedK (nx : S → List S) (k : List S) : Bool := k.all fun s => (nx s).all fun t => decide (t ∈ k)
theorem nodup_of : ∀ l : List S, ∃ r : List S, r.Nodup ∧ (∀ x, x ∈ r ↔ x ∈ l) ∧ r.length ≤ l.length
  | [] => ⟨[], List.nodup_nil, fun _ => Iff.rfl, Nat.le_refl _⟩
  | a :: l => by
    obtain ⟨r, h1, h2, h3⟩ := nodup_of l
    by_cases h : a ∈ r
    · exact ⟨r, h1, fun x => by rw [h2, List.mem_cons]; exact ⟨Or.inr, fun e => e.elim (fun e => by rw [e]; exact (h2 a).mp h) id⟩, by simp; omega⟩
    · exact ⟨a :: r, List.nodup_cons.mpr ⟨h, h1⟩, fun x => by rw [List.mem_cons, List.mem_cons, h2], by simp; omega⟩
theorem go_more {nx : S → List S} {s : S} : ∀ {f : Nat} {r k : List S}, s ∈ k → s ∈ goK nx f r k
  | 0, _, _, h => h
  | _ + 1, [], _, h => h
  | f + 1, _ :: _, _, h => go_more (f := f) (List.mem_append.mpr (Or.inl h))
/-- What is told where all was gone through. -/
theorem told_of {nx : S → List S} {outs : S → List Oc} {s0 : S} {mx f : Nat} (hcl : closedK nx (goK nx f [s0] [s0]) = true) (hk : (goK nx f [s0] [s0]).length ≤ mx) : Told nx outs s0 mx false (((goK nx f [s0] [s0]).flatMap outs).foldr insO []) := by
  have hr : ∀ s, s ∈ goK nx f [s0] [s0] → Rch nx s0 s := go_reach (fun x hx => by rw [List.mem_singleton.mp hx]; exact .base) (fun x hx => by rw [List.mem_singleton.mp hx]; exact .base)
  have hall : ∀ s, Rch nx s0 s → s ∈ goK nx f [s0] [s0] := fun s hs => by
    induction hs with
    | base => exact go_more (by simp)
    | step _ ht ih =>
      unfold closedK at hcl
      rw [List.all_eq_true] at hcl
      have := hcl _ ih
      rw [List.all_eq_true] at this
      simpa using this _ ht
  obtain ⟨r, n1, n2, n3⟩ := nodup_of (goK nx f [s0] [s0])
  refine Or.inr ⟨rfl, ?_, fun o => ?_, r, n1, fun s => (n2 s).trans ⟨hr s, hall s⟩, by omega⟩
  · have : ∀ l : List Oc, SortedO (l.foldr insO []) := fun l => by
      induction l with
      | nil => exact List.Pairwise.nil
      | cons a l ih => exact sorted_insO ih
    exact this _
  · have : ∀ l : List Oc, o ∈ l.foldr insO [] ↔ o ∈ l := fun l => by
      induction l with
      | nil => exact Iff.rfl
      | cons a l ih => rw [List.foldr_cons, mem_insO, ih, List.mem_cons]
    rw [this, List.mem_flatMap]
    exact ⟨fun ⟨s, h1, h2⟩ => ⟨s, hr s h1, h2⟩, fun ⟨s, h1, h2⟩ => ⟨s, hall s h1, h2⟩⟩
end
end

section
open Go.RowKit

/-- Where no clash is told, the outcomes with stores that wait are those without. -/
theorem free_same {n : Nat} {L : Nat → Nat} {X : Nat → Nat → Nat → Int} {words : List Int} {lk rg : Nat} {a b : List Oc} {mx : Nat} (hc : COk n L X words.length lk rg) (hz : ToldC L X (beginX n words lk rg) []) (ha : Told (nxX L X 0) (outsX L X 0) (beginX n words lk rg) mx false a) (hb : Told (nxX L X 1) (outsX L X 1) (beginX n words lk rg) mx false b) : a = b := by
  rcases ha with ⟨e, _⟩ | ⟨_, sa, ma, _⟩
  · cases e
  rcases hb with ⟨e, _⟩ | ⟨_, sb, mb, _⟩
  · cases e
  refine sorted_same sa sb fun o => ?_
  rw [ma, mb]
  have hwait : ∀ t, t < n → (thOf (beginX n words lk rg) t).wait = [] := fun t ht => by
    unfold thOf beginX
    simp [List.getD, ht]
  constructor
  · rintro ⟨s, h1, h2⟩
    exact ⟨s, reach_more begin_ok rfl hc h1, outs_more begin_ok rfl hc h1 h2⟩
  · rintro ⟨s, h1, h2⟩
    exact race_free begin_ok rfl hwait LkI.begin hc (by decide) (toldC_none hz fun s hs => (reach_ok begin_ok rfl hc (Int.le_refl _) hs).1.ths) h1 h2
/-- The clashes of a state, gone through. -/
def clsL (L : Nat → Nat) (X : Nat → Nat → Nat → Int) (s : Sx) : List (List Int) := (List.range s.ths.length).flatMap fun b => (List.range b).flatMap fun a => (clP L X s a b).toList
theorem mem_clsL {L : Nat → Nat} {X : Nat → Nat → Nat → Int} {s : Sx} {c : List Int} : c ∈ clsL L X s ↔ ClsX L X s c := by
  unfold clsL ClsX
  simp only [List.mem_flatMap, List.mem_range, Option.mem_toList]
  exact ⟨fun ⟨b, h1, a, h2, h3⟩ => ⟨a, b, h2, h1, h3⟩, fun ⟨a, b, h2, h1, h3⟩ => ⟨b, h1, a, h2, h3⟩⟩
/-- What clashes are told where all was gone through. -/
theorem toldC_of {L : Nat → Nat} {X : Nat → Nat → Nat → Int} {s0 : Sx} {f : Nat} (hcl : closedK (nxX L X 0) (goK (nxX L X 0) f [s0] [s0]) = true) : ToldC L X s0 (((goK (nxX L X 0) f [s0] [s0]).flatMap (clsL L X)).foldr insL []) := by
  have hr : ∀ s, s ∈ goK (nxX L X 0) f [s0] [s0] → Rch (nxX L X 0) s0 s := go_reach (fun x hx => by rw [List.mem_singleton.mp hx]; exact .base) (fun x hx => by rw [List.mem_singleton.mp hx]; exact .base)
  have hall : ∀ s, Rch (nxX L X 0) s0 s → s ∈ goK (nxX L X 0) f [s0] [s0] := fun s hs => by
    induction hs with
    | base => exact go_more (by simp)
    | step _ ht ih =>
      unfold closedK at hcl
      rw [List.all_eq_true] at hcl
      have := hcl _ ih
      rw [List.all_eq_true] at this
      simpa using this _ ht
  refine ⟨?_, fun c => ?_⟩
  · have : ∀ l : List (List Int), SortedL (l.foldr insL []) := fun l => by
      induction l with
      | nil => exact List.Pairwise.nil
      | cons a l ih => exact sorted_insL ih
    exact this _
  · have : ∀ l : List (List Int), c ∈ l.foldr insL [] ↔ c ∈ l := fun l => by
      induction l with
      | nil => exact Iff.rfl
      | cons a l ih => rw [List.foldr_cons, mem_insL, ih, List.mem_cons]
    rw [this, List.mem_flatMap]
    exact ⟨fun ⟨s, h1, h2⟩ => ⟨s, hr s h1, mem_clsL.mp h2⟩, fun ⟨s, h1, h2⟩ => ⟨s, hall s h1, mem_clsL.mpr h2⟩⟩
/-- One thread stores, one loads. -/
def litL : Nat → Nat := fun _ => 1
def litX : Nat → Nat → Nat → Int := fun t _ q => if q = 0 then (if t = 0 then 9 else 8) else 0
def litS : List Sx := goK (nxX litL litX 0) 100 [beginX 2 [0] 0 1] [beginX 2 [0] 0 1]
theorem lit_len : litS.length ≤ 4000 ∧ ((litS.flatMap (clsL litL litX)).foldr insL []).length = 1 := by decide +kernel
theorem lit_closed : closedK (nxX litL litX 0) (goK (nxX litL litX 0) 100 [beginX 2 [0] 0 1] [beginX 2 [0] 0 1]) = true := by decide +kernel
/-- How many states they come to, and their clash. -/
theorem lit_told : Told (nxX litL litX 0) (fun _ => []) (beginX 2 [0] 0 1) 4000 false ((litS.flatMap fun _ => []).foldr insO []) :=
  told_of (f := 100) lit_closed (by have := lit_len.1; unfold litS at this; exact this)
theorem lit_one {full : Bool} {l : List (List Int)} (h1 : Told (nxX litL litX 0) (fun _ => []) (beginX 2 [0] 0 1) 4000 full []) (h2 : full = false → ToldC litL litX (beginX 2 [0] 0 1) l) : full = false ∧ l.length = 1 := by
  obtain ⟨e, _⟩ := told_same h1 lit_told
  refine ⟨e, ?_⟩
  have := toldC_same (h2 e) (toldC_of lit_closed)
  rw [this]
  exact lit_len.2
theorem lit_chk : chk 2 litL litX 1 0 1 = (0, 0, 0) := by decide +kernel
end

end Go.Proofs.YtipdnfpomdcenacGreatDoor
