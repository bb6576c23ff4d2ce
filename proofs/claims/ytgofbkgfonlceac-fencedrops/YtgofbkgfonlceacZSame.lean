/-
  Whether two lists of outcomes are the same, by the document.
-/
import Derived.Test.YtgofbkgfonlceacZSum
import Derived.Test.YtgofbkgfonlceacRDoP
namespace Go.Proofs.Ytgofbkgfonlceac
open Go.RowKit

/-- A list of outcomes lies in w. -/
def OsIn (w : World) (a : Option Addr) (l : List Oc) : Prop := ∀ i, i < l.length → ∃ b o wa wc pa pc, a = some ⟨b, o, none⟩ ∧ w.cell? ⟨b, o + i * 3, none⟩ = some (.int .i64 (l.getD i default).st) ∧ w.cell? ⟨b, o + i * 3 + 1, none⟩ = some (.slice wa (l.getD i default).ws.length wc) ∧ w.cell? ⟨b, o + i * 3 + 2, none⟩ = some (.slice pa (l.getD i default).pr.length pc) ∧ LI w wa (l.getD i default).ws ∧ LI w pa (l.getD i default).pr
theorem OsIn.below {w w' : World} {a : Option Addr} {l : List Oc} (h : OsIn w a l) (hb : Below w.heap.size w w') : OsIn w' a l := fun i hi => by
  obtain ⟨b, o, wa, wc, pa, pc, h1, h2, h3, h4, h5, h6⟩ := h i hi
  exact ⟨b, o, wa, wc, pa, pc, h1, (hb.cell (lt_of_cell h2)).trans h2, (hb.cell (lt_of_cell h3)).trans h3, (hb.cell (lt_of_cell h4)).trans h4, IIn.below h5 hb, IIn.below h6 hb⟩
/-- Few outcomes, each with few words and prints. -/
def OBd (l : List Oc) : Prop := l.length ≤ 100000 ∧ ∀ o, o ∈ l → o.ws.length ≤ 100000 ∧ o.pr.length ≤ 100000
theorem OBd.at {l : List Oc} (h : OBd l) {i : Nat} (hi : i < l.length) : (l.getD i default).ws.length ≤ 100000 ∧ (l.getD i default).pr.length ≤ 100000 := by
  refine h.2 _ ?_
  rw [List.getD_eq_getElem?_getD, List.getElem?_eq_getElem hi]
  exact List.getElem_mem hi
theorem otake_ext {x y : List Oc} {k : Nat} (h : x.take k = y.take k) (h1 : k < x.length) (h2 : k < y.length) (e : x.getD k default = y.getD k default) : x.take (k + 1) = y.take (k + 1) := by
  rw [List.getD_eq_getElem?_getD, List.getD_eq_getElem?_getD, List.getElem?_eq_getElem h1, List.getElem?_eq_getElem h2] at e
  rw [List.take_add_one, List.take_add_one, h, List.getElem?_eq_getElem h1, List.getElem?_eq_getElem h2, show x[k] = y[k] from e]

set_option maxRecDepth 100000 in
set_option maxHeartbeats 3200000 in
theorem rsame_any (a b : Option Addr) (x y : List Oc) (c d : Nat) (hx : OBd x) (hy : OBd y) (w : World) (h : OsIn w a x) (h' : OsIn w b y) :
    Calls Try.prog 17 #[.slice a x.length c, .slice b y.length d] w fun e w' => e = .returned (.bool (decide (x = y))) ∧ Below w.heap.size w w' := by
  have hn := hx.1
  have hm := hy.1
  by_cases hl : x.length = y.length
  rotate_left
  · have HE : Hid (decide (x = y) = false) := decide_eq_false (fun e => hl (by rw [e]))
    have hl' : ¬ (x.length : Int) = y.length := by omega
    go_enter Try.func17, Try.ntmps17
    go_wp2
    go_ret
    exact ⟨congrArg (fun b => Ending.returned (.bool b)) HE.out.symm, Below.refl _ _⟩
  obtain ⟨n, hxl⟩ : ∃ n, x.length = n := ⟨_, rfl⟩
  have hyl : y.length = n := by omega
  have hn' : n ≤ 100000 := by omega
  have HX : Hid (OBd x ∧ OsIn w a x ∧ x.length = n) := ⟨hx, h, hxl⟩
  have HY : Hid (OBd y ∧ OsIn w b y ∧ y.length = n) := ⟨hy, h', hyl⟩
  rw [hxl, hyl]
  clear h h' hx hy hl hn hm hxl hyl
  go_enter Try.func17, Try.ntmps17
  go_wp2
  go_loopw [5] (fun i wr => ∃ k : Nat, k ≤ n ∧ Hid (x.take k = y.take k) ∧ i = .int .i64 k ∧ Below w.heap.size w wr) (fun i _ => n - (intOf i).toNat)
  case atStart => exact ⟨0, Nat.zero_le _, rfl, rfl, Below.refl _ _⟩
  case round =>
    obtain ⟨k, hk, ht, rfl, hbr⟩ := hrel
    by_cases hlt : k < n
    · obtain ⟨x1, x2, x3⟩ := HX.out
      obtain ⟨y1, y2, y3⟩ := HY.out
      have hu1 := x1.at (i := k) (by omega)
      have hv1 := y1.at (i := k) (by omega)
      obtain ⟨b1, o1, wa, wc, pa, pc, rfl, c0, c1, c2, l1, l2⟩ := x2.below hbr k (by omega)
      obtain ⟨b2, o2, va, vc, qa, qc, rfl, d0, d1, d2, m1, m2⟩ := y2.below hbr k (by omega)
      have HT : Hid (x.getD k default = y.getD k default → x.take (k + 1) = y.take (k + 1)) := fun e => otake_ext ht.out (by omega) (by omega) e
      have HF : Hid (x.getD k default ≠ y.getD k default → decide (x = y) = false) := fun e => decide_eq_false (fun e2 => e (by rw [e2]))
      obtain ⟨u, hu⟩ : ∃ u, x.getD k default = u := ⟨_, rfl⟩
      obtain ⟨v, hv⟩ : ∃ v, y.getD k default = v := ⟨_, rfl⟩
      rw [hu] at c0 c1 c2 l1 l2 HT HF hu1
      rw [hv] at d0 d1 d2 m1 m2 HT HF hv1
      clear hu hv x1 x2 x3 y1 y2 y3
      obtain ⟨us, uw, up⟩ := u
      obtain ⟨vs, vw, vp⟩ := v
      simp only at c0 c1 c2 l1 l2 d0 d1 d2 m1 m2 hu1 hv1
      have HI1 : Hid (∀ W, Below wr.heap.size wr W → Calls Try.prog 31 #[.slice wa uw.length wc, .slice va vw.length vc] W fun e w' => e = .returned (.bool (decide (uw = vw))) ∧ Below wr.heap.size wr w') := fun W hb => (rints_any wa va uw vw wc vc hu1.1 hv1.1 W (IIn.below l1 hb) (IIn.below m1 hb)).mono fun e w' g => ⟨g.1, hb.trans (g.2.mono hb.size)⟩
      have HI2 : Hid (∀ W, Below wr.heap.size wr W → Calls Try.prog 31 #[.slice pa up.length pc, .slice qa vp.length qc] W fun e w' => e = .returned (.bool (decide (up = vp))) ∧ Below wr.heap.size wr w') := fun W hb => (rints_any pa qa up vp pc qc hu1.2 hv1.2 W (IIn.below l2 hb) (IIn.below m2 hb)).mono fun e w' g => ⟨g.1, hb.trans (g.2.mono hb.size)⟩
      clear l1 l2 m1 m2 hu1 hv1
      go_wp2_with (fail)
      refine region_tail 10 (by kernel_rfl) (by kernel_rfl) ?_
      simp only [List.take_succ_cons, List.take_zero, List.drop_succ_cons, List.drop_zero]
      repeat still_step
      refine wpStill_nil ?_
      go_wp2_with (fail)
      refine Calls.mono (HI1.out _ (Below.refl _ _).drew) ?_
      rintro e w1 ⟨rfl, hb1⟩
      have e0 := (hb1.cell (lt_of_cell c0)).trans c0
      have e1 := (hb1.cell (lt_of_cell c2)).trans c2
      have f0 := (hb1.cell (lt_of_cell d0)).trans d0
      have f1 := (hb1.cell (lt_of_cell d2)).trans d2
      go_wp2_with (fail)
      refine region_tail 10 (by kernel_rfl) (by kernel_rfl) ?_
      simp only [List.take_succ_cons, List.take_zero, List.drop_succ_cons, List.drop_zero]
      repeat still_step
      refine wpStill_nil ?_
      go_wp2_with (fail)
      refine Calls.mono (HI2.out _ hb1.drew) ?_
      rintro e w2 ⟨rfl, hb2⟩
      have g0 := (hb2.cell (lt_of_cell c0)).trans c0
      have g1 := (hb2.cell (lt_of_cell d0)).trans d0
      have hB2 : Below w.heap.size w w2 := hbr.trans (hb2.mono hbr.size)
      clear c0 c1 c2 d0 d1 d2 e0 e1 f0 f1 hb1 hb2 HI1 HI2
      by_cases q1 : us = vs
      · subst q1
        by_cases q2 : uw = vw
        · subst q2
          by_cases q3 : up = vp
          · subst q3
            have ht' : Hid (x.take (k + 1) = y.take (k + 1)) := HT.out rfl
            clear HT HF
            go_wp2
            go_region
            all_goals go_wp2
            all_goals go_roundw
            case rel => exact ⟨k + 1, by omega, ht', by go_num, hB2.drew⟩
            case measure => simp [intOf]; omega
          · have HE : Hid (decide (x = y) = false) := HF.out (by simpa using q3)
            rw [decide_eq_false q3]
            clear HT HF q3
            go_wp2
            go_region
            all_goals go_wp2
            all_goals go_ret
            all_goals exact ⟨congrArg (fun b => Ending.returned (.bool b)) HE.out.symm, hB2.drew⟩
        · have HE : Hid (decide (x = y) = false) := HF.out (fun e => q2 (by simp only [Oc.mk.injEq] at e; exact e.2.1))
          rw [decide_eq_false q2]
          clear HT HF q2
          go_wp2
          go_region
          all_goals go_wp2
          all_goals go_ret
          all_goals exact ⟨congrArg (fun b => Ending.returned (.bool b)) HE.out.symm, hB2.drew⟩
      · have HE : Hid (decide (x = y) = false) := HF.out (fun e => q1 (by simp only [Oc.mk.injEq] at e; exact e.1))
        have q1' : (us != vs) = true := by simpa using q1
        obtain ⟨bw, hbw⟩ : ∃ b, decide (uw = vw) = b := ⟨_, rfl⟩
        obtain ⟨bp, hbp⟩ : ∃ b, decide (up = vp) = b := ⟨_, rfl⟩
        rw [hbw, hbp]
        clear HT HF q1 hbw hbp HX HY ht
        go_wp2
        go_region
        all_goals go_wp2
        all_goals go_ret
        all_goals exact ⟨congrArg (fun b => Ending.returned (.bool b)) HE.out.symm, hB2.drew⟩
    · have HE : Hid (decide (x = y) = true) := decide_eq_true (by
        have := ht.out
        rwa [List.take_of_length_le (by rw [HX.out.2.2]; omega), List.take_of_length_le (by rw [HY.out.2.2]; omega)] at this)
      go_wp2
      go_ret
      exact ⟨congrArg (fun b => Ending.returned (.bool b)) HE.out.symm, hbr⟩

end Go.Proofs.Ytgofbkgfonlceac
