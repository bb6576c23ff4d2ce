/-
  Whether two lists of outcomes are the same, by the document.
  What an order reads, in a list of one's own.
  The library's iterator that goes through numbers from behind.
-/
import Derived.Test.YtocfocjnnjdcgaaDoorSpaceP
import Derived.Test.YtocfocjnnjdcgaaDoorRDoP
import Derived.Test.YtocfocjnnjdcgaaDoorLivC
import Derived.Test.YtocfocjnnjdcgaaDoorLivD
namespace Go.Proofs.YtocfocjnnjdcgaaDoor
section
open Go.RowKit

/-- A list of outcomes lies in w. -/
def OsIn (w : World) (a : Option Addr) (l : List Oc) : Prop := ∀ i, i < l.length → ∃ b o wa wc pa pc, a = some ⟨b, o, none⟩ ∧ w.cell? ⟨b, o + i * 3, none⟩ = some (.int .i64 (l.getD i default).st) ∧ w.cell? ⟨b, o + i * 3 + 1, none⟩ = some (.slice wa (l.getD i default).ws.length wc) ∧ w.cell? ⟨b, o + i * 3 + 2, none⟩ = some (.slice pa (l.getD i default).pr.length pc) ∧ LI w wa (l.getD i default).ws ∧ LI w pa (l.getD i default).pr
theorem OsIn.below {w w' : World} {a : Option Addr} {l : List Oc} (h : OsIn w a l) (hb : Below w.heap.size w w') : OsIn w' a l := fun i hi => by
  obtain ⟨b, o, wa, wc, pa, pc, h1, h2, h3, h4, h5, h6⟩ := h i hi
  exact ⟨b, o, wa, wc, pa, pc, h1, (hb.cell (lt_of_cell h2)).trans h2, (hb.cell (lt_of_cell h3)).trans h3, (hb.cell (lt_of_cell h4)).trans h4, IIn.below h5 hb, IIn.below h6 hb⟩
/-- Few outcomes, each with few words and prints. -/
def OBd (l : List Oc) : Prop := l.length ≤ 100000 ∧ ∀ o, o ∈ l → o.ws.length ≤ 100000 ∧ o.pr.length ≤ 100000
theorem OBd.at {l : List Oc} (h : OBd l) {i : Nat} (hi : i < l.length) : (l.getD i default).ws.length ≤ 100000 ∧ (l.getD i default).pr.length ≤ 100000 := by
  refine h.2 _ ?_
  rw [List.getD_eq_getElem?_getD, List.getElem?_eq_getElem hi]
  exact List.getElem_mem hi
theorem otake_ext {x y : List Oc} {k : Nat} (h : x.take k = y.take k) (h1 : k < x.length) (h2 : k < y.length) (e : x.getD k default = y.getD k default) : x.take (k + 1) = y.take (k + 1) := by
  rw [List.getD_eq_getElem?_getD, List.getD_eq_getElem?_getD, List.getElem?_eq_getElem h1, List.getElem?_eq_getElem h2] at e
  rw [List.take_add_one, List.take_add_one, h, List.getElem?_eq_getElem h1, List.getElem?_eq_getElem h2, show x[k] = y[k] from e]

set_option maxRecDepth 100000 in
set_option maxHeartbeats 3200000 in
theorem rsame_any (a b : Option Addr) (x y : List Oc) (c d : Nat) (hx : OBd x) (hy : OBd y) (w : World) (h : OsIn w a x) (h' : OsIn w b y) :
    Calls Tryd.prog 26 #[.slice a x.length c, .slice b y.length d] w fun e w' => e = .returned (.bool (decide (x = y))) ∧ Below w.heap.size w w' := by
  have hn := hx.1
  have hm := hy.1
  by_cases hl : x.length = y.length
  rotate_left
  · have HE : Hid (decide (x = y) = false) := decide_eq_false (fun e => hl (by rw [e]))
    have hl' : ¬ (x.length : Int) = y.length := by omega
    go_enter Tryd.func26, Tryd.ntmps26
    go_wp2
    go_ret
    exact ⟨congrArg (fun b => Ending.returned (.bool b)) HE.out.symm, Below.refl _ _⟩
  obtain ⟨n, hxl⟩ : ∃ n, x.length = n := ⟨_, rfl⟩
  have hyl : y.length = n := by omega
  have hn' : n ≤ 100000 := by omega
  have HX : Hid (OBd x ∧ OsIn w a x ∧ x.length = n) := ⟨hx, h, hxl⟩
  have HY : Hid (OBd y ∧ OsIn w b y ∧ y.length = n) := ⟨hy, h', hyl⟩
  rw [hxl, hyl]
  clear h h' hx hy hl hn hm hxl hyl
  go_enter Tryd.func26, Tryd.ntmps26
  go_wp2
  go_loopw [5] (fun i wr => ∃ k : Nat, k ≤ n ∧ Hid (x.take k = y.take k) ∧ i = .int .i64 k ∧ Below w.heap.size w wr) (fun i _ => n - (intOf i).toNat)
  case atStart => exact ⟨0, Nat.zero_le _, rfl, rfl, Below.refl _ _⟩
  case round =>
    obtain ⟨k, hk, ht, rfl, hbr⟩ := hrel
    by_cases hlt : k < n
    · obtain ⟨x1, x2, x3⟩ := HX.out
      obtain ⟨y1, y2, y3⟩ := HY.out
      have hu1 := x1.at (i := k) (by omega)
      have hv1 := y1.at (i := k) (by omega)
      obtain ⟨b1, o1, wa, wc, pa, pc, rfl, c0, c1, c2, l1, l2⟩ := x2.below hbr k (by omega)
      obtain ⟨b2, o2, va, vc, qa, qc, rfl, d0, d1, d2, m1, m2⟩ := y2.below hbr k (by omega)
      have HT : Hid (x.getD k default = y.getD k default → x.take (k + 1) = y.take (k + 1)) := fun e => otake_ext ht.out (by omega) (by omega) e
      have HF : Hid (x.getD k default ≠ y.getD k default → decide (x = y) = false) := fun e => decide_eq_false (fun e2 => e (by rw [e2]))
      obtain ⟨u, hu⟩ : ∃ u, x.getD k default = u := ⟨_, rfl⟩
      obtain ⟨v, hv⟩ : ∃ v, y.getD k default = v := ⟨_, rfl⟩
      rw [hu] at c0 c1 c2 l1 l2 HT HF hu1
      rw [hv] at d0 d1 d2 m1 m2 HT HF hv1
      clear hu hv x1 x2 x3 y1 y2 y3
      obtain ⟨us, uw, up⟩ := u
      obtain ⟨vs, vw, vp⟩ := v
      simp only at c0 c1 c2 l1 l2 d0 d1 d2 m1 m2 hu1 hv1
      have HI1 : Hid (∀ W, Below wr.heap.size wr W → Calls Tryd.prog 14 #[.slice wa uw.length wc, .slice va vw.length vc] W fun e w' => e = .returned (.bool (decide (uw = vw))) ∧ Below wr.heap.size wr w') := fun W hb => (rints_any wa va uw vw wc vc hu1.1 hv1.1 W (IIn.below l1 hb) (IIn.below m1 hb)).mono fun e w' g => ⟨g.1, hb.trans (g.2.mono hb.size)⟩
      have HI2 : Hid (∀ W, Below wr.heap.size wr W → Calls Tryd.prog 14 #[.slice pa up.length pc, .slice qa vp.length qc] W fun e w' => e = .returned (.bool (decide (up = vp))) ∧ Below wr.heap.size wr w') := fun W hb => (rints_any pa qa up vp pc qc hu1.2 hv1.2 W (IIn.below l2 hb) (IIn.below m2 hb)).mono fun e w' g => ⟨g.1, hb.trans (g.2.mono hb.size)⟩
      clear l1 l2 m1 m2 hu1 hv1
      go_wp2_with (fail)
      refine region_tail 10 (by kernel_rfl) (by kernel_rfl) ?_
      simp only [List.take_succ_cons, List.take_zero, List.drop_succ_cons, List.drop_zero]
      repeat still_step
      refine wpStill_nil ?_
      go_wp2_with (fail)
      refine Calls.mono (HI1.out _ (Below.refl _ _).drew) ?_
      rintro e w1 ⟨rfl, hb1⟩
      have e0 := (hb1.cell (lt_of_cell c0)).trans c0
      have e1 := (hb1.cell (lt_of_cell c2)).trans c2
      have f0 := (hb1.cell (lt_of_cell d0)).trans d0
      have f1 := (hb1.cell (lt_of_cell d2)).trans d2
      go_wp2_with (fail)
      refine region_tail 10 (by kernel_rfl) (by kernel_rfl) ?_
      simp only [List.take_succ_cons, List.take_zero, List.drop_succ_cons, List.drop_zero]
      repeat still_step
      refine wpStill_nil ?_
      go_wp2_with (fail)
      refine Calls.mono (HI2.out _ hb1.drew) ?_
      rintro e w2 ⟨rfl, hb2⟩
      have g0 := (hb2.cell (lt_of_cell c0)).trans c0
      have g1 := (hb2.cell (lt_of_cell d0)).trans d0
      have hB2 : Below w.heap.size w w2 := hbr.trans (hb2.mono hbr.size)
      clear c0 c1 c2 d0 d1 d2 e0 e1 f0 f1 hb1 hb2 HI1 HI2
      by_cases q1 : us = vs
      · subst q1
        by_cases q2 : uw = vw
        · subst q2
          by_cases q3 : up = vp
          · subst q3
            have ht' : Hid (x.take (k + 1) = y.take (k + 1)) := HT.out rfl
            clear HT HF
            go_wp2
            go_region
            all_goals go_wp2
            all_goals go_roundw
            case rel => exact ⟨k + 1, by omega, ht', by go_num, hB2.drew⟩
            case measure => simp [intOf]; omega
          · have HE : Hid (decide (x = y) = false) := HF.out (by simpa using q3)
            rw [decide_eq_false q3]
            clear HT HF q3
            go_wp2
            go_region
            all_goals go_wp2
            all_goals go_ret
            all_goals exact ⟨congrArg (fun b => Ending.returned (.bool b)) HE.out.symm, hB2.drew⟩
        · have HE : Hid (decide (x = y) = false) := HF.out (fun e => q2 (by simp only [Oc.mk.injEq] at e; exact e.2.1))
          rw [decide_eq_false q2]
          clear HT HF q2
          go_wp2
          go_region
          all_goals go_wp2
          all_goals go_ret
          all_goals exact ⟨congrArg (fun b => Ending.returned (.bool b)) HE.out.symm, hB2.drew⟩
      · have HE : Hid (decide (x = y) = false) := HF.out (fun e => q1 (by simp only [Oc.mk.injEq] at e; exact e.1))
        have q1' : (us != vs) = true := by simpa using q1
        obtain ⟨bw, hbw⟩ : ∃ b, decide (uw = vw) = b := ⟨_, rfl⟩
        obtain ⟨bp, hbp⟩ : ∃ b, decide (up = vp) = b := ⟨_, rfl⟩
        rw [hbw, hbp]
        clear HT HF q1 hbw hbp HX HY ht
        go_wp2
        go_region
        all_goals go_wp2
        all_goals go_ret
        all_goals exact ⟨congrArg (fun b => Ending.returned (.bool b)) HE.out.symm, hB2.drew⟩
    · have HE : Hid (decide (x = y) = true) := decide_eq_true (by
        have := ht.out
        rwa [List.take_of_length_le (by rw [HX.out.2.2]; omega), List.take_of_length_le (by rw [HY.out.2.2]; omega)] at this)
      go_wp2
      go_ret
      exact ⟨congrArg (fun b => Ending.returned (.bool b)) HE.out.symm, hbr⟩
end

section
open Go.RowKit

section
attribute [local go_sem ↓] appS_eq
set_option maxRecDepth 100000 in
set_option maxHeartbeats 3200000 in
/-- What an order reads, in a list of one's own. -/
theorem reads_own (op a b c : Int) (ho : 1 ≤ op ∧ op ≤ 18) (w : World) :
    Calls Tryd.prog 61 #[ints4 op a b c] w fun e w' => ∃ ra rc, e = .returned (.slice ra (rdL op a b c).length rc) ∧ OwL w' w.heap.size (.slice ra (rdL op a b c).length rc) (rdL op a b c) ∧ Below w.heap.size w w' := by
  obtain ⟨hrd, hlen, hin⟩ := us_rd a b c ho
  have hbx := heap_alloc_new w (.cells #[.int .i64 op, .int .i64 a, .int .i64 b, .int .i64 c] 55)
  have HU := Hid.out (p := Hid _) (uses_any op a b c ho (w.alloc (.cells #[.int .i64 op, .int .i64 a, .int .i64 b, .int .i64 c] 55)) w.heap.size hbx)
  have HAT : Hid (∀ V, Below (w.alloc (.cells #[.int .i64 op, .int .i64 a, .int .i64 b, .int .i64 c] 55)).heap.size (w.alloc (.cells #[.int .i64 op, .int .i64 a, .int .i64 b, .int .i64 c] 55)) V → Below w.heap.size w V ∧ ∀ x, 1 ≤ x ∧ x ≤ 3 → V.cell? ⟨w.heap.size, x, none⟩ = some (.int .i64 (fldI a b c x))) := fun V hV => by
    have h1 := (hV.block _ (by simp)).trans hbx
    refine ⟨(below_one w _).trans (hV.mono (below_one w _).size), fun x hx => ?_⟩
    rcases (by omega : x = 1 ∨ x = 2 ∨ x = 3) with rfl | rfl | rfl
    all_goals exact box_cell h1 rfl
  obtain ⟨us, hus⟩ : ∃ us, usR op = us := ⟨_, rfl⟩
  rw [hus] at HU hrd hlen hin
  rw [hrd]
  have HIN := Hid.out (p := Hid _) (And.intro hlen hin)
  obtain ⟨F, hF⟩ : ∃ F, fldI a b c = F := ⟨_, rfl⟩
  rw [hF] at HAT ⊢
  obtain ⟨up, hup⟩ : ∃ up, ptrV w.heap.size (usW op) = up := ⟨_, rfl⟩
  rw [hup] at HU
  clear hrd hbx hus hF hlen hin hup ho
  go_enter Tryd.func61, Tryd.ntmps61
  go_wp2_with fail
  refine Calls.mono HU.out ?_
  rintro e w1 ⟨ra, rc, rfl, hP, hb⟩
  have H1 := Hid.out (p := Hid _) (And.intro hP hb)
  have HS : Hid (Below w.heap.size w w1) := (HAT.out w1 hb).1
  obtain ⟨n, hn⟩ : ∃ n, us.length = n := ⟨_, rfl⟩
  have HNL := Hid.out (p := Hid _) hn
  rw [hn] at ⊢
  clear hP hb HU hn
  go_wp2_with fail
  go_loopw [3, 14] (fun v x wr => ∃ k : Nat, k ≤ n ∧ x = .int .i64 k ∧ Hid (OwL wr w1.heap.size v ((us.take k).map F) ∧ Below w1.heap.size w1 wr)) (fun _ x _ => n - (intOf x).toNat)
  case atStart => exact ⟨0, Nat.zero_le _, rfl, owL_nil _ _, Below.refl _ _⟩
  case round =>
    obtain ⟨k, hk, rfl, HI⟩ := hrel
    by_cases hlt : k < n
    · obtain ⟨pb, po, e, hc⟩ := H1.out.1 k (by rw [HNL.out]; exact hlt)
      subst e
      obtain ⟨y, hy⟩ : ∃ y, us.getD k 0 = y := ⟨_, rfl⟩
      rw [hy] at hc
      have hyb : 1 ≤ y ∧ y ≤ 3 := by
        refine HIN.out.2 y ?_
        rw [← hy, List.getD_eq_getElem?_getD, List.getElem?_eq_getElem (by rw [HNL.out]; exact hlt)]
        exact List.getElem_mem _
      have hbw : Below (w.alloc (.cells #[.int .i64 op, .int .i64 a, .int .i64 b, .int .i64 c] 55)).heap.size (w.alloc (.cells #[.int .i64 op, .int .i64 a, .int .i64 b, .int .i64 c] 55)) wr := H1.out.2.trans (HI.out.2.mono H1.out.2.size)
      have hcw := (HI.out.2.cell (lt_of_cell hc)).trans hc
      have hfx := (HAT.out wr hbw).2 y hyb
      obtain ⟨ua, uc, hu⟩ := HI.out.1.form
      have hl1 : ((us.take k).map F).length = k := by rw [List.length_map, List.length_take, HNL.out]; omega
      have hl2 : (us.take (k + 1)).map F = (us.take k).map F ++ [F y] := by
        rw [List.take_add_one, List.map_append, ← hy, List.getD_eq_getElem?_getD, List.getElem?_eq_getElem (by rw [HNL.out]; exact hlt)]
        rfl
      have hkn := HIN.out.1
      rw [HNL.out] at hkn
      obtain ⟨g9, cap, w3, r1, r2, r3⟩ := app_num HI.out.1 (Below.refl _ _) HI.out.2.size (F y) (by rw [hl1]; omega)
      rw [hu] at r1
      rw [hl1] at hu r1 r2
      rw [← hl2] at r2
      have HN : Hid (OwL w3 w1.heap.size (.slice (some ⟨g9, 0, none⟩) (k + 1) cap) ((us.take (k + 1)).map F) ∧ Below w1.heap.size w1 w3) := ⟨r2, r3 w1 HI.out.2⟩
      have hki : (k : Int) < (n : Int) := by omega
      clear r2 r3 hbw hc hy hyb hl1 hl2 HI
      subst hu
      go_wp2_with fail
      go_roundw
      case rel => exact ⟨k + 1, by omega, by go_num, HN.out⟩
      case measure => simp [intOf]; omega
    · obtain rfl : n = k := by omega
      go_wp2_with fail
      have h1 := HI.out.1
      rw [← HNL.out, List.take_length] at h1
      obtain ⟨ua, uc, hu⟩ := h1.form
      subst hu
      refine bodyPost_ret (v := .slice ua (us.map F).length uc) (by simp [results, Tryd.results61, go_sem]) rfl ⟨ua, uc, rfl, h1.low HS.out.size, HS.out.trans (HI.out.2.mono HS.out.size)⟩
end
end

section
open Go.RowKit Go.Shelf

attribute [local go_sem] Oper.semAt_some

/-- A number of a list. -/
def pth (P : List Int) (i : Nat) : Int := P.getD i 0
/-- A place of a list, as it is handed on. -/
def inV (P : List Int) (l : Nat) (p : Fin l) : Array Value := #[.int .i64 (p.1 : Int), .int .i64 (pth P p.1)]
set_option maxRecDepth 100000 in
set_option maxHeartbeats 2000000 in
theorem bckI1_in (F : Fence) (n : Nat) (hF : F.fn 90) (hro : F.round = none) (hn : 1 ≤ n) (lp Bs n₀ x y : Nat) (ca : Option Addr) (cc : Nat) (P : List Int) (l : Nat) (hpl : P.length = l) (hl : l ≤ 1000) (J Jx : List (Fin l) → World → Prop)
    (hY : ∀ pre z W, J pre W → pre.length < l → YieldAt F (n - 1) Tryd.prog lp (inV P l z) W fun e W' =>
      (e = .returned (.bool true) ∧ J (pre ++ [z]) W' ∧ KpL n₀ x y W W') ∨ (e = .returned (.bool false) ∧ Jx (pre ++ [z]) W'))
    (W : World) (hBs : W.cell? ⟨Bs, 0, none⟩ = some (.slice ca l cc)) (hBn : Bs < n₀ ∧ Bs ≠ x ∧ Bs ≠ y) (hc : SIs W ca P) (hcn : ∀ b o, ca = some ⟨b, o, none⟩ → 0 < l → b < n₀ ∧ b ≠ x ∧ b ≠ y) (h0 : J [] W) :
    CallsIn F n Tryd.prog 90 #[.func (.yield lp) #[] #[], .pointer (some ⟨Bs, 0, none⟩)] W fun e W' => (∃ v, e = .returned v) ∧
      ((∃ ys, ys = bckF l l ∧ J ys W') ∨ (∃ pre, (∃ k, k ≤ l ∧ pre = bckF l k) ∧ Jx pre W')) := by
  refine callsIn_of_wp Tryd.func90 rfl hF ?_ hro
  simp only [Tryd.ntmps90, List.size_toArray, List.length_cons, List.length_nil, Nat.reduceAdd, Nat.reduceSub, Array.replicate_succ, Array.replicate_zero, List.push_toArray, List.append_toArray, List.nil_append, List.cons_append]
  have HC : Hid (SIs W ca P) := hc
  have HPL := Hid.out (p := Hid _) hpl
  have HCN := Hid.out (p := Hid _) hcn
  have HY := Hid.out (p := Hid _) hY
  have HBN := Hid.out (p := Hid _) hBn
  clear hc hY hcn hBn hpl
  gi_wp2
  gi_loopw [3] (fun i wr => ∃ k : Nat, k ≤ l ∧ i = .int .i64 ((l : Int) - 1 - (k : Int)) ∧ Hid (J (bckF l k) wr) ∧ KpL n₀ x y W wr) (fun i _ => (intOf i + 1).toNat)
  case atStart => exact ⟨0, Nat.zero_le _, by simp, h0, KpL.refl _ _ _ _⟩
  case round =>
    obtain ⟨k, hk, rfl, hJs, hnx⟩ := hrel
    have hbx : wr.cell? ⟨Bs, 0, none⟩ = some (.slice ca l cc) := hnx.cell hBs HBN.out.1 HBN.out.2.1 HBN.out.2.2
    by_cases hlt : k < l
    · obtain ⟨p, hp⟩ : ∃ p : Nat, (l : Int) - 1 - (k : Int) = (p : Int) := ⟨l - 1 - k, by omega⟩
      have hpl : p < l := by omega
      obtain ⟨b, o, rfl, c0⟩ := HC.out p (by rw [HPL.out]; exact hpl)
      obtain ⟨n1, n2, n3⟩ := HCN.out b o rfl (by omega)
      have d0 := hnx.cell c0 n1 n2 n3
      obtain ⟨fn, tmps, assign, body, hy, hR⟩ := HY.out (bckF l k) ⟨p, hpl⟩ wr hJs.out (by rw [bckF_length _ _ hk]; omega)
      have hbk : bckF l (k + 1) = bckF l k ++ [⟨p, hpl⟩] := bckF_succ hlt (by show p = _; omega)
      simp only [inV, pth] at hy
      rw [hp]
      have HBK := Hid.out (p := Hid _) hbk
      have HP := Hid.out (p := Hid _) hp
      clear hbk c0 n1 n2 n3
      obtain ⟨x0, hx0⟩ : ∃ v, P.getD p 0 = v := ⟨_, rfl⟩
      rw [hx0] at d0 hy
      clear hx0
      gi_wp2
      refine hR.mono ?_
      rintro e W3 (⟨rfl, hJ3, hk3⟩ | ⟨rfl, hJx3⟩)
      · gi_wp2
        go_roundw
        case rel => exact ⟨k + 1, by omega, by rw [← HP.out]; simp <;> omega, (by rw [HBK.out]; exact hJ3 : Hid (J (bckF l (k + 1)) W3)), kpL_t hnx hk3⟩
        case measure => first | (simp [intOf]; done) | (simp [intOf]; omega)
      · gi_wp2
        refine bodyPost_ret (results_none rfl _ _ _) rfl ?_
        exact ⟨⟨_, rfl⟩, .inr ⟨_, ⟨k + 1, by omega, HBK.out.symm⟩, hJx3⟩⟩
    · obtain rfl : k = l := by omega
      have hneg : (k : Int) - 1 - (k : Int) = -1 := by omega
      rw [hneg]
      gi_wp2
      go_end0
      exact ⟨⟨_, rfl⟩, .inl ⟨_, rfl, hJs.out⟩⟩
set_option maxHeartbeats 1000000 in
theorem bckI_in (F : Fence) (n : Nat) (hF : F.fn 72) (hro : F.round = none) (a : Option Addr) (len cap : Nat) (w : World) :
    CallsIn F n Tryd.prog 72 #[.slice a len cap] w fun e w' => e = .returned (.func (.func 90) #[] #[.pointer (some ⟨w.heap.size, 0, none⟩)]) ∧ w' = w.alloc (.cells #[.slice a len cap] 23) := by
  refine callsIn_of_wp Tryd.func72 rfl hF ?_ hro
  simp only [Tryd.ntmps72, List.size_toArray, List.length_cons, List.length_nil, Nat.reduceAdd, Nat.reduceSub, Array.replicate_succ, Array.replicate_zero, List.push_toArray, List.append_toArray, List.nil_append, List.cons_append]
  gi_wp2
  go_ret
  exact ⟨rfl, rfl⟩
theorem bckI_stops (F : Fence) (n : Nat) (hF : F.fn 90) (hro : F.round = none) (hn : 1 ≤ n) (Bs n₀ x y : Nat) (ca : Option Addr) (cc : Nat) (P : List Int) (l : Nat) (hpl : P.length = l) (hl : l ≤ 1000) (w : World) (hBs : w.cell? ⟨Bs, 0, none⟩ = some (.slice ca l cc)) (hBn : Bs < n₀ ∧ Bs ≠ x ∧ Bs ≠ y) (hn₀ : n₀ ≤ w.heap.size) (hc : SIs w ca P) (hcn : ∀ b o, ca = some ⟨b, o, none⟩ → 0 < l → b < n₀ ∧ b ≠ x ∧ b ≠ y) :
    SeqStopsK F n Tryd.prog 90 #[.pointer (some ⟨Bs, 0, none⟩)] (inV P l) (KpL n₀ x y) (fun ys => ys = bckF l l) (fun pre => ∃ k, k ≤ l ∧ pre = bckF l k) l w := fun lp J Jx W hW _ _ hY h0 =>
  bckI1_in F n hF hro hn lp Bs n₀ x y ca cc P l hpl hl J Jx hY W ((hW.cell (p := ⟨Bs, 0, none⟩) (by show Bs < _; omega)).trans hBs) hBn (hc.below hW) hcn h0
end

end Go.Proofs.YtocfocjnnjdcgaaDoor
