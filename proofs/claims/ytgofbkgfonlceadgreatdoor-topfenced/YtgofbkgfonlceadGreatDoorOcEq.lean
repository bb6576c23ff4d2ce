/-
  The fenced program: its outcomes without stores that wait are those of the plain one too, so it is the same with them and without. Plain functions.
  Whether two lists of outcomes are the same, by the program: slices.EqualFunc.
  Whether stores that wait bring anything about, by the program: Robust.
-/
import Derived.Test.YtgofbkgfonlceadGreatDoorZPut
import Derived.Test.YtgofbkgfonlceadGreatDoorOpens3
import Derived.Test.YtgofbkgfonlceadGreatDoorOcSC
import Derived.Test.YtgofbkgfonlceadGreatDoorRDoP
namespace Go.Proofs.YtgofbkgfonlceadGreatDoor
section
open Go.RowKit

section
variable {n m lk rg : Nat} {L L' : Nat → Nat} {X X' : Nat → Nat → Nat → Int} {pl : Nat → Nat → Nat}
theorem full_bwd0 (hR : FullR n L X L' X' pl) (hc : COk n L X m lk rg) {s0 A : Sx} (hs : SOk n L m lk rg 0 s0) (hf : s0.fell = false) (hb : ∀ t, t < n → (thOf s0 t).wait = [] ∧ (thOf s0 t).pc = 0) (h : Rch (nxX L X 0) s0 A) : Rch (nxX L' X' 0) s0 (mapS pl A) := by
  induction h with
  | base => rw [map_begin hR.z hs.ths (fun t ht => (hb t ht).2)]; exact .base
  | @step A A' hA hnx ih =>
    obtain ⟨hok, hAf⟩ := reach_ok hs hf hc (by omega) hA
    rcases nx_cases hAf (fun t ht => hok.wlen t (by rw [← hok.ths]; exact ht)) hnx with ⟨t, p, rs, k, ht, ha, he, rfl⟩ | ⟨t, k, ht, hk, _, _⟩
    · have htn : t < n := by rw [← hok.ths]; exact ht
      have hAw := hok.bare rfl t htn
      have htS : t < (mapS pl A).ths.length := by rw [map_len]; exact ht
      have h1 := map_at (pl := pl) ht
      have hae := at_able h1 (hok.pc t htn) (hR.e t htn) (hR.lt t _ htn) (X := X) (X' := X') (mov_at hR htn h1) rfl
      have hl := able_lt ha
      have hmv := mov_at hR htn h1 hl
      have haS := hae.2.trans ha
      have hSf : (mapS pl A).fell = false := hAf
      have hSw : (thOf (mapS pl A) t).wait = [] := by rw [h1]; exact hAw
      rw [hAw]
      cases hwt : wtO (opT X A t 0) with
      | false =>
        have he2 := at_eff h1 hmv (hR.nx t _ htn hl hwt) rfl rfl
        rw [he] at he2
        have hno := eff_no hwt he
        have := rch_eff ih hSf htS haS he2
        rw [hSw] at this
        rw [map_act _ _ _ hno.1 hno.2, map_set]
        exact this
      | true =>
        rcases store_eff hwt with e | ⟨x, hx, e⟩
        · rw [e] at he; cases he
        · rw [e] at he
          simp only [Option.some.injEq, Prod.mk.injEq] at he
          obtain ⟨rfl, rfl, rfl⟩ := he
          have hxS := (at_store h1 hmv rfl rfl).mpr hx
          have r1 := rch_eff ih hSf htS haS (hxS.eff hSw)
          have hst := hR.st t _ htn hl hwt
          rw [act_ak hx.zero] at r1 ⊢
          rw [hSw] at r1
          unfold storeW at r1 ⊢
          rw [if_neg (by omega)] at r1
          rw [if_neg (by omega), map_done, map_set]
          obtain ⟨S, hS⟩ : ∃ S, mapS pl A = S := ⟨_, rfl⟩
          rw [hS] at r1 h1 hSf htS ⊢
          obtain ⟨q, hq⟩ : ∃ q, (thOf S t).pc + 1 = q := ⟨_, rfl⟩
          have hq1 : q = pl t (thOf A t).pc + 1 := by rw [← hq, h1]
          rw [hq] at r1
          have e3 : doneW (setTh S t ⟨q, (thOf S t).regs, []⟩) x = setTh (doneW S x) t ⟨q, (thOf S t).regs, []⟩ := by unfold doneW setTh; split <;> rfl
          have r3 : Rch (nxX L' X' 0) s0 (setTh (doneW S x) t ⟨q, (thOf S t).regs, []⟩) := by rw [← e3]; exact r1
          have htD : t < (doneW S x).ths.length := by unfold doneW; split <;> exact htS
          have htD2 : t < (setTh (doneW S x) t ⟨q, (thOf S t).regs, []⟩).ths.length := by simpa [setTh] using htD
          have ho : opT X' (setTh (doneW S x) t ⟨q, (thOf S t).regs, []⟩) t 0 = 12 := by unfold opT; rw [th_set htD]; show X' t q 0 = 12; rw [hq1]; exact hst.2.2
          have hab : ableT L' X' (setTh (doneW S x) t ⟨q, (thOf S t).regs, []⟩) t = true := by
            unfold ableT endedT
            rw [ho, th_set htD]
            simp only
            rw [decide_eq_false (by omega)]
            rfl
          have heff : effT X' (setTh (doneW S x) t ⟨q, (thOf S t).regs, []⟩) t = some (q + 1, (thOf S t).regs, .no) := by
            unfold effT effX
            rw [ho, th_set htD]
            simp
          have r4 := rch_eff r3 (by unfold doneW setTh; split <;> exact hSf) htD2 hab heff
          rw [th_set htD, set_set] at r4
          have e5 : setTh (doneW S x) t ⟨q + 1, (thOf S t).regs, []⟩ = doneW (setTh S t ⟨pl t ((thOf A t).pc + 1), (thOf A t).regs, []⟩) x := by
            have h3 : (thOf S t).regs = (thOf A t).regs := by rw [h1]
            rw [hst.1, hq1, h3]
            unfold doneW setTh
            split <;> rfl
          rw [← e5]
          exact r4
    · rw [hok.bare rfl t (by rw [← hok.ths]; exact ht)] at hk
      cases hk
/-- Each outcome of the plain program is one of the fenced one, both without stores that wait. -/
theorem full_back0 (hR : FullR n L X L' X' pl) (hc : COk n L X m lk rg) {s0 A : Sx} (hs : SOk n L m lk rg 0 s0) (hf : s0.fell = false) (hb : ∀ t, t < n → (thOf s0 t).wait = [] ∧ (thOf s0 t).pc = 0) (h : Rch (nxX L X 0) s0 A) {o : Oc} (ho : o ∈ outsX L X 0 A) : ∃ S, Rch (nxX L' X' 0) s0 S ∧ o ∈ outsX L' X' 0 S := by
  obtain ⟨hok, hAf⟩ := reach_ok hs hf hc (by omega) h
  refine ⟨_, full_bwd0 hR hc hs hf hb h, ?_⟩
  have h1 := fun t (ht : t < n) => map_at (pl := pl) (s := A) (t := t) (by rw [hok.ths]; exact ht)
  have hae := fun t ht => at_able (h1 t ht) (hok.pc t ht) (hR.e t ht) (hR.lt t _ ht) (X := X) (X' := X') (mov_at hR ht (h1 t ht)) rfl
  rcases outs_cases hAf (fun t ht => hok.wlen t (by rw [← hok.ths]; exact ht)) ho with ⟨hm, rfl⟩ | ⟨t, ht, ha, he, rfl⟩
  · rw [moves_nil] at hm
    have hmS : movesX L' X' 0 (mapS pl A) = [] := moves_nil.mpr fun t ht => by
      have htn : t < n := by rw [← hok.ths, ← map_len (pl := pl)]; exact ht
      exact ⟨by rw [(hae t htn).2]; exact (hm t (by rw [hok.ths]; exact htn)).1, by rw [h1 t htn]; exact hok.bare rfl t htn⟩
    have := outs_end hmS
    rw [ended_eq (L := L) (L' := L') (A := A) (map_len A) (fun t ht => by
      have htn : t < n := by rw [← hok.ths]; exact ht
      exact ⟨(hae t htn).1, by rw [h1 t htn]⟩)] at this
    exact this
  · have htn : t < n := by rw [← hok.ths]; exact ht
    have hl := able_lt ha
    have hmv := mov_at hR htn (h1 t htn) hl
    have hAw := hok.bare rfl t htn
    refine outs_fall (s := mapS pl A) (by rw [map_len]; exact ht) ((hae t htn).2.trans ha) ?_
    cases hwt : wtO (opT X A t 0) with
    | true =>
      rcases store_eff (X := X') (s := mapS pl A) (t := t) (by rw [hmv.o]; exact hwt) with e | ⟨x, hx, e⟩
      · exact e
      · exfalso
        have := ((at_store (h1 t htn) hmv rfl rfl).mp hx).eff hAw
        rw [he] at this
        cases this
    | false =>
      have := at_eff (h1 t htn) hmv (hR.nx t _ htn hl hwt) rfl rfl
      rw [this, he]
      rfl
end
/-- The fenced program is the same with stores that wait and without. -/
theorem full_robust {n : Nat} {L : Nat → Nat} {X : Nat → Nat → Nat → Int} {words : List Int} {lk rg : Nat} {a b : List Oc} {mx : Nat} (hc : COk n L X words.length lk rg) (hq : COk n (lenR (bFull X) L) (numR (bFull X) L) words.length lk rg) (ha : Told (nxX (lenR (bFull X) L) (numR (bFull X) L) 0) (outsX (lenR (bFull X) L) (numR (bFull X) L) 0) (beginX n words lk rg) mx false a) (hb : Told (nxX (lenR (bFull X) L) (numR (bFull X) L) 1) (outsX (lenR (bFull X) L) (numR (bFull X) L) 1) (beginX n words lk rg) mx false b) : a = b := by
  rcases ha with ⟨e, _⟩ | ⟨_, sa, ma, _⟩
  · cases e
  rcases hb with ⟨e, _⟩ | ⟨_, sb, mb, _⟩
  · cases e
  refine sorted_same sa sb fun o => ?_
  rw [ma, mb]
  constructor
  · rintro ⟨s, h1, h2⟩
    exact ⟨s, reach_more begin_ok rfl hq h1, outs_more begin_ok rfl hq h1 h2⟩
  · rintro ⟨s, h1, h2⟩
    obtain ⟨A, h3, h4⟩ := full_out (full_rel n L X) (by decide) hc begin_ok rfl (begin_bare n words lk rg) h1 h2
    exact full_back0 (full_rel n L X) hc begin_ok rfl (begin_bare n words lk rg) h3 h4
end

section
open Go.RowKit Go.Sort Go.Shelf

theorem take_eq_next {x y : List Oc} {k : Nat} (h : x.take k = y.take k) (h1 : k < x.length) (h2 : k < y.length) (e : x.getD k default = y.getD k default) : x.take (k + 1) = y.take (k + 1) := otake_ext h h1 h2 e
set_option maxRecDepth 100000 in
set_option maxHeartbeats 1600000 in
theorem equal_any (w : World) (a b : Option Addr) (es fs : List En) (c d : Nat) (hE : EIn w a es) (hF : EIn w b fs) (hok : ∀ x, x ∈ es → EnOk w x) (hok' : ∀ x, x ∈ fs → EnOk w x) (hn : es.length ≤ 100000) (_hm : fs.length ≤ 100000) :
    Calls Tryz.prog 35 #[.slice a es.length c, .slice b fs.length d, .func (.func 36) #[] #[]] w fun e w' => e = .returned (.bool (decide (es.map En.o = fs.map En.o))) ∧ Below w.heap.size w w' := by
  by_cases hl : es.length = fs.length
  · obtain ⟨R, hR⟩ : ∃ R, decide (es.map En.o = fs.map En.o) = R := ⟨_, rfl⟩
    have HR : Hid (decide (es.map En.o = fs.map En.o) = R) := hR
    rw [hR]
    have HS : Hid (∀ W i, Below w.heap.size w W → i < es.length → Calls Tryz.prog 36 #[enV (es.getD i default), enV (fs.getD i default)] W fun e w' => e = .returned (.bool (decide ((es.getD i default).o = (fs.getD i default).o))) ∧ Below w.heap.size w w') := fun W i hb hi => by
      refine Calls.mono (same_any W _ _ ((hok _ (getD_in hi)).below hb) ((hok' _ (getD_in (by omega))).below hb)) ?_
      rintro e w' ⟨he, h2⟩
      exact ⟨he, hb.trans (h2.mono hb.size)⟩
    have HE : Hid (EIn w a es ∧ EIn w b fs) := ⟨hE, hF⟩
    obtain ⟨n, hnn⟩ : ∃ n, es.length = n := ⟨_, rfl⟩
    have HN : Hid (es.length = n ∧ fs.length = n) := ⟨hnn, by rw [← hl]; exact hnn⟩
    rw [← hl, hnn]
    rw [hnn] at hn HS
    clear hE hF hok hok' hl hnn hR
    go_enter Tryz.func35, Tryz.ntmps35
    go_wp2_with fail
    go_loopw [17] (fun i wr => ∃ k : Nat, k ≤ n ∧ i = .int .i64 k ∧ Hid (Below w.heap.size w wr ∧ (es.map En.o).take k = (fs.map En.o).take k)) (fun i _ => n - (intOf i).toNat)
    case atStart => exact ⟨0, Nat.zero_le _, rfl, Below.refl _ _, rfl⟩
    case round =>
      obtain ⟨k, hk, rfl, HI⟩ := hrel
      by_cases hlt : k < n
      · have hbr := HI.out.1
        obtain ⟨p, o, rfl, a0, a1, a2⟩ := (HE.out.1.below hbr) k (by rw [HN.out.1]; exact hlt)
        obtain ⟨p2, o2, rfl, b0, b1, b2⟩ := (HE.out.2.below hbr) k (by rw [HN.out.2]; exact hlt)
        have hp := lt_of_cell a0
        have hp2 := lt_of_cell b0
        have hsz := hbr.size
        have hT := HI.out.2
        obtain ⟨R2, hR2⟩ : ∃ R, decide ((es.getD k default).o = (fs.getD k default).o) = R := ⟨_, rfl⟩
        have HNX : Hid (R2 = true → (es.map En.o).take (k + 1) = (fs.map En.o).take (k + 1)) := fun h => by
          rw [h] at hR2
          refine take_eq_next hT (by rw [List.length_map, HN.out.1]; exact hlt) (by rw [List.length_map, HN.out.2]; exact hlt) ?_
          rw [map_getD (by rw [HN.out.1]; exact hlt), map_getD (by rw [HN.out.2]; exact hlt)]
          exact of_decide_eq_true hR2
        have HNO : Hid (R2 = false → R = false) := fun h => by
          rw [h] at hR2
          rw [← HR.out]
          refine decide_eq_false (fun e => of_decide_eq_false hR2 ?_)
          have : (es.map En.o).getD k default = (fs.map En.o).getD k default := by rw [e]
          rw [map_getD (by rw [HN.out.1]; exact hlt), map_getD (by rw [HN.out.2]; exact hlt)] at this
          exact this
        have HC : Hid (∀ W, Below w.heap.size w W → Calls Tryz.prog 36 #[enV (es.getD k default), enV (fs.getD k default)] W fun e w' => e = .returned (.bool R2) ∧ Below w.heap.size w w') := fun W hb => by
          have := HS.out W k hb hlt
          rw [hR2] at this
          exact this
        obtain ⟨⟨⟨s1, l1, m1⟩, wa1, wc1, pa1, pc1⟩, hx1⟩ : ∃ x, es.getD k default = x := ⟨_, rfl⟩
        obtain ⟨⟨⟨s2, l2, m2⟩, wa2, wc2, pa2, pc2⟩, hx2⟩ : ∃ x, fs.getD k default = x := ⟨_, rfl⟩
        rw [hx1] at a0 a1 a2
        rw [hx2] at b0 b1 b2
        have HC2 : Hid (∀ W, Below w.heap.size w W → Calls Tryz.prog 36 #[.agg #[.int .i64 s1, .slice wa1 l1.length wc1, .slice pa1 m1.length pc1], .agg #[.int .i64 s2, .slice wa2 l2.length wc2, .slice pa2 m2.length pc2]] W fun e w' => e = .returned (.bool R2) ∧ Below w.heap.size w w') := fun W hb => by
          have := HC.out W hb
          rw [hx1, hx2] at this
          exact this
        have HBR := Hid.out (p := Hid _) hbr
        dsimp only at a0 a1 a2 b0 b1 b2
        clear HC hT hR2 hx1 hx2 HI hbr
        go_wp2_with fail
        refine Calls.mono (HC2.out _ ((HBR.out.alloc hsz _).alloc (by simp; omega) _)) ?_
        rintro e w1 ⟨rfl, hb1⟩
        have HB1 := Hid.out (p := Hid _) hb1
        clear HC2 hb1 a0 a1 a2 b0 b1 b2 hp hp2 hsz HBR
        cases R2 with
        | true =>
          go_wp2_with fail
          go_roundw
          case rel => exact ⟨k + 1, by omega, by go_num, HB1.out, HNX.out (by trivial)⟩
          case measure => simp [intOf]; omega
        | false =>
          obtain rfl : R = false := HNO.out rfl
          go_wp2_with fail
          go_ret
          exact ⟨rfl, HB1.out⟩
      · obtain rfl : k = n := by omega
        have hv : R = true := by
          rw [← HR.out]
          refine decide_eq_true ?_
          have := HI.out.2
          rw [List.take_of_length_le (by rw [List.length_map, HN.out.1]; exact Nat.le_refl _), List.take_of_length_le (by rw [List.length_map, HN.out.2]; exact Nat.le_refl _)] at this
          exact this
        subst hv
        have HB := HI.out.1
        have HBR := Hid.out (p := Hid _) HB
        clear HI HB
        go_wp2_with fail
        go_ret
        exact ⟨rfl, HBR.out⟩
  · have hd : decide (es.map En.o = fs.map En.o) = false := decide_eq_false (fun h => hl (by have := congrArg List.length h; simpa using this))
    rw [hd]
    obtain ⟨n, hnn⟩ : ∃ n, es.length = n := ⟨_, rfl⟩
    obtain ⟨m, hmm⟩ : ∃ n, fs.length = n := ⟨_, rfl⟩
    rw [hnn, hmm] at hl ⊢
    have hl' : ¬ (n : Int) = (m : Int) := by omega
    clear hE hF hok hok' hn hd hnn hmm
    go_enter Tryz.func35, Tryz.ntmps35
    go_wp2_with fail
    go_ret
    exact ⟨rfl, Below.refl _ _⟩
end

section
open Go.RowKit Go.Sort Go.Shelf

theorem setCell_id {w : World} {g i : Nat} {cs : Array Value} {t : TypeId} {v : Value} (h : w.heap[g]? = some (.cells cs t)) (hi : cs[i]? = some v) : w.setCell ⟨g, i, none⟩ v = w := by
  have e : (w.setCell ⟨g, i, none⟩ v).heap = w.heap := by
    apply Array.ext_getElem?
    intro k
    by_cases hk : k = g
    · subst hk
      rw [heap_set_same h, h]
      congr 2
      apply Array.ext_getElem?
      intro j
      rw [Array.getElem?_setIfInBounds]
      by_cases hj : i = j
      · subst hj
        rw [if_pos rfl, hi]
        split
        · rfl
        · rename_i hlt
          rw [Array.getElem?_eq_none (by omega)] at hi; cases hi
      · rw [if_neg hj]
    · exact Below.heap_setCell _ _ _ _ hk
  unfold World.setCell at e ⊢
  simp only at e
  rw [e]
set_option maxRecDepth 100000 in
set_option maxHeartbeats 1600000 in
/-- Two lists of outcomes are alike. -/
theorem alike_any (w : World) (a b : Option Addr) (n m c d : Nat) (r : Bool) (h : Calls Tryz.prog 35 #[.slice a n c, .slice b m d, .func (.func 36) #[] #[]] w fun e w' => e = .returned (.bool r) ∧ Below w.heap.size w w') :
    Calls Tryz.prog 19 #[.slice a n c, .slice b m d] w fun e w' => e = .returned (.bool r) ∧ Below w.heap.size w w' := by
  have HH := Hid.out (p := Hid _) h
  clear h
  go_enter Tryz.func19, Tryz.ntmps19
  go_wp2_with fail
  refine Calls.mono HH.out ?_
  rintro e w1 ⟨rfl, hb1⟩
  have H1 := Hid.out (p := Hid _) hb1
  clear HH hb1
  go_wp2_with fail
  go_ret
  exact ⟨rfl, H1.out⟩
/-- What Robust tells of a program that passed Check. -/
def RobQ (L : Nat → Nat) (X : Nat → Nat → Nat → Int) (s0 : Sx) (r : Bool) (z : Int) : Prop :=
  (∃ l1, Told (nxX L X 0) (outsX L X 0) s0 4000 true l1 ∧ r = false ∧ z = 10) ∨ ∃ l1 f2 l2, Told (nxX L X 0) (outsX L X 0) s0 4000 false l1 ∧ Told (nxX L X 1) (outsX L X 1) s0 4000 f2 l2 ∧ ((f2 = true ∧ r = false ∧ z = 10) ∨ (f2 = false ∧ r = decide (l1 = l2) ∧ z = 0))
/-- What SC and TSO tell, for those who go on with it. -/
def SpcX (W : World) (L : Nat → Nat) (X : Nat → Nat → Nat → Int) (mode : Int) (s0 : Sx) (full : Bool) (a : Option Addr) (len : Nat) (es : List En) (w' : World) : Prop :=
  Told (nxX L X mode) (outsX L X mode) s0 4000 full (es.map En.o) ∧ es.length = len ∧ EIn w' a es ∧ (∀ x, x ∈ es → EnOk w' x) ∧ len ≤ 100000 ∧ (full = true → len = 0) ∧ Below W.heap.size W w'
theorem OutQ.x {W w' : World} {L : Nat → Nat} {X : Nat → Nat → Nat → Int} {mode : Int} {s0 : Sx} {e : Ending} (h : OutQ W L X mode s0 e w') : ∃ (full : Bool) (z : Int) (a : Option Addr) (len cap : Nat) (es : List En), e = .returned (.tuple #[.slice a len cap, ints3 z 0 0]) ∧ Hid (SpcX W L X mode s0 full a len es w' ∧ z = if full then 10 else 0) := by
  obtain ⟨full, a, len, cap, es, h1, h2, h3, h4, h5, h6, h7, h8⟩ := h.spc (Below.refl _ _)
  exact ⟨full, _, a, len, cap, es, h1, ⟨h2, h3, h4, h5, h7, h6, h8⟩, rfl⟩
set_option maxRecDepth 100000 in
set_option maxHeartbeats 3200000 in
theorem robust_yes (w : World) (ca : Option Addr) (n cc : Nat) (wa : Option Addr) (wc lk rg : Nat) (words : List Int) (A : Nat → Option Addr) (L C : Nat → Nat) (X : Nat → Nat → Nat → Int) (HR : Hid (chk n L X words.length lk rg = (0, 0, 0))) (hp : PIn w ca n A L C X) (hc : COk n L X words.length lk rg) (hn0 : 0 < n) (hw : SIs w wa words) (hnil : wa = none → words = [] ∧ wc = 0) (hfit : ∀ t i, t < n → i < L t → I64n (X t i 2)) (hwf : ∀ x, x ∈ words → I64n x) (htab : TabB w.heap.size w) :
    Calls Tryz.prog 8 #[prgV ca n cc wa words.length wc lk rg] w fun e w' => ∃ r z, e = .returned (.tuple #[.bool r, ints3 z 0 0]) ∧ RobQ L X (beginX n words lk rg) r z ∧ Below w.heap.size w w' := by
  have HSC : Hid (∀ V, Below w.heap.size w V → Calls Tryz.prog 13 #[prgV ca n cc wa words.length wc lk rg] V fun e w' => ∃ (full : Bool) (z : Int) (a : Option Addr) (len cap : Nat) (es : List En), e = .returned (.tuple #[.slice a len cap, ints3 z 0 0]) ∧ Hid (SpcX V L X 0 (beginX n words lk rg) full a len es w' ∧ z = if full then 10 else 0)) := fun V hb => Calls.mono (sc_yes V ca n cc wa wc lk rg words A L C X HR (hp.below hb) hc hn0 (hw.below hb) hnil hfit hwf (htab.up hb)) fun e w' h => h.x
  have HTS : Hid (∀ V, Below w.heap.size w V → Calls Tryz.prog 18 #[prgV ca n cc wa words.length wc lk rg] V fun e w' => ∃ (full : Bool) (z : Int) (a : Option Addr) (len cap : Nat) (es : List En), e = .returned (.tuple #[.slice a len cap, ints3 z 0 0]) ∧ Hid (SpcX V L X 1 (beginX n words lk rg) full a len es w' ∧ z = if full then 10 else 0)) := fun V hb => Calls.mono (tso_yes V ca n cc wa wc lk rg words A L C X HR (hp.below hb) hc hn0 (hw.below hb) hnil hfit hwf (htab.up hb)) fun e w' h => h.x
  obtain ⟨s0, hs0⟩ : ∃ s0, beginX n words lk rg = s0 := ⟨_, rfl⟩
  rw [hs0] at HSC HTS ⊢
  obtain ⟨m, hmm⟩ : ∃ k, words.length = k := ⟨_, rfl⟩
  rw [hmm] at HSC HTS ⊢
  clear HR hp hc hn0 hw hnil hfit hwf htab hs0 hmm
  obtain ⟨PB, hPB⟩ : ∃ o : Obj, o = .cells #[.slice ca n cc, .slice wa m wc, .int .i64 (lk : Int), .int .i64 (rg : Int)] 25 := ⟨_, rfl⟩
  obtain ⟨W0, hW0⟩ : ∃ V, V = (w.alloc PB).alloc (.cells #[.int .i64 0, .int .i64 0, .int .i64 0] 29) := ⟨_, rfl⟩
  have hz0 : W0.heap.size = w.heap.size + 1 + 1 := by rw [hW0]; simp
  have hb0 : Below w.heap.size w W0 := by rw [hW0]; exact ((Below.refl _ _).alloc (Nat.le_refl _) _).alloc (by simp) _
  have hp0 : W0.heap[w.heap.size]? = some PB := by rw [hW0]; exact box_later (heap_alloc_new _ _) _
  have hf0 : W0.heap[w.heap.size + 1]? = some (.cells #[.int .i64 0, .int .i64 0, .int .i64 0] 29) := by
    have := heap_alloc_new (w.alloc PB) (.cells #[.int .i64 0, .int .i64 0, .int .i64 0] 29)
    rw [World.size_alloc] at this
    rw [hW0]; exact this
  have HW0 : Hid ((w.alloc (.cells #[.slice ca n cc, .slice wa m wc, .int .i64 (lk : Int), .int .i64 (rg : Int)] 25)).alloc (.cells #[.int .i64 0, .int .i64 0, .int .i64 0] 29) = W0) := by rw [hW0, hPB]; exact rfl
  have HAT : Hid (∀ V, Below W0.heap.size W0 V → (V.cell? ⟨w.heap.size, 0, none⟩ = some (.slice ca n cc) ∧ V.cell? ⟨w.heap.size, 1, none⟩ = some (.slice wa m wc) ∧ V.cell? ⟨w.heap.size, 2, none⟩ = some (.int .i64 (lk : Int)) ∧ V.cell? ⟨w.heap.size, 3, none⟩ = some (.int .i64 (rg : Int))) ∧ (V.cell? ⟨w.heap.size + 1, 0, none⟩ = some (.int .i64 0) ∧ V.cell? ⟨w.heap.size + 1, 1, none⟩ = some (.int .i64 0) ∧ V.cell? ⟨w.heap.size + 1, 2, none⟩ = some (.int .i64 0)) ∧ (∀ i, V.frozen? ⟨w.heap.size + 1, i, none⟩ = false) ∧ Below w.heap.size w V) := fun V hb => by
    have e1 := (hb.block w.heap.size (by omega)).trans hp0
    have e2 := (hb.block (w.heap.size + 1) (by omega)).trans hf0
    rw [hPB] at e1
    exact ⟨⟨box_cell e1 rfl, box_cell e1 rfl, box_cell e1 rfl, box_cell e1 rfl⟩, ⟨box_cell e2 rfl, box_cell e2 rfl, box_cell e2 rfl⟩, fun i => box_free e2, hb0.trans (hb.mono hb0.size)⟩
  have HB0 := Hid.out (p := Hid _) hb0
  clear hPB hW0 hp0 hf0 hb0
  go_enter Tryz.func8, Tryz.ntmps8
  go_wp2_with fail
  rw [HW0.out]
  refine Calls.mono (HSC.out _ HB0.out) ?_
  rintro e w1 ⟨full1, z1, a1, n1, c1, es1, rfl, H1⟩
  have hb1 : Below W0.heap.size W0 w1 := H1.out.1.2.2.2.2.2.2
  have hup := fun o => HAT.out (w1.alloc o) (hb1.alloc hb1.size o)
  have p0 := fun o => (hup o).1.1
  have p1 := fun o => (hup o).1.2.1
  have p2 := fun o => (hup o).1.2.2.1
  have p3 := fun o => (hup o).1.2.2.2
  have f0 := fun o => (hup o).2.1.1
  have f1 := fun o => (hup o).2.1.2.1
  have f2 := fun o => (hup o).2.1.2.2
  have ff := fun o => (hup o).2.2.1
  have hsz1 : w.heap.size + 1 + 1 ≤ w1.heap.size := by have := hb1.size; omega
  have n1' : w1.heap.size ≠ w.heap.size + 1 := by omega
  have n2' : w.heap.size + 1 ≠ w1.heap.size := by omega
  have HW1 : Hid (Below W0.heap.size W0 w1 ∧ ∀ o, Below w.heap.size w (w1.alloc o)) := ⟨hb1, fun o => (hup o).2.2.2⟩
  clear HSC HW0 hb1 hup
  cases full1 with
  | true =>
    obtain rfl : z1 = 10 := H1.out.2
    have HQ : Hid (RobQ L X s0 false 10) := Or.inl ⟨_, H1.out.1.1, rfl, rfl⟩
    have HBB : Hid (Below w.heap.size w (w1.alloc (.cells #[.int .i64 10, .int .i64 0, .int .i64 0] 29))) := HW1.out.2 _
    clear H1 HW1 HTS p0 p1 p2 p3
    go_wp2_with fail
    go_region
    all_goals go_wp2
    all_goals refine bodyPost_ret (v := .tuple #[.bool false, ints3 10 0 0]) (by simp [results, Tryz.results8, go_sem, cell_set, f0, f1, f2]) rfl ⟨false, 10, rfl, HQ.out, ?_⟩
    all_goals exact ((HBB.out.drew.setCell (Nat.le_succ _) _).setCell (Nat.le_succ _) _).setCell (Nat.le_succ _) _
  | false =>
    obtain rfl : z1 = 0 := H1.out.2
    go_wp2_with fail
    obtain ⟨V, hV⟩ : ∃ V, w1.alloc (.cells #[.int .i64 0, .int .i64 0, .int .i64 0] 29) = V := ⟨_, rfl⟩
    rw [hV]
    have hbV : Below w1.heap.size w1 V := by rw [← hV]; exact (Below.refl _ _).alloc (Nat.le_refl _) _
    have hwV : Below w.heap.size w V := by rw [← hV]; exact HW1.out.2 _
    have hfV : V.heap[w1.heap.size]? = some (.cells #[.int .i64 0, .int .i64 0, .int .i64 0] 29) := by rw [← hV]; exact heap_alloc_new _ _
    refine Calls.mono (HTS.out _ hwV) ?_
    rintro e w2 ⟨full2, z2, a2, n2, c2, es2, rfl, H2⟩
    have hb2 : Below V.heap.size V w2 := H2.out.1.2.2.2.2.2.2
    have hb12 : Below w1.heap.size w1 w2 := hbV.trans (hb2.mono hbV.size)
    have hb02 : Below W0.heap.size W0 w2 := HW1.out.1.trans (hb12.mono HW1.out.1.size)
    obtain ⟨_, ⟨h0, h1, h2⟩, hh, hw2⟩ := HAT.out w2 hb02
    have hf2 : w2.heap[w1.heap.size]? = some (.cells #[.int .i64 0, .int .i64 0, .int .i64 0] 29) := (hb2.block _ (box_lt hfV)).trans hfV
    have g0 : w2.cell? ⟨w1.heap.size, 0, none⟩ = some (.int .i64 0) := box_cell hf2 rfl
    have g1 : w2.cell? ⟨w1.heap.size, 1, none⟩ = some (.int .i64 0) := box_cell hf2 rfl
    have g2 : w2.cell? ⟨w1.heap.size, 2, none⟩ = some (.int .i64 0) := box_cell hf2 rfl
    have gf : ∀ i, w2.frozen? ⟨w1.heap.size, i, none⟩ = false := fun i => box_free hf2
    have HSET : Hid (∀ x y u, Below w.heap.size w (((w2.setCell ⟨w1.heap.size, 0, none⟩ x).setCell ⟨w1.heap.size, 1, none⟩ y).setCell ⟨w1.heap.size, 2, none⟩ u) ∧ ∀ k, k ≠ w1.heap.size → (((w2.setCell ⟨w1.heap.size, 0, none⟩ x).setCell ⟨w1.heap.size, 1, none⟩ y).setCell ⟨w1.heap.size, 2, none⟩ u).heap[k]? = w2.heap[k]?) := fun x y u => ⟨((hw2.setCell (by show w.heap.size ≤ w1.heap.size; omega) _).setCell (by show w.heap.size ≤ w1.heap.size; omega) _).setCell (by show w.heap.size ≤ w1.heap.size; omega) _, fun k hk => by rw [Below.heap_setCell _ _ _ _ hk, Below.heap_setCell _ _ _ _ hk, Below.heap_setCell _ _ _ _ hk]⟩
    have HF2 := Hid.out (p := Hid _) (And.intro hf2 (And.intro hb12 (And.intro hb2 hb02)))
    clear HTS p0 p1 p2 p3 f0 f1 f2 ff hV hbV hwV hfV hb2 hb12 hb02 hw2 hf2
    cases full2 with
    | true =>
      obtain rfl : z2 = 10 := H2.out.2
      have HQ : Hid (RobQ L X s0 false 10) := Or.inr ⟨_, _, _, H1.out.1.1, H2.out.1.1, Or.inl ⟨rfl, rfl, rfl⟩⟩
      obtain ⟨V3, hV3⟩ : ∃ V3, ((w2.setCell ⟨w1.heap.size, 0, none⟩ (.int .i64 10)).setCell ⟨w1.heap.size, 1, none⟩ (.int .i64 0)).setCell ⟨w1.heap.size, 2, none⟩ (.int .i64 0) = V3 := ⟨_, rfl⟩
      have HV3 := Hid.out (p := Hid _) hV3
      have hb3 : Below w.heap.size w V3 := by rw [← hV3]; exact (HSET.out _ _ _).1
      have HB3 := Hid.out (p := Hid _) hb3
      have e3 : V3.heap[w1.heap.size]? = some (.cells #[.int .i64 10, .int .i64 0, .int .i64 0] 29) := by
        rw [← hV3]
        exact heap_set_same (heap_set_same (heap_set_same HF2.out.1))
      have e4 : V3.heap[w.heap.size + 1]? = w2.heap[w.heap.size + 1]? := by rw [← hV3]; exact (HSET.out _ _ _).2 _ n2'
      have k0 : V3.cell? ⟨w1.heap.size, 0, none⟩ = some (.int .i64 10) := box_cell e3 rfl
      have k1 : V3.cell? ⟨w1.heap.size, 1, none⟩ = some (.int .i64 0) := box_cell e3 rfl
      have k2 : V3.cell? ⟨w1.heap.size, 2, none⟩ = some (.int .i64 0) := box_cell e3 rfl
      have m0 : V3.cell? ⟨w.heap.size + 1, 0, none⟩ = some (.int .i64 0) := (World.cell?_of_block e4).trans h0
      have m1 : V3.cell? ⟨w.heap.size + 1, 1, none⟩ = some (.int .i64 0) := (World.cell?_of_block e4).trans h1
      have m2 : V3.cell? ⟨w.heap.size + 1, 2, none⟩ = some (.int .i64 0) := (World.cell?_of_block e4).trans h2
      have mf : ∀ i, V3.frozen? ⟨w.heap.size + 1, i, none⟩ = false := fun i => (World.frozen?_of_block e4).trans (hh i)
      clear H1 H2 HW1 HF2 HAT hV3 hb3 e3 e4
      go_wp2_with fail
      rw [HV3.out]
      clear h0 h1 h2 hh g0 g1 g2 gf HSET HV3
      go_region
      all_goals go_wp2
      all_goals refine bodyPost_ret (v := .tuple #[.bool false, ints3 10 0 0]) (by simp [results, Tryz.results8, go_sem, cell_set, m0, m1, m2]) rfl ⟨false, 10, rfl, HQ.out, ?_⟩
      all_goals exact ((HB3.out.drew.setCell (Nat.le_succ _) _).setCell (Nat.le_succ _) _).setCell (Nat.le_succ _) _
    | false =>
      obtain rfl : z2 = 0 := H2.out.2
      have hid : ((w2.setCell ⟨w1.heap.size, 0, none⟩ (.int .i64 0)).setCell ⟨w1.heap.size, 1, none⟩ (.int .i64 0)).setCell ⟨w1.heap.size, 2, none⟩ (.int .i64 0) = w2 := by
        rw [setCell_id HF2.out.1 rfl, setCell_id HF2.out.1 rfl, setCell_id HF2.out.1 rfl]
      have HID := Hid.out (p := Hid _) hid
      have HEQ : Hid (Calls Tryz.prog 19 #[.slice a1 n1 c1, .slice a2 n2 c2] w2 fun e w' => e = .returned (.bool (decide (es1.map En.o = es2.map En.o))) ∧ Below w2.heap.size w2 w') := by
        have x1 := H1.out.1
        have x2 := H2.out.1
        have h := equal_any w2 a1 a2 es1 es2 c1 c2 (x1.2.2.1.below HF2.out.2.1) x2.2.2.1 (fun x hx => (x1.2.2.2.1 x hx).below HF2.out.2.1) x2.2.2.2.1 (by rw [x1.2.1]; exact x1.2.2.2.2.1) (by rw [x2.2.1]; exact x2.2.2.2.2.1)
        rw [x1.2.1, x2.2.1] at h
        exact alike_any w2 a1 a2 n1 n2 c1 c2 _ h
      have HQ : Hid (RobQ L X s0 (decide (es1.map En.o = es2.map En.o)) 0) := Or.inr ⟨_, _, _, H1.out.1.1, H2.out.1.1, Or.inr ⟨rfl, rfl, rfl⟩⟩
      obtain ⟨r, hr⟩ : ∃ r, decide (es1.map En.o = es2.map En.o) = r := ⟨_, rfl⟩
      rw [hr] at HEQ HQ
      clear H1 H2 HW1 hid hr HSET
      go_wp2_with fail
      rw [HID.out]
      refine Calls.mono HEQ.out ?_
      rintro e w3 ⟨rfl, hb3⟩
      obtain ⟨_, ⟨j0, j1, j2⟩, jj, hw3⟩ := HAT.out w3 (HF2.out.2.2.2.trans (hb3.mono HF2.out.2.2.2.size))
      have HW3 := Hid.out (p := Hid _) hw3
      clear HEQ HID HAT HF2 hb3 hw3 h0 h1 h2 hh g0 g1 g2 gf
      go_wp2_with fail
      refine bodyPost_ret (v := .tuple #[.bool r, ints3 0 0 0]) (by simp [results, Tryz.results8, go_sem, cell_set, j0, j1, j2]) rfl ⟨r, 0, rfl, HQ.out, ?_⟩
      exact ((HW3.out.setCell (Nat.le_succ _) _).setCell (Nat.le_succ _) _).setCell (Nat.le_succ _) _

set_option maxRecDepth 100000 in
set_option maxHeartbeats 3200000 in
theorem robust_no (w : World) (ca : Option Addr) (n cc : Nat) (wa : Option Addr) (m wc : Nat) (lk rg : Int) (A : Nat → Option Addr) (L C : Nat → Nat) (X : Nat → Nat → Nat → Int) (x y z : Int) (HR : Hid (chk n L X m lk rg = (x, y, z))) (hx : (x != 0) = true) (hp : PIn w ca n A L C X) :
    Calls Tryz.prog 8 #[prgV ca n cc wa m wc lk rg] w fun e w' => e = .returned (.tuple #[.bool false, ints3 x y z]) ∧ Below w.heap.size w w' := by
  have HSC : Hid (∀ W, Below w.heap.size w W → Calls Tryz.prog 13 #[prgV ca n cc wa m wc lk rg] W fun e w' => e = .returned (.tuple #[nilV, ints3 x y z]) ∧ Below W.heap.size W w') := fun W hb => sc_no W ca n cc wa m wc lk rg A L C X x y z HR hx (hp.below hb)
  clear HR hp
  go_enter Tryz.func8, Tryz.ntmps8
  go_wp2_with fail
  refine Calls.mono (HSC.out _ (((Below.refl _ _).alloc (Nat.le_refl _) _).alloc (by simp) _)) ?_
  rintro e w1 ⟨rfl, hb1⟩
  have hs1 := hb1.size
  simp only [World.size_alloc] at hs1
  have HB1 : Below w.heap.size w w1 := (((Below.refl _ _).alloc (Nat.le_refl _) _).alloc (by simp) _).trans (hb1.mono (by simp; omega))
  have hF : w1.heap[w.heap.size + 1]? = some (.cells #[.int .i64 0, .int .i64 0, .int .i64 0] 29) := by
    refine (hb1.block _ (by simp)).trans ?_
    have := heap_alloc_new (w.alloc (.cells #[.slice ca n cc, .slice wa m wc, .int .i64 lk, .int .i64 rg] 25)) (.cells #[.int .i64 0, .int .i64 0, .int .i64 0] 29)
    rwa [World.size_alloc] at this
  have u0 : ∀ o, (w1.alloc o).cell? ⟨w.heap.size + 1, 0, none⟩ = some (.int .i64 0) := fun o => box_cell (box_later hF o) rfl
  have u1 : ∀ o, (w1.alloc o).cell? ⟨w.heap.size + 1, 1, none⟩ = some (.int .i64 0) := fun o => box_cell (box_later hF o) rfl
  have u2 : ∀ o, (w1.alloc o).cell? ⟨w.heap.size + 1, 2, none⟩ = some (.int .i64 0) := fun o => box_cell (box_later hF o) rfl
  have uf : ∀ o i, (w1.alloc o).frozen? ⟨w.heap.size + 1, i, none⟩ = false := fun o i => box_free (box_later hF o)
  have n1 : w1.heap.size ≠ w.heap.size + 1 := by omega
  have n3 : w.heap.size + 1 ≠ w1.heap.size := by omega
  have hB : Below w.heap.size w (w1.alloc (.cells #[.int .i64 x, .int .i64 y, .int .i64 z] 29)) := HB1.alloc HB1.size _
  have HBB := Hid.out (p := Hid _) hB
  clear hb1 hF HSC HB1 hB
  go_wp2_with fail
  go_region
  all_goals go_wp2
  all_goals refine bodyPost_ret (v := .tuple #[.bool false, ints3 x y z]) (by simp [results, Tryz.results8, go_sem, cell_set, u0, u1, u2]) rfl ⟨rfl, ?_⟩
  all_goals exact ((HBB.out.drew.setCell (Nat.le_succ _) _).setCell (Nat.le_succ _) _).setCell (Nat.le_succ _) _
end

end Go.Proofs.YtgofbkgfonlceadGreatDoor
