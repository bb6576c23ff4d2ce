/-
  One that waited is done; whether a number is a word's; a store.
  Whether all threads have ended; what can be picked.
  What can be picked, all of it.
-/
import Derived.Test.YtocfocjnnjdcgaaDoorRMay
import Derived.Test.YtocfocjnnjdcgaaDoorFam
import Derived.Test.YtocfocjnnjdcgaaDoorOrder
import Derived.BigRegion
namespace Go.Proofs.YtocfocjnnjdcgaaDoor
section
open Go.RowKit

theorem frozen_up {w : World} {a : Addr} (ha : a.block < w.heap.size) (h : w.frozen? a = false) (o : Obj) : (w.alloc o).frozen? a = false := (World.frozen?_of_block (Below.heap_alloc w o a.block ha)).trans h
theorem DSt.alloc {w : World} {B : Nat} {P : Pg} {sb : Nat} {v : Rl → Value} {s : Sx} (h : DSt w B P sb v s) (o : Obj) : DSt (w.alloc o) B P sb v s := h.below ((Below.refl _ _).alloc (Nat.le_refl _) _)
theorem DSt.drew {w : World} {B : Nat} {P : Pg} {sb : Nat} {v : Rl → Value} {s : Sx} (h : DSt w B P sb v s) : DSt w.drew B P sb v s := ⟨h.fam.drew, h.box⟩
set_option maxRecDepth 100000 in
set_option maxHeartbeats 1600000 in
theorem done_any (w : World) (B sb : Nat) (P : Pg) (v : Rl → Value) (s : Sx) (x : Wt) (hs : DSt w B P sb v s) (h0 : 0 ≤ x.wh) (hx : x.wh < (if x.lk then s.own.length else s.words.length : Nat)) (_hm : s.words.length ≤ 64) (_hk : s.own.length ≤ 4) :
    Calls Tryd.prog 96 #[.pointer (some ⟨sb, 0, none⟩), .agg #[.bool x.lk, .int .i64 x.wh, .int .i64 x.what]] w fun e w' => e = .returned (.tuple #[]) ∧ DSt w' B P sb v (doneW s x) ∧ Moved w w' v v := by
  obtain ⟨lk, wh, what⟩ := x
  simp only at hx h0 ⊢
  obtain ⟨j, rfl⟩ : ∃ j : Nat, wh = j := ⟨wh.toNat, by omega⟩
  have hsb := lt_of_cell hs.c7
  cases lk with
  | true =>
    simp only [if_true] at hx
    obtain ⟨ob, oc, hov, hob, hlt⟩ := hs.ownB (by omega)
    have k7 := cell_up hs.c7
    rw [hov] at k7
    have kown := cell_up (hs.owner hob (r := j) (by omega))
    have kf := frozen_up (a := ⟨ob, j, none⟩) hlt (hs.fam.frozen hob j)
    have HF : Hid (DSt (w.setCell ⟨ob, j, none⟩ (.int .i64 (-1))) B P sb v (doneW s ⟨true, j, what⟩) ∧ Moved w (w.setCell ⟨ob, j, none⟩ (.int .i64 (-1))) v v) :=
      ⟨by have := hs.setOwn hob j (-1); simpa [doneW] using this, (Moved.refl w v).put hob j _⟩
    obtain ⟨n, hn⟩ : ∃ n, s.own.length = n := ⟨_, rfl⟩
    obtain ⟨y, hy⟩ : ∃ y, s.own.getD j 0 = y := ⟨_, rfl⟩
    rw [hn] at k7 hx _hk
    rw [hy] at kown
    clear hs hov hob hn hy
    go_enter Tryd.func96, Tryd.ntmps96
    go_wp2
    go_region
    all_goals go_wp2
    all_goals go_end0
    all_goals exact ⟨rfl, (HF.out.1.alloc _).drew, (HF.out.2.alloc _).drew⟩
  | false =>
    simp only [Bool.false_eq_true, if_false] at hx
    obtain ⟨ob, oc, hov, hob, hlt⟩ := hs.wordsB (by omega)
    have k6 := cell_up hs.c6
    rw [hov] at k6
    have kown := cell_up (hs.word hob (r := j) (by omega))
    have kf := frozen_up (a := ⟨ob, j, none⟩) hlt (hs.fam.frozen hob j)
    have HF : Hid (DSt (w.setCell ⟨ob, j, none⟩ (.int .i64 what)) B P sb v (doneW s ⟨false, j, what⟩) ∧ Moved w (w.setCell ⟨ob, j, none⟩ (.int .i64 what)) v v) :=
      ⟨by have := hs.setWord hob j what; simpa [doneW] using this, (Moved.refl w v).put hob j _⟩
    obtain ⟨n, hn⟩ : ∃ n, s.words.length = n := ⟨_, rfl⟩
    obtain ⟨y, hy⟩ : ∃ y, s.words.getD j 0 = y := ⟨_, rfl⟩
    rw [hn] at k6 hx _hm
    rw [hy] at kown
    clear hs hov hob hn hy
    go_enter Tryd.func96, Tryd.ntmps96
    go_wp2
    go_region
    all_goals go_wp2
    all_goals go_end0
    all_goals exact ⟨rfl, (HF.out.1.alloc _).drew, (HF.out.2.alloc _).drew⟩

set_option maxRecDepth 100000 in
set_option maxHeartbeats 1600000 in
theorem word_yes (w : World) (B sb : Nat) (P : Pg) (v : Rl → Value) (s : Sx) (x : Int) (hs : DSt w B P sb v s) (_hm : s.words.length ≤ 64) (hx : 0 ≤ x ∧ x < (s.words.length : Int)) :
    Calls Tryd.prog 100 #[.pointer (some ⟨sb, 0, none⟩), .int .i64 x] w fun e w' => e = .returned (.bool true) ∧ w = w' := by
  obtain ⟨a, c, hv⟩ := hs.wordsV
  have k6 := hs.c6
  rw [hv] at k6
  have k9 := hs.c9
  have kf := hs.fam.frozen hs.bblk 9
  obtain ⟨n, hn⟩ : ∃ n, s.words.length = n := ⟨_, rfl⟩
  rw [hn] at k6 _hm hx
  clear hs hv hn
  obtain ⟨h0, h1⟩ := hx
  have h0' : decide (x < 0) = false := by simpa using h0
  go_enter Tryd.func100, Tryd.ntmps100
  go_wp2
  go_ret
  exact ⟨rfl, rfl⟩
set_option maxRecDepth 100000 in
set_option maxHeartbeats 1600000 in
theorem word_no (w : World) (B sb : Nat) (P : Pg) (v : Rl → Value) (s : Sx) (x : Int) (hs : DSt w B P sb v s) (_hm : s.words.length ≤ 64) (hx : x < 0 ∨ (s.words.length : Int) ≤ x) :
    Calls Tryd.prog 100 #[.pointer (some ⟨sb, 0, none⟩), .int .i64 x] w fun e w' => e = .returned (.bool false) ∧ w.setCell ⟨sb, 9, none⟩ (.bool true) = w' := by
  obtain ⟨a, c, hv⟩ := hs.wordsV
  have k6 := hs.c6
  rw [hv] at k6
  have k9 := hs.c9
  have kf := hs.fam.frozen hs.bblk 9
  obtain ⟨n, hn⟩ : ∃ n, s.words.length = n := ⟨_, rfl⟩
  rw [hn] at k6 _hm hx
  clear hs hv hn
  by_cases h0 : x < 0
  · clear hx
    go_enter Tryd.func100, Tryd.ntmps100
    go_wp2
    go_ret
    exact ⟨rfl, rfl⟩
  · have h0' : decide (x < 0) = false := by simpa using h0
    have h1 : (n : Int) ≤ x := by omega
    clear hx
    go_enter Tryd.func100, Tryd.ntmps100
    go_wp2
    go_ret
    exact ⟨rfl, rfl⟩

set_option maxRecDepth 100000 in
set_option maxHeartbeats 1600000 in
theorem store_zero (w : World) (B sb : Nat) (P : Pg) (v : Rl → Value) (s : Sx) (t : Nat) (x : Wt) (hs : DSt w B P sb v s) (hm : P.mode = 0) (h0 : 0 ≤ x.wh) (hx : x.wh < (if x.lk then s.own.length else s.words.length : Nat)) (hwl : s.words.length ≤ 64) (hol : s.own.length ≤ 4) :
    Calls Tryd.prog 99 #[.pointer (some ⟨sb, 0, none⟩), .int .i64 t, .agg #[.bool x.lk, .int .i64 x.wh, .int .i64 x.what]] w fun e w' => e = .returned (.tuple #[]) ∧ DSt w' B P sb v (storeW P.mode s t x) ∧ Moved w w' v v := by
  have hst : storeW P.mode s t x = doneW s x := by unfold storeW; rw [hm]; rfl
  rw [hst]
  have k4 := cell_up hs.c4
  rw [hm] at k4
  have HD : Hid (∀ o, Calls Tryd.prog 96 #[.pointer (some ⟨sb, 0, none⟩), .agg #[.bool x.lk, .int .i64 x.wh, .int .i64 x.what]] (w.alloc o) fun e w' => e = .returned (.tuple #[]) ∧ DSt w' B P sb v (doneW s x) ∧ Moved w w' v v) := fun o =>
    (done_any _ B sb P v s x (hs.alloc o) h0 hx hwl hol).mono fun e w' h => ⟨h.1, h.2.1, ((Moved.refl w v).alloc o).trans h.2.2⟩
  clear hs hst hm h0 hx hwl hol
  go_enter Tryd.func99, Tryd.ntmps99
  go_wp2_with fail
  refine (HD.out _).mono ?_
  rintro e w1 ⟨rfl, h1, h2⟩
  go_wp2_with fail
  go_end0
  exact ⟨rfl, h1, h2⟩

theorem infoWait : (Tryd.prog.info? 168).map (fun i => (i.zero, i.size, i.bytes)) = some (some (.agg #[.bool false, .int .i64 0, .int .i64 0]), 3, 24) := by kernel_rfl
theorem cell_up2 {w : World} {a : Addr} {v : Value} (h : w.cell? a = some v) (o p : Obj) : ((w.alloc o).alloc p).cell? a = some v := cell_up (cell_up h o) p
theorem frozen_up2 {w : World} {a : Addr} (ha : a.block < w.heap.size) (h : w.frozen? a = false) (o p : Obj) : ((w.alloc o).alloc p).frozen? a = false := frozen_up (by simp; omega) (frozen_up ha h o) p

attribute [local go_sem ↓] appS_eq
set_option maxRecDepth 100000 in
set_option maxHeartbeats 1600000 in
theorem store_more (w : World) (B sb : Nat) (P : Pg) (v : Rl → Value) (s : Sx) (t : Nat) (x : Wt) (hs : DSt w B P sb v s) (hB : B ≤ w.heap.size) (hm : 0 < P.mode) (ht : t < s.ths.length) (hn4 : s.ths.length ≤ 4) (hw3 : (thOf s t).wait.length ≤ 3) :
    Calls Tryd.prog 99 #[.pointer (some ⟨sb, 0, none⟩), .int .i64 t, .agg #[.bool x.lk, .int .i64 x.wh, .int .i64 x.what]] w fun e w' => e = .returned (.tuple #[]) ∧ ∃ v', DSt w' B P sb v' (storeW P.mode s t x) ∧ Moved w w' v v' := by
  have hst : storeW P.mode s t x = setTh s t { thOf s t with wait := (thOf s t).wait ++ [x] } := by unfold storeW; rw [if_pos hm]
  rw [hst]
  obtain ⟨lk, wh, what⟩ := x
  simp only
  obtain ⟨tb, tc, hth, htb, htl⟩ := hs.thrB (by omega)
  obtain ⟨qa, qc, hq⟩ := hs.waitV t
  have hsb := lt_of_cell hs.c5
  have k4 := cell_up hs.c4
  have c5 := hs.c5
  rw [hth] at c5
  have cq := hs.wait htb ht
  rw [hq] at cq
  have cf := hs.fam.frozen htb (t * 3 + 2)
  have hbelow : ∀ o : Obj, Below w.heap.size w (w.alloc o).drew := fun o => ((Below.refl _ _).alloc (Nat.le_refl _) _).drew
  have hown := hs.fam.own (.wait t)
  obtain ⟨g, cap, w3, hr1, hr2, hr3, hr4⟩ := app_row (T := 157) Tryd.underlying157 infoWait rfl (by omega) hown (hbelow (.cells #[.bool lk, .int .i64 wh, .int .i64 what] 168)) hB 1 #[.bool lk, .int .i64 wh, .int .i64 what] rfl (by simp [Value.oneCell']) (by omega) (by show (thOf s t).wait.length + 1 ≤ _; omega) (by omega)
  have hne1 : some sb ≠ (v (.wait t)).ownBlock := fun e => absurd (hs.fam.apart _ _ sb hs.bblk e.symm) (by simp)
  have hne2 : some tb ≠ (v (.wait t)).ownBlock := fun e => absurd (hs.fam.apart _ _ tb htb e.symm) (by simp)
  have q5 := hr3.cell (cell_up2 c5 (.cells #[.bool lk, .int .i64 wh, .int .i64 what] 168) (.cells #[.bool lk, .int .i64 wh, .int .i64 what] 168)) hne1
  have qq := hr3.cell (cell_up2 cq (.cells #[.bool lk, .int .i64 wh, .int .i64 what] 168) (.cells #[.bool lk, .int .i64 wh, .int .i64 what] 168)) hne2
  have qf : w3.frozen? ⟨tb, t * 3 + 2, none⟩ = false := (hr3.frozen_far ⟨tb, t * 3 + 2, none⟩ (by simp; omega) hne2).trans (frozen_up2 htl cf _ _)
  have hlen : ((thOf s t).wait ++ [(⟨lk, wh, what⟩ : Wt)]).length = (thOf s t).wait.length + 1 := by simp
  have hcells : rX P v s (.wait t) ++ #[Value.bool lk, .int .i64 wh, .int .i64 what].toList = Go.Proofs.YtocfocjnnjdcgaaDoor.waitV ((thOf s t).wait ++ [⟨lk, wh, what⟩]) := by rw [waitV_snoc]; rfl
  rw [hcells] at hr2
  have hr2' : w3.ownsRow B 168 3 (.slice (some ⟨g, 0, none⟩) ((thOf s t).wait ++ [(⟨lk, wh, what⟩ : Wt)]).length cap) ((thOf s t).wait ++ [(⟨lk, wh, what⟩ : Wt)]).length (Go.Proofs.YtocfocjnnjdcgaaDoor.waitV ((thOf s t).wait ++ [⟨lk, wh, what⟩])) := by rw [hlen]; exact hr2
  have hbel2 : Below w.heap.size w ((w.alloc (.cells #[.bool lk, .int .i64 wh, .int .i64 what] 168)).drew.alloc (.cells #[.bool lk, .int .i64 wh, .int .i64 what] 168)) := (hbelow _).alloc (hbelow _).size _
  have hD := (hs.below hbel2).newWait htb ht hr2' hr3 hr4 (by simp)
  have hM := ((Moved.of_below (v := v) hbel2).grow (r := .wait t) (m := (thOf s t).wait.length + 1) (c := cap) hr3 hr4 (by simp)).put (r := .thr) (g := tb) (by rw [upd_ne _ _ (by simp)]; exact htb) (t * 3 + 2) (.slice (some ⟨g, 0, none⟩) ((thOf s t).wait.length + 1) cap)
  rw [hlen] at hD
  have HF : Hid (∃ v', DSt (w3.setCell ⟨tb, t * 3 + 2, none⟩ (.slice (some ⟨g, 0, none⟩) ((thOf s t).wait.length + 1) cap)) B P sb v' (setTh s t { thOf s t with wait := (thOf s t).wait ++ [⟨lk, wh, what⟩] }) ∧ Moved w (w3.setCell ⟨tb, t * 3 + 2, none⟩ (.slice (some ⟨g, 0, none⟩) ((thOf s t).wait.length + 1) cap)) v v') := ⟨_, hD, hM⟩
  have hrun : (AppS #[157, 157] 157 #[v (.wait t), .slice (some ⟨w.heap.size + 1, 0, none⟩) 1 1]).run Tryd.prog ((w.alloc (.cells #[.bool lk, .int .i64 wh, .int .i64 what] 168)).alloc (.cells #[.bool lk, .int .i64 wh, .int .i64 what] 168)).drew = .ok (.slice (some ⟨g, 0, none⟩) ((thOf s t).wait.length + 1) cap) w3 := by
    have e : (w.alloc (.cells #[.bool lk, .int .i64 wh, .int .i64 what] 168)).drew.heap.size = w.heap.size + 1 := by simp
    rw [e] at hr1
    exact hr1
  rw [hq] at hrun
  have k5 := cell_up c5
  have kq := cell_up cq
  have k52 := cell_up2 c5
  have kq2 := cell_up2 cq
  obtain ⟨mode, hmode⟩ : ∃ m, P.mode = m := ⟨_, rfl⟩
  rw [hmode] at k4 hm
  obtain ⟨n, hn⟩ : ∃ m, s.ths.length = m := ⟨_, rfl⟩
  rw [hn] at k5 k52 c5 q5 ht hn4
  obtain ⟨k, hk⟩ : ∃ m, (thOf s t).wait.length = m := ⟨_, rfl⟩
  rw [hk] at kq kq2 cq qq hrun HF hw3
  clear hs hst hth htb hq cf hbelow hown hr1 hr2 hr3 hr4 hne1 hne2 hlen hcells hr2' hbel2 hD hM hmode hn hk
  go_enter Tryd.func99, Tryd.ntmps99
  go_wp2
  go_region
  all_goals go_wp2
  all_goals go_end0
  all_goals exact ⟨rfl, HF.out⟩
end

section
open Go.RowKit

theorem DSt.win {w : World} {B : Nat} {P : Pg} {sb : Nat} {v : Rl → Value} {s : Sx} (h : DSt w B P sb v s) {t : Nat} {a : Option Addr} {c : Nat} (hv : v (.wait t) = .slice a (thOf s t).wait.length c) : WIn w a (thOf s t).wait := fun i hi => by
  obtain ⟨rb, rc, h1, h2, _⟩ := h.waitB (t := t) (by omega)
  rw [h1] at hv
  simp only [Value.slice.injEq] at hv
  have g0 := h.fam.cell h2 (rows3_get (f := fun i j => waitC ((thOf s t).wait.getD i default) j) (j := 0) hi (by omega))
  have g1 := h.fam.cell h2 (rows3_get (f := fun i j => waitC ((thOf s t).wait.getD i default) j) (j := 1) hi (by omega))
  have g2 := h.fam.cell h2 (rows3_get (f := fun i j => waitC ((thOf s t).wait.getD i default) j) (j := 2) hi (by omega))
  exact ⟨rb, 0, hv.1.symm, by simpa [waitC] using g0, by simpa [waitC] using g1, by simpa [waitC] using g2⟩

theorem endedX_yes {L : Nat → Nat} {s : Sx} (h : ∀ p, p < s.ths.length → L p ≤ (thOf s p).pc ∧ (thOf s p).wait.length = 0) : endedX L s = true := by
  unfold endedX
  rw [List.all_eq_true]
  intro p hp
  have := h p (by simpa using hp)
  rw [endedT, decide_eq_true this.1, List.eq_nil_of_length_eq_zero this.2]
  rfl
theorem endedX_no {L : Nat → Nat} {s : Sx} {p : Nat} (hp : p < s.ths.length) (h : (thOf s p).pc < L p ∨ 0 < (thOf s p).wait.length) : endedX L s = false := by
  unfold endedX
  rw [List.all_eq_false]
  refine ⟨p, by simpa using hp, ?_⟩
  rcases h with h | h
  · rw [endedT, decide_eq_false (by omega)]; simp
  · cases hw : (thOf s p).wait with
    | nil => rw [hw] at h; simp at h
    | cons a r => simp

set_option maxRecDepth 100000 in
set_option maxHeartbeats 1600000 in
theorem ended_any (w : World) (B sb : Nat) (P : Pg) (v : Rl → Value) (s : Sx) (A : Nat → Option Addr) (L C : Nat → Nat) (X : Nat → Nat → Nat → Int) (m lk rg : Nat) (hn0 : 0 < P.n) (hs : DSt w B P sb v s) (ho : SOk P.n L m lk rg P.mode s) (hc : COk P.n L X m lk rg) (hp : PIn w P.ca P.n A L C X) :
    Calls Tryd.prog 76 #[.pointer (some ⟨sb, 0, none⟩)] w fun e w' => e = .returned (.bool (endedX L s)) ∧ Below w.heap.size w w' := by
  have hl := ho.ths
  have hN := hc.n4
  obtain ⟨tb, tc, hth, htb, _⟩ := hs.thrB (by omega)
  have c5 := hs.c5
  rw [hth, hl] at c5
  obtain ⟨r, hr⟩ : ∃ r, endedX L s = r := ⟨_, rfl⟩
  have HR : Hid (endedX L s = r) := hr
  rw [hr]
  clear hr
  have HN : Hid (∀ wr t, t < P.n → Below w.heap.size w wr → L t ≤ (thOf s t).pc → Calls Tryd.prog 93 #[.pointer (some ⟨sb, 0, none⟩), .int .i64 t] wr fun e w' => e = .returned (.tuple #[.agg #[.int .i64 0, .int .i64 0, .int .i64 0, .int .i64 0], .bool false]) ∧ Below wr.heap.size wr w') := fun wr t ht hb he =>
    next_ended sb P.ca P.n P.cc P.mode tb tc _ _ _ _ _ s A L C X hl t ht hN (hc.L4 t ht) (by have := ho.pc t ht; have := hc.L4 t ht; omega) he wr ((hs.below hb).sin hth) (hp.below hb)
  have HM : Hid (∀ wr t, t < P.n → Below w.heap.size w wr → (thOf s t).pc < L t → Calls Tryd.prog 93 #[.pointer (some ⟨sb, 0, none⟩), .int .i64 t] wr fun e w' => e = .returned (.tuple #[.agg #[.int .i64 (opT X s t 0), .int .i64 (opT X s t 1), .int .i64 (opT X s t 2), .int .i64 (opT X s t 3)], .bool true]) ∧ Below wr.heap.size wr w') := fun wr t ht hb he =>
    next_more sb P.ca P.n P.cc P.mode tb tc _ _ _ _ _ s A L C X hl t ht hN (hc.L4 t ht) he wr ((hs.below hb).sin hth) (hp.below hb)
  have HW : Hid (∀ t, t < P.n → ∃ qa qc, w.cell? ⟨tb, t * 3 + 2, none⟩ = some (.slice qa (thOf s t).wait.length qc) ∧ (thOf s t).wait.length ≤ 3) := fun t ht => by
    obtain ⟨qa, qc, hq⟩ := hs.waitV t
    exact ⟨qa, qc, by rw [← hq]; exact hs.wait htb (by omega), ho.wlen t ht⟩
  have HL : Hid (s.ths.length = P.n) := hl
  obtain ⟨n, hn⟩ : ∃ n, P.n = n := ⟨_, rfl⟩
  rw [hn] at HN HM HW c5 hN HL
  clear hn hs ho hc hp hl hth htb hn0
  go_enter Tryd.func76, Tryd.ntmps76
  go_wp2_with fail
  go_loopw [3] (fun i wr => ∃ j : Nat, j ≤ n ∧ i = .int .i64 j ∧ Hid (∀ p, p < j → L p ≤ (thOf s p).pc ∧ (thOf s p).wait.length = 0) ∧ Below w.heap.size w wr) (fun i _ => n - (intOf i).toNat)
  case atStart => exact ⟨0, Nat.zero_le _, rfl, fun p hp => absurd hp (Nat.not_lt_zero _), Below.refl _ _⟩
  case round =>
    obtain ⟨j, hj, rfl, HJ, hbr⟩ := hrel
    have c5r := (hbr.cell (lt_of_cell c5)).trans c5
    by_cases hlt : j < n
    · obtain ⟨qa, qc, cq, hw3⟩ := HW.out j hlt
      have cqr := (hbr.cell (lt_of_cell cq)).trans cq
      obtain ⟨k, hk⟩ : ∃ m, (thOf s j).wait.length = m := ⟨_, rfl⟩
      have HK : Hid ((thOf s j).wait.length = k) := hk
      rw [hk] at cqr hw3
      clear hk cq
      rcases Nat.lt_or_ge (thOf s j).pc (L j) with hmore | hend
      · obtain rfl : r = false := by rw [← HR.out]; exact endedX_no (by rw [HL.out]; exact hlt) (Or.inl hmore)
        have hcall := HM.out _ j hlt hbr hmore
        obtain ⟨o0, e0⟩ : ∃ x, opT X s j 0 = x := ⟨_, rfl⟩
        obtain ⟨o1, e1⟩ : ∃ x, opT X s j 1 = x := ⟨_, rfl⟩
        obtain ⟨o2, e2⟩ : ∃ x, opT X s j 2 = x := ⟨_, rfl⟩
        obtain ⟨o3, e3⟩ : ∃ x, opT X s j 3 = x := ⟨_, rfl⟩
        rw [e0, e1, e2, e3] at hcall
        have HCALL := Hid.out (p := Hid _) hcall
        clear hcall e0 e1 e2 e3 hmore
        go_wp2_with fail
        refine Calls.mono HCALL.out ?_
        rintro e w1 ⟨rfl, hb1⟩
        go_wp2_with fail
        go_ret
        exact ⟨rfl, (hbr.trans (hb1.mono hbr.size)).alloc (hbr.trans (hb1.mono hbr.size)).size _⟩
      · have HCALL := Hid.out (p := Hid _) (HN.out _ j hlt hbr hend)
        have HEND : Hid (L j ≤ (thOf s j).pc) := hend
        clear hend
        go_wp2_with fail
        refine Calls.mono HCALL.out ?_
        rintro e w1 ⟨rfl, hb1⟩
        have hB1 := hbr.trans (hb1.mono hbr.size)
        have k5 := cell_up ((hb1.cell (lt_of_cell c5r)).trans c5r)
        have kq := cell_up ((hb1.cell (lt_of_cell cqr)).trans cqr)
        by_cases hk0 : k = 0
        · subst hk0
          go_wp2
          go_roundw
          case rel =>
            refine ⟨j + 1, by omega, by go_num, fun p hp => ?_, hB1.alloc hB1.size _⟩
            rcases (by omega : p < j ∨ p = j) with h | rfl
            · exact HJ.out p h
            · exact ⟨HEND.out, HK.out⟩
          case measure => simp [intOf]; omega
        · obtain rfl : r = false := by rw [← HR.out]; exact endedX_no (by rw [HL.out]; exact hlt) (Or.inr (by rw [HK.out]; omega))
          have hpos : 0 < k := by omega
          go_wp2
          go_ret
          exact ⟨rfl, hB1.alloc hB1.size _⟩
    · obtain rfl : r = true := by rw [← HR.out]; exact endedX_yes (fun p hp => HJ.out p (by rw [HL.out] at hp; omega))
      go_wp2
      go_ret
      exact ⟨rfl, hbr⟩
end

section
open Go.RowKit

/-- A list of numbers that is being made. -/
structure IsI (w : World) (B : Nat) (a : Option Addr) (len c : Nat) (xs : List Int) : Prop where
  is : xs.length = len
  own : w.ownsRow B 3 1 (.slice a len c) len (intsV xs)
theorem IsI.nil (w : World) (B : Nat) : IsI w B none 0 0 [] := ⟨rfl, World.ownsRow_nil _ _ _ _⟩
theorem IsI.below {w w1 : World} {B : Nat} {a : Option Addr} {len c : Nat} {xs : List Int} (h : IsI w B a len c xs) (hb : Below w.heap.size w w1) : IsI w1 B a len c xs := ⟨h.is, fam_keeps h.own (fun g hg => hb.block g (h.own.lt g hg).2)⟩
/-- One number more. -/
theorem IsI.push {w0 w W : World} {B : Nat} {a : Option Addr} {len c : Nat} {xs : List Int} (h : IsI w B a len c xs) (hb : Below w.heap.size w W) (hB : B ≤ w.heap.size) (hlen : len ≤ 10000) (x : Int) (h0 : Below B w0 W) :
    ∃ g cap w3, (AppS #[23, 23] 23 #[.slice a len c, .slice (some ⟨W.heap.size, 0, none⟩) 1 1]).run Tryd.prog (W.alloc (.cells #[.int .i64 x] 3)) = .ok (.slice (some ⟨g, 0, none⟩) (len + 1) cap) w3 ∧ Hid (IsI w3 B (some ⟨g, 0, none⟩) (len + 1) cap (xs ++ [x]) ∧ Below B w0 w3 ∧ w.heap.size ≤ w3.heap.size) := by
  obtain ⟨g, cap, w3, r1, r2, r3, _⟩ := app_row (T := 23) Tryd.underlying23 infoI rfl (by omega) h.own hb hB 1 #[.int .i64 x] rfl (by simp [Value.oneCell']) (by omega) (by omega) (by omega)
  have hBW := Nat.le_trans hB hb.size
  refine ⟨g, cap, w3, r1, ⟨by simp [h.is], ?_⟩, ?_, ?_⟩
  · have e : intsV xs ++ #[Value.int .i64 x].toList = intsV (xs ++ [x]) := by simp [intsV]
    rw [← e]
    exact r2
  · exact (h0.alloc hBW _).grown r3 (by simp; omega) (fun k hk => (h.own.lt k hk).1)
  · have h1 := r3.size
    have h2 := hb.size
    rw [World.size_alloc] at h1
    omega

section
variable (L : Nat → Nat) (X : Nat → Nat → Nat → Int) (mode : Int) (s : Sx)
def mvsT (j : Nat) : List Int := (List.range j).flatMap (movesT L X mode s)
def mvsK (t q : Nat) : List Int := mvsT L X mode s t ++ ((if ableT L X s t then [8 * (t : Int)] else []) ++ ((List.range q).filter (fun k => mayW mode (thOf s t).wait k)).map fun (k : Nat) => 8 * (t : Int) + (k : Int) + 1)
theorem mvsT_succ (t : Nat) : mvsT L X mode s (t + 1) = mvsK L X mode s t (thOf s t).wait.length := by
  unfold mvsT mvsK mvsT
  rw [List.range_succ, List.flatMap_append]
  simp [movesT]
theorem mvsT_all : mvsT L X mode s s.ths.length = movesX L X mode s := rfl
theorem mvsK_yes {t : Nat} (h : ableT L X s t = true) : mvsK L X mode s t 0 = mvsT L X mode s t ++ [8 * (t : Int)] := by simp [mvsK, h]
theorem mvsK_no {t : Nat} (h : ableT L X s t = false) : mvsK L X mode s t 0 = mvsT L X mode s t := by simp [mvsK, h]
theorem mvsK_may {t q : Nat} (h : mayW mode (thOf s t).wait q = true) : mvsK L X mode s t (q + 1) = mvsK L X mode s t q ++ [8 * (t : Int) + (q : Int) + 1] := by
  unfold mvsK
  rw [List.range_succ, List.filter_append, List.map_append]
  simp [h, List.append_assoc]
theorem mvsK_not {t q : Nat} (h : mayW mode (thOf s t).wait q = false) : mvsK L X mode s t (q + 1) = mvsK L X mode s t q := by
  unfold mvsK
  rw [List.range_succ, List.filter_append, List.map_append]
  simp [h]
theorem mvsK_len (t q : Nat) : (mvsK L X mode s t q).length ≤ (mvsT L X mode s t).length + 1 + q := by
  unfold mvsK
  have := List.length_filter_le (fun k => mayW mode (thOf s t).wait k) (List.range q)
  simp only [List.length_append, List.length_map]
  simp only [List.length_range] at this
  split <;> simp <;> omega
theorem mvsT_len (hw : ∀ t, t < s.ths.length → (thOf s t).wait.length ≤ 3) : ∀ j, j ≤ s.ths.length → (mvsT L X mode s j).length ≤ 4 * j
  | 0, _ => by simp [mvsT]
  | j + 1, hj => by
    rw [mvsT_succ]
    have h1 := mvsK_len L X mode s j (thOf s j).wait.length
    have h2 := mvsT_len hw j (by omega)
    have h3 := hw j (by omega)
    omega
end

attribute [local go_sem ↓] appS_eq
set_option maxRecDepth 100000 in
set_option maxHeartbeats 3200000 in
theorem moves_any (w : World) (B sb : Nat) (P : Pg) (v : Rl → Value) (s : Sx) (A : Nat → Option Addr) (L C : Nat → Nat) (X : Nat → Nat → Nat → Int) (m lk rg : Nat) (hn0 : 0 < P.n) (hs : DSt w B P sb v s) (ho : SOk P.n L m lk rg P.mode s) (hc : COk P.n L X m lk rg) (hp : PIn w P.ca P.n A L C X) :
    Calls Tryd.prog 77 #[.pointer (some ⟨sb, 0, none⟩)] w fun e w' => ∃ a len c, e = .returned (.slice a len c) ∧ IsI w' w.heap.size a len c (movesX L X P.mode s) ∧ Below w.heap.size w w' := by
  have hl := ho.ths
  have hN := hc.n4
  obtain ⟨tb, tc, hth, htb, _⟩ := hs.thrB (by omega)
  have c5 := hs.c5
  rw [hth, hl] at c5
  have HA : Hid (∀ wr t, t < P.n → Below w.heap.size w wr → Calls Tryd.prog 94 #[.pointer (some ⟨sb, 0, none⟩), .int .i64 t] wr fun e w' => e = .returned (.bool (ableT L X s t)) ∧ Below wr.heap.size wr w') := fun wr t ht hb =>
    able_any wr B sb P v s A L C X m lk rg t ht (hs.below hb) ho hc (hp.below hb)
  have HW : Hid (∀ t, t < P.n → ∃ qa qc, w.cell? ⟨tb, t * 3 + 2, none⟩ = some (.slice qa (thOf s t).wait.length qc) ∧ (thOf s t).wait.length ≤ 3 ∧ ∀ wr q, q < (thOf s t).wait.length → Below w.heap.size w wr → Calls Tryd.prog 95 #[.pointer (some ⟨sb, 0, none⟩), .slice qa (thOf s t).wait.length qc, .int .i64 q] wr fun e w' => e = .returned (.bool (mayW P.mode (thOf s t).wait q)) ∧ Below wr.heap.size wr w') := fun t ht => by
    obtain ⟨qa, qc, hq⟩ := hs.waitV t
    refine ⟨qa, qc, by rw [← hq]; exact hs.wait htb (by omega), ho.wlen t ht, fun wr q hq' hb => ?_⟩
    exact may_any sb P.mode qa qc (thOf s t).wait q hq' (by have := ho.wlen t ht; omega) wr (hs.below hb).c4 ((hs.below hb).win hq)
  have HL : Hid (s.ths.length = P.n) := hl
  have HLEN : Hid (∀ j, j ≤ P.n → (mvsT L X P.mode s j).length ≤ 4 * j) := fun j hj => mvsT_len L X P.mode s (fun t ht => ho.wlen t (by omega)) j (by omega)
  obtain ⟨n, hn⟩ : ∃ n, P.n = n := ⟨_, rfl⟩
  rw [hn] at HA HW c5 hN HL HLEN
  obtain ⟨mode, hmode⟩ : ∃ n, P.mode = n := ⟨_, rfl⟩
  rw [hmode] at HW HLEN ⊢
  clear hn hs ho hc hp hl hth htb hn0 hmode
  go_enter Tryd.func77, Tryd.ntmps77
  go_wp2_with fail
  go_loopw [3, 4] (fun l i wr => ∃ (j : Nat) (a : Option Addr) (len c : Nat), j ≤ n ∧ i = .int .i64 j ∧ l = .slice a len c ∧ Hid (IsI wr w.heap.size a len c (mvsT L X mode s j)) ∧ Below w.heap.size w wr) (fun _ i _ => n - (intOf i).toNat)
  case atStart => exact ⟨0, none, 0, 0, Nat.zero_le _, rfl, rfl, IsI.nil _ _, Below.refl _ _⟩
  case round =>
    obtain ⟨j, a, len, c, hj, rfl, rfl, HI, hbr⟩ := hrel
    have c5r := (hbr.cell (lt_of_cell c5)).trans c5
    by_cases hlt : j < n
    · obtain ⟨qa, qc, cq, hw3, hmay⟩ := HW.out j hlt
      have HMAY := Hid.out (p := Hid _) hmay
      have HLJ : Hid ((mvsT L X mode s j).length ≤ 4 * j) := HLEN.out j (by omega)
      have hlen16 : len ≤ 16 := by have := HI.out.is; have := HLJ.out; omega
      have HCALL := Hid.out (p := Hid _) (HA.out _ j hlt hbr)
      have HW0 : Hid (Below w.heap.size w wr) := hbr
      clear hmay
      go_wp2_with fail
      refine Calls.mono HCALL.out ?_
      rintro e w1 ⟨rfl, hb1⟩
      have hB1 := hbr.trans (hb1.mono hbr.size)
      have c51 := (hb1.cell (lt_of_cell c5r)).trans c5r
      obtain ⟨k, hk⟩ : ∃ m, (thOf s j).wait.length = m := ⟨_, rfl⟩
      have HK : Hid ((thOf s j).wait.length = k) := hk
      rw [hk] at cq hw3 HMAY
      clear hk
      have HAB : ∃ ab, Hid (ableT L X s j = ab) := ⟨_, rfl⟩
      have hI1 := HI.out.below hb1
      cases hab : ableT L X s j
      case' true =>
        obtain ⟨g, cap, w3, hrun, HS⟩ := hI1.push (Below.refl _ _) (by have := hB1.size; omega) (by omega) (8 * (j : Int)) hB1
        rw [← mvsK_yes L X mode s hab] at HS
        clear hab HAB hI1
        go_wp2
      case' false =>
        have HS : Hid (IsI w1 w.heap.size a len c (mvsK L X mode s j 0) ∧ Below w.heap.size w w1 ∧ wr.heap.size ≤ w1.heap.size) := ⟨by rw [mvsK_no L X mode s hab]; exact hI1, hB1, hb1.size⟩
        clear hab HAB hI1
        go_wp2
      all_goals
        go_loopw [3, 6] (fun l i wr2 => ∃ (q : Nat) (a : Option Addr) (len c : Nat), q ≤ k ∧ i = .int .i64 q ∧ l = .slice a len c ∧ Hid (IsI wr2 w.heap.size a len c (mvsK L X mode s j q)) ∧ Below w.heap.size w wr2) (fun _ i _ => k - (intOf i).toNat)
        case atStart => exact ⟨0, _, _, _, Nat.zero_le _, rfl, rfl, HS.out.1, HS.out.2.1⟩
        case round =>
          obtain ⟨q, a2, len2, c2, hq, rfl, rfl, HI2, hbr2⟩ := hrel
          have c52 := (hbr2.cell (lt_of_cell c5)).trans c5
          have cq2 := (hbr2.cell (lt_of_cell cq)).trans cq
          by_cases hqk : q < k
          · have HCALL2 := Hid.out (p := Hid _) (HMAY.out _ q hqk hbr2)
            have hlen2 : len2 ≤ 30 := by
              have h1 := HI2.out.is
              have h2 := mvsK_len L X mode s j q
              have h3 := HLJ.out
              omega
            go_wp2_with fail
            refine Calls.mono HCALL2.out ?_
            rintro e w4 ⟨rfl, hb4⟩
            have hB4 := hbr2.trans (hb4.mono hbr2.size)
            have hI4 := HI2.out.below hb4
            cases hmy : mayW mode (thOf s j).wait q with
            | true =>
              obtain ⟨g4, cap4, w5, hrun4, HS4⟩ := hI4.push (Below.refl _ _) (by have := hB4.size; omega) (by omega) (8 * (j : Int) + (q : Int) + 1) hB4
              rw [← mvsK_may L X mode s hmy] at HS4
              clear hmy hI4
              go_wp2
              go_roundw
              case rel => exact ⟨q + 1, _, _, _, by omega, by go_num, rfl, HS4.out.1, HS4.out.2.1⟩
              case measure => simp [intOf]; omega
            | false =>
              have HS4 : Hid (IsI w4 w.heap.size a2 len2 c2 (mvsK L X mode s j (q + 1))) := by
                show IsI _ _ _ _ _ _
                rw [mvsK_not L X mode s hmy]; exact hI4
              clear hmy hI4
              go_wp2
              go_roundw
              case rel => exact ⟨q + 1, _, _, _, by omega, by go_num, rfl, HS4, hB4⟩
              case measure => simp [intOf]; omega
          · obtain rfl : q = k := by omega
            go_wp2
            go_roundw
            case rel => exact ⟨j + 1, _, _, _, by omega, by go_num, rfl, by rw [mvsT_succ, HK.out]; exact HI2, hbr2⟩
            case measure => simp [intOf]; omega
    · obtain rfl : j = n := by omega
      go_wp2
      go_ret
      exact ⟨a, len, c, rfl, by rw [← mvsT_all, HL.out]; exact HI.out, hbr⟩
end

end Go.Proofs.YtocfocjnnjdcgaaDoor
