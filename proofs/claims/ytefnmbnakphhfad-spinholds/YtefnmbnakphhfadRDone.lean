/-
  One that waited is done; whether a number is a word's; a store.
-/
import Derived.Test.YtefnmbnakphhfadSOkP
import Derived.Test.YtefnmbnakphhfadAppB
import Derived.BigRegion
namespace Go.Proofs.Ytefnmbnakphhfad
open Go.RowKit

theorem frozen_up {w : World} {a : Addr} (ha : a.block < w.heap.size) (h : w.frozen? a = false) (o : Obj) : (w.alloc o).frozen? a = false := (World.frozen?_of_block (Below.heap_alloc w o a.block ha)).trans h
theorem DSt.alloc {w : World} {B : Nat} {P : Pg} {sb : Nat} {v : Rl → Value} {s : Sx} (h : DSt w B P sb v s) (o : Obj) : DSt (w.alloc o) B P sb v s := h.below ((Below.refl _ _).alloc (Nat.le_refl _) _)
theorem DSt.drew {w : World} {B : Nat} {P : Pg} {sb : Nat} {v : Rl → Value} {s : Sx} (h : DSt w B P sb v s) : DSt w.drew B P sb v s := ⟨h.fam.drew, h.box⟩
set_option maxRecDepth 100000 in
set_option maxHeartbeats 1600000 in
theorem done_any (w : World) (B sb : Nat) (P : Pg) (v : Rl → Value) (s : Sx) (x : Wt) (hs : DSt w B P sb v s) (h0 : 0 ≤ x.wh) (hx : x.wh < (if x.lk then s.own.length else s.words.length : Nat)) (_hm : s.words.length ≤ 64) (_hk : s.own.length ≤ 4) :
    Calls Try.prog 52 #[.pointer (some ⟨sb, 0, none⟩), .agg #[.bool x.lk, .int .i64 x.wh, .int .i64 x.what]] w fun e w' => e = .returned (.tuple #[]) ∧ DSt w' B P sb v (doneW s x) ∧ Moved w w' v v := by
  obtain ⟨lk, wh, what⟩ := x
  simp only at hx h0 ⊢
  obtain ⟨j, rfl⟩ : ∃ j : Nat, wh = j := ⟨wh.toNat, by omega⟩
  have hsb := lt_of_cell hs.c7
  cases lk with
  | true =>
    simp only [if_true] at hx
    obtain ⟨ob, oc, hov, hob, hlt⟩ := hs.ownB (by omega)
    have k7 := cell_up hs.c7
    rw [hov] at k7
    have kown := cell_up (hs.owner hob (r := j) (by omega))
    have kf := frozen_up (a := ⟨ob, j, none⟩) hlt (hs.fam.frozen hob j)
    have HF : Hid (DSt (w.setCell ⟨ob, j, none⟩ (.int .i64 (-1))) B P sb v (doneW s ⟨true, j, what⟩) ∧ Moved w (w.setCell ⟨ob, j, none⟩ (.int .i64 (-1))) v v) :=
      ⟨by have := hs.setOwn hob j (-1); simpa [doneW] using this, (Moved.refl w v).put hob j _⟩
    obtain ⟨n, hn⟩ : ∃ n, s.own.length = n := ⟨_, rfl⟩
    obtain ⟨y, hy⟩ : ∃ y, s.own.getD j 0 = y := ⟨_, rfl⟩
    rw [hn] at k7 hx _hk
    rw [hy] at kown
    clear hs hov hob hn hy
    go_enter Try.func52, Try.ntmps52
    go_wp2
    go_region
    all_goals go_wp2
    all_goals go_end0
    all_goals exact ⟨rfl, (HF.out.1.alloc _).drew, (HF.out.2.alloc _).drew⟩
  | false =>
    simp only [Bool.false_eq_true, if_false] at hx
    obtain ⟨ob, oc, hov, hob, hlt⟩ := hs.wordsB (by omega)
    have k6 := cell_up hs.c6
    rw [hov] at k6
    have kown := cell_up (hs.word hob (r := j) (by omega))
    have kf := frozen_up (a := ⟨ob, j, none⟩) hlt (hs.fam.frozen hob j)
    have HF : Hid (DSt (w.setCell ⟨ob, j, none⟩ (.int .i64 what)) B P sb v (doneW s ⟨false, j, what⟩) ∧ Moved w (w.setCell ⟨ob, j, none⟩ (.int .i64 what)) v v) :=
      ⟨by have := hs.setWord hob j what; simpa [doneW] using this, (Moved.refl w v).put hob j _⟩
    obtain ⟨n, hn⟩ : ∃ n, s.words.length = n := ⟨_, rfl⟩
    obtain ⟨y, hy⟩ : ∃ y, s.words.getD j 0 = y := ⟨_, rfl⟩
    rw [hn] at k6 hx _hm
    rw [hy] at kown
    clear hs hov hob hn hy
    go_enter Try.func52, Try.ntmps52
    go_wp2
    go_region
    all_goals go_wp2
    all_goals go_end0
    all_goals exact ⟨rfl, (HF.out.1.alloc _).drew, (HF.out.2.alloc _).drew⟩

set_option maxRecDepth 100000 in
set_option maxHeartbeats 1600000 in
theorem word_yes (w : World) (B sb : Nat) (P : Pg) (v : Rl → Value) (s : Sx) (x : Int) (hs : DSt w B P sb v s) (_hm : s.words.length ≤ 64) (hx : 0 ≤ x ∧ x < (s.words.length : Int)) :
    Calls Try.prog 56 #[.pointer (some ⟨sb, 0, none⟩), .int .i64 x] w fun e w' => e = .returned (.bool true) ∧ w = w' := by
  obtain ⟨a, c, hv⟩ := hs.wordsV
  have k6 := hs.c6
  rw [hv] at k6
  have k9 := hs.c9
  have kf := hs.fam.frozen hs.bblk 9
  obtain ⟨n, hn⟩ : ∃ n, s.words.length = n := ⟨_, rfl⟩
  rw [hn] at k6 _hm hx
  clear hs hv hn
  obtain ⟨h0, h1⟩ := hx
  have h0' : decide (x < 0) = false := by simpa using h0
  go_enter Try.func56, Try.ntmps56
  go_wp2
  go_ret
  exact ⟨rfl, rfl⟩
set_option maxRecDepth 100000 in
set_option maxHeartbeats 1600000 in
theorem word_no (w : World) (B sb : Nat) (P : Pg) (v : Rl → Value) (s : Sx) (x : Int) (hs : DSt w B P sb v s) (_hm : s.words.length ≤ 64) (hx : x < 0 ∨ (s.words.length : Int) ≤ x) :
    Calls Try.prog 56 #[.pointer (some ⟨sb, 0, none⟩), .int .i64 x] w fun e w' => e = .returned (.bool false) ∧ w.setCell ⟨sb, 9, none⟩ (.bool true) = w' := by
  obtain ⟨a, c, hv⟩ := hs.wordsV
  have k6 := hs.c6
  rw [hv] at k6
  have k9 := hs.c9
  have kf := hs.fam.frozen hs.bblk 9
  obtain ⟨n, hn⟩ : ∃ n, s.words.length = n := ⟨_, rfl⟩
  rw [hn] at k6 _hm hx
  clear hs hv hn
  by_cases h0 : x < 0
  · clear hx
    go_enter Try.func56, Try.ntmps56
    go_wp2
    go_ret
    exact ⟨rfl, rfl⟩
  · have h0' : decide (x < 0) = false := by simpa using h0
    have h1 : (n : Int) ≤ x := by omega
    clear hx
    go_enter Try.func56, Try.ntmps56
    go_wp2
    go_ret
    exact ⟨rfl, rfl⟩

set_option maxRecDepth 100000 in
set_option maxHeartbeats 1600000 in
theorem store_zero (w : World) (B sb : Nat) (P : Pg) (v : Rl → Value) (s : Sx) (t : Nat) (x : Wt) (hs : DSt w B P sb v s) (hm : P.mode = 0) (h0 : 0 ≤ x.wh) (hx : x.wh < (if x.lk then s.own.length else s.words.length : Nat)) (hwl : s.words.length ≤ 64) (hol : s.own.length ≤ 4) :
    Calls Try.prog 55 #[.pointer (some ⟨sb, 0, none⟩), .int .i64 t, .agg #[.bool x.lk, .int .i64 x.wh, .int .i64 x.what]] w fun e w' => e = .returned (.tuple #[]) ∧ DSt w' B P sb v (storeW P.mode s t x) ∧ Moved w w' v v := by
  have hst : storeW P.mode s t x = doneW s x := by unfold storeW; rw [hm]; rfl
  rw [hst]
  have k4 := cell_up hs.c4
  rw [hm] at k4
  have HD : Hid (∀ o, Calls Try.prog 52 #[.pointer (some ⟨sb, 0, none⟩), .agg #[.bool x.lk, .int .i64 x.wh, .int .i64 x.what]] (w.alloc o) fun e w' => e = .returned (.tuple #[]) ∧ DSt w' B P sb v (doneW s x) ∧ Moved w w' v v) := fun o =>
    (done_any _ B sb P v s x (hs.alloc o) h0 hx hwl hol).mono fun e w' h => ⟨h.1, h.2.1, ((Moved.refl w v).alloc o).trans h.2.2⟩
  clear hs hst hm h0 hx hwl hol
  go_enter Try.func55, Try.ntmps55
  go_wp2_with fail
  refine (HD.out _).mono ?_
  rintro e w1 ⟨rfl, h1, h2⟩
  go_wp2_with fail
  go_end0
  exact ⟨rfl, h1, h2⟩

theorem infoWait : (Try.prog.info? 105).map (fun i => (i.zero, i.size, i.bytes)) = some (some (.agg #[.bool false, .int .i64 0, .int .i64 0]), 3, 24) := by kernel_rfl
theorem cell_up2 {w : World} {a : Addr} {v : Value} (h : w.cell? a = some v) (o p : Obj) : ((w.alloc o).alloc p).cell? a = some v := cell_up (cell_up h o) p
theorem frozen_up2 {w : World} {a : Addr} (ha : a.block < w.heap.size) (h : w.frozen? a = false) (o p : Obj) : ((w.alloc o).alloc p).frozen? a = false := frozen_up (by simp; omega) (frozen_up ha h o) p

attribute [local go_sem ↓] appS_eq
set_option maxRecDepth 100000 in
set_option maxHeartbeats 1600000 in
theorem store_more (w : World) (B sb : Nat) (P : Pg) (v : Rl → Value) (s : Sx) (t : Nat) (x : Wt) (hs : DSt w B P sb v s) (hB : B ≤ w.heap.size) (hm : 0 < P.mode) (ht : t < s.ths.length) (hn4 : s.ths.length ≤ 4) (hw3 : (thOf s t).wait.length ≤ 3) :
    Calls Try.prog 55 #[.pointer (some ⟨sb, 0, none⟩), .int .i64 t, .agg #[.bool x.lk, .int .i64 x.wh, .int .i64 x.what]] w fun e w' => e = .returned (.tuple #[]) ∧ ∃ v', DSt w' B P sb v' (storeW P.mode s t x) ∧ Moved w w' v v' := by
  have hst : storeW P.mode s t x = setTh s t { thOf s t with wait := (thOf s t).wait ++ [x] } := by unfold storeW; rw [if_pos hm]
  rw [hst]
  obtain ⟨lk, wh, what⟩ := x
  simp only
  obtain ⟨tb, tc, hth, htb, htl⟩ := hs.thrB (by omega)
  obtain ⟨qa, qc, hq⟩ := hs.waitV t
  have hsb := lt_of_cell hs.c5
  have k4 := cell_up hs.c4
  have c5 := hs.c5
  rw [hth] at c5
  have cq := hs.wait htb ht
  rw [hq] at cq
  have cf := hs.fam.frozen htb (t * 3 + 2)
  have hbelow : ∀ o : Obj, Below w.heap.size w (w.alloc o).drew := fun o => ((Below.refl _ _).alloc (Nat.le_refl _) _).drew
  have hown := hs.fam.own (.wait t)
  obtain ⟨g, cap, w3, hr1, hr2, hr3, hr4⟩ := app_row (T := 94) Try.underlying94 infoWait rfl (by omega) hown (hbelow (.cells #[.bool lk, .int .i64 wh, .int .i64 what] 105)) hB 1 #[.bool lk, .int .i64 wh, .int .i64 what] rfl (by simp [Value.oneCell']) (by omega) (by show (thOf s t).wait.length + 1 ≤ _; omega) (by omega)
  have hne1 : some sb ≠ (v (.wait t)).ownBlock := fun e => absurd (hs.fam.apart _ _ sb hs.bblk e.symm) (by simp)
  have hne2 : some tb ≠ (v (.wait t)).ownBlock := fun e => absurd (hs.fam.apart _ _ tb htb e.symm) (by simp)
  have q5 := hr3.cell (cell_up2 c5 (.cells #[.bool lk, .int .i64 wh, .int .i64 what] 105) (.cells #[.bool lk, .int .i64 wh, .int .i64 what] 105)) hne1
  have qq := hr3.cell (cell_up2 cq (.cells #[.bool lk, .int .i64 wh, .int .i64 what] 105) (.cells #[.bool lk, .int .i64 wh, .int .i64 what] 105)) hne2
  have qf : w3.frozen? ⟨tb, t * 3 + 2, none⟩ = false := (hr3.frozen_far ⟨tb, t * 3 + 2, none⟩ (by simp; omega) hne2).trans (frozen_up2 htl cf _ _)
  have hlen : ((thOf s t).wait ++ [(⟨lk, wh, what⟩ : Wt)]).length = (thOf s t).wait.length + 1 := by simp
  have hcells : rX P v s (.wait t) ++ #[Value.bool lk, .int .i64 wh, .int .i64 what].toList = Go.Proofs.Ytefnmbnakphhfad.waitV ((thOf s t).wait ++ [⟨lk, wh, what⟩]) := by rw [waitV_snoc]; rfl
  rw [hcells] at hr2
  have hr2' : w3.ownsRow B 105 3 (.slice (some ⟨g, 0, none⟩) ((thOf s t).wait ++ [(⟨lk, wh, what⟩ : Wt)]).length cap) ((thOf s t).wait ++ [(⟨lk, wh, what⟩ : Wt)]).length (Go.Proofs.Ytefnmbnakphhfad.waitV ((thOf s t).wait ++ [⟨lk, wh, what⟩])) := by rw [hlen]; exact hr2
  have hbel2 : Below w.heap.size w ((w.alloc (.cells #[.bool lk, .int .i64 wh, .int .i64 what] 105)).drew.alloc (.cells #[.bool lk, .int .i64 wh, .int .i64 what] 105)) := (hbelow _).alloc (hbelow _).size _
  have hD := (hs.below hbel2).newWait htb ht hr2' hr3 hr4 (by simp)
  have hM := ((Moved.of_below (v := v) hbel2).grow (r := .wait t) (m := (thOf s t).wait.length + 1) (c := cap) hr3 hr4 (by simp)).put (r := .thr) (g := tb) (by rw [upd_ne _ _ (by simp)]; exact htb) (t * 3 + 2) (.slice (some ⟨g, 0, none⟩) ((thOf s t).wait.length + 1) cap)
  rw [hlen] at hD
  have HF : Hid (∃ v', DSt (w3.setCell ⟨tb, t * 3 + 2, none⟩ (.slice (some ⟨g, 0, none⟩) ((thOf s t).wait.length + 1) cap)) B P sb v' (setTh s t { thOf s t with wait := (thOf s t).wait ++ [⟨lk, wh, what⟩] }) ∧ Moved w (w3.setCell ⟨tb, t * 3 + 2, none⟩ (.slice (some ⟨g, 0, none⟩) ((thOf s t).wait.length + 1) cap)) v v') := ⟨_, hD, hM⟩
  have hrun : (AppS #[94, 94] 94 #[v (.wait t), .slice (some ⟨w.heap.size + 1, 0, none⟩) 1 1]).run Try.prog ((w.alloc (.cells #[.bool lk, .int .i64 wh, .int .i64 what] 105)).alloc (.cells #[.bool lk, .int .i64 wh, .int .i64 what] 105)).drew = .ok (.slice (some ⟨g, 0, none⟩) ((thOf s t).wait.length + 1) cap) w3 := by
    have e : (w.alloc (.cells #[.bool lk, .int .i64 wh, .int .i64 what] 105)).drew.heap.size = w.heap.size + 1 := by simp
    rw [e] at hr1
    exact hr1
  rw [hq] at hrun
  have k5 := cell_up c5
  have kq := cell_up cq
  have k52 := cell_up2 c5
  have kq2 := cell_up2 cq
  obtain ⟨mode, hmode⟩ : ∃ m, P.mode = m := ⟨_, rfl⟩
  rw [hmode] at k4 hm
  obtain ⟨n, hn⟩ : ∃ m, s.ths.length = m := ⟨_, rfl⟩
  rw [hn] at k5 k52 c5 q5 ht hn4
  obtain ⟨k, hk⟩ : ∃ m, (thOf s t).wait.length = m := ⟨_, rfl⟩
  rw [hk] at kq kq2 cq qq hrun HF hw3
  clear hs hst hth htb hq cf hbelow hown hr1 hr2 hr3 hr4 hne1 hne2 hlen hcells hr2' hbel2 hD hM hmode hn hk
  go_enter Try.func55, Try.ntmps55
  go_wp2
  go_region
  all_goals go_wp2
  all_goals go_end0
  all_goals exact ⟨rfl, HF.out⟩

end Go.Proofs.Ytefnmbnakphhfad
