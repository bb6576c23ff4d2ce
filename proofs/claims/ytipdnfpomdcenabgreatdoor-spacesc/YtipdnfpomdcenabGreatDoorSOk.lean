/-
  What holds of a state in every run of a program that may be; what an order's numbers may be.
  Whether a thread is able to do its next order.
  One that waited is done; whether a number is a word's; a store.
-/
import Derived.Test.YtipdnfpomdcenabGreatDoorFam
import Derived.Test.YtipdnfpomdcenabGreatDoorRMay
import Derived.Deep.QuietTactic
import Derived.BigQuiet
import Derived.BigRegion
namespace Go.Proofs.YtipdnfpomdcenabGreatDoor
section
open Go.RowKit

/-- What holds of a state in every run: of n threads, m words, lk locks, rg registers a thread. -/
structure SOk (n : Nat) (L : Nat → Nat) (m lk rg : Nat) (mode : Int) (s : Sx) : Prop where
  ths : s.ths.length = n
  pc : ∀ t, t < n → (thOf s t).pc ≤ L t
  regs : ∀ t, t < n → (thOf s t).regs.length = rg
  words : s.words.length = m
  own : s.own.length = lk
  wlen : ∀ t, t < n → (thOf s t).wait.length ≤ 3
  wok : ∀ t, t < n → ∀ x, x ∈ (thOf s t).wait → (0 ≤ x.wh ∧ x.wh < (if x.lk then lk else m : Nat)) ∧ (x.lk = true → x.what = 0)
  bare : mode = 0 → ∀ t, t < n → (thOf s t).wait = []

/-- The orders may be. -/
structure COk (n : Nat) (L : Nat → Nat) (X : Nat → Nat → Nat → Int) (m lk rg : Nat) : Prop where
  n4 : n ≤ 4
  L4 : ∀ t, t < n → L t ≤ 400
  m64 : m ≤ 64
  lk4 : lk ≤ 4
  rg0 : 1 ≤ rg
  rg2 : rg ≤ 200
  ord : ∀ t i, t < n → i < L t → ordE rg m lk (L t) (X t i 0) (X t i 1) (X t i 2) (X t i 3) = 0

section
variable {rg m lk sz : Nat} {op a b c : Int}
theorem ok_op (h : ordE rg m lk sz op a b c = 0) : 1 ≤ op ∧ op ≤ 18 := by
  rcases op_cases op with h1 | h1
  · exfalso
    unfold ordE at h
    rw [kd_out h1] at h
    simp at h
  · omega
theorem ok_three {rg m lk sz : Int} {x y z : Int} (hk : kd op = some (x, y, z)) (h : ordE rg m lk sz op a b c = 0) : okN rg m lk sz x a = true ∧ okN rg m lk sz y b = true ∧ okN rg m lk sz z c = true := by
  unfold ordE at h
  rw [hk] at h
  simp only at h
  split at h
  · rename_i h1; simpa [and_assoc] using h1
  · omega
theorem okN_reg {rg m lk sz n : Int} (h : okN rg m lk sz 1 n = true) : 0 ≤ n ∧ n < rg := by simpa [okN, lim] using h
theorem okN_word {rg m lk sz n : Int} (h : okN rg m lk sz 2 n = true) : 0 ≤ n ∧ n < m := by simpa [okN, lim] using h
theorem okN_lock {rg m lk sz n : Int} (h : okN rg m lk sz 3 n = true) : 0 ≤ n ∧ n < lk := by simpa [okN, lim] using h
theorem okN_place {rg m lk sz n : Int} (h : okN rg m lk sz 4 n = true) : 0 ≤ n ∧ n ≤ sz := by
  have : 0 ≤ n ∧ n < sz + 1 := by simpa [okN, lim] using h
  omega
/-- An order of three registers. -/
theorem ok_rrr (ho : op = 3 ∨ op = 4 ∨ op = 5 ∨ op = 6 ∨ op = 7) (h : ordE rg m lk sz op a b c = 0) : (0 ≤ a ∧ a < rg) ∧ (0 ≤ b ∧ b < rg) ∧ (0 ≤ c ∧ c < rg) := by
  have hk : kd op = some (1, 1, 1) := by rcases ho with rfl | rfl | rfl | rfl | rfl <;> rfl
  have := ok_three hk h
  exact ⟨okN_reg this.1, okN_reg this.2.1, okN_reg this.2.2⟩
theorem ok_const (h : ordE rg m lk sz 1 a b c = 0) : 0 ≤ a ∧ a < rg := okN_reg (ok_three (op := 1) rfl h).1
theorem ok_rr (ho : op = 2 ∨ op = 10 ∨ op = 11) (h : ordE rg m lk sz op a b c = 0) : (0 ≤ a ∧ a < rg) ∧ (0 ≤ b ∧ b < rg) := by
  have hk : kd op = some (1, 1, 0) := by rcases ho with rfl | rfl | rfl <;> rfl
  have := ok_three hk h
  exact ⟨okN_reg this.1, okN_reg this.2.1⟩
theorem ok_load (h : ordE rg m lk sz 8 a b c = 0) : (0 ≤ a ∧ a < rg) ∧ (0 ≤ b ∧ b < m) := by
  have := ok_three (op := 8) rfl h
  exact ⟨okN_reg this.1, okN_word this.2.1⟩
theorem ok_store (h : ordE rg m lk sz 9 a b c = 0) : (0 ≤ a ∧ a < m) ∧ (0 ≤ b ∧ b < rg) := by
  have := ok_three (op := 9) rfl h
  exact ⟨okN_word this.1, okN_reg this.2.1⟩
theorem ok_cas (h : ordE rg m lk sz 13 a b c = 0) : (0 ≤ a ∧ a < m) ∧ (0 ≤ b ∧ b < rg) ∧ (0 ≤ c ∧ c < rg) := by
  have := ok_three (op := 13) rfl h
  exact ⟨okN_word this.1, okN_reg this.2.1, okN_reg this.2.2⟩
theorem ok_jump (h : ordE rg m lk sz 14 a b c = 0) : 0 ≤ a ∧ a ≤ sz := okN_place (ok_three (op := 14) rfl h).1
theorem ok_zero (h : ordE rg m lk sz 15 a b c = 0) : (0 ≤ a ∧ a < rg) ∧ (0 ≤ b ∧ b ≤ sz) := by
  have := ok_three (op := 15) rfl h
  exact ⟨okN_reg this.1, okN_place this.2.1⟩
theorem ok_print (h : ordE rg m lk sz 16 a b c = 0) : 0 ≤ a ∧ a < rg := okN_reg (ok_three (op := 16) rfl h).1
theorem ok_lock (ho : op = 17 ∨ op = 18) (h : ordE rg m lk sz op a b c = 0) : 0 ≤ a ∧ a < lk := by
  have hk : kd op = some (3, 0, 0) := by rcases ho with rfl | rfl <;> rfl
  exact okN_lock (ok_three hk h).1
end
theorem toN {a : Int} {n : Nat} (h : 0 ≤ a ∧ a < n) : ∃ k : Nat, a = k ∧ k < n := ⟨a.toNat, by omega, by omega⟩
theorem toN_le {a : Int} {n : Nat} (h : 0 ≤ a ∧ a ≤ n) : ∃ k : Nat, a = k ∧ k ≤ n := ⟨a.toNat, by omega, by omega⟩
end

section
open Go.RowKit

set_option maxRecDepth 100000 in
set_option maxHeartbeats 1600000 in
theorem able_ended (sb : Nat) (ca : Option Addr) (n cc : Nat) (mode : Int) (tb tc : Nat) (rv qv : Nat → Value) (wv ov pv : Value) (s : Sx) (A : Nat → Option Addr) (L C : Nat → Nat) (X : Nat → Nat → Nat → Int) (hn : s.ths.length = n) (t : Nat) (ht : t < n) (hN : n ≤ 4) (hL : L t ≤ 400) (hpc : (thOf s t).pc ≤ 400) (hend : L t ≤ (thOf s t).pc) (w : World) (hs : SIn w sb ca n cc mode tb tc rv qv wv ov pv s) (hp : PIn w ca n A L C X) :
    Calls Tryz.prog 79 #[.pointer (some ⟨sb, 0, none⟩), .int .i64 t] w fun e w' => e = .returned (.bool false) ∧ Below w.heap.size w w' := by
  go_enter Tryz.func79, Tryz.ntmps79
  go_wp2_with fail
  refine (next_ended sb ca n cc mode tb tc rv qv wv ov pv s A L C X hn t ht hN hL hpc hend w hs hp).mono ?_
  rintro e w1 ⟨rfl, hb1⟩
  go_wp2_with fail
  go_ret
  exact ⟨rfl, hb1.alloc hb1.size _⟩

theorem below_drewN {B : Nat} {a w : World} (h : Below B a w) {k : Nat} : Below B a (w.drewN k) := ⟨h.os, h.tape, h.output, h.size, h.block⟩

/-- What an order's number says of whether a thread with k that wait is able to do it. -/
def ableO (own : List Int) (k : Nat) (op a : Int) : Bool :=
  if op = 9 ∨ op = 11 ∨ op = 18 then decide (k < 3)
  else if op = 12 ∨ op = 13 then decide (k = 0)
  else if op = 17 then decide (k = 0) && decide (own.getD a.toNat 0 = -1)
  else true
theorem ableT_more {L : Nat → Nat} {X : Nat → Nat → Nat → Int} {s : Sx} {t : Nat} (h : (thOf s t).pc < L t) : ableT L X s t = ableO s.own (thOf s t).wait.length (opT X s t 0) (opT X s t 1) := by
  unfold ableT endedT
  rw [decide_eq_false (by omega)]
  rfl
theorem ableT_ended {L : Nat → Nat} {X : Nat → Nat → Nat → Int} {s : Sx} {t : Nat} (h : L t ≤ (thOf s t).pc) : ableT L X s t = false := by
  unfold ableT endedT
  rw [decide_eq_true h]
  rfl

set_option maxRecDepth 100000 in
set_option maxHeartbeats 1600000 in
theorem able_any (w : World) (B sb : Nat) (P : Pg) (v : Rl → Value) (s : Sx) (A : Nat → Option Addr) (L C : Nat → Nat) (X : Nat → Nat → Nat → Int) (m lk rg : Nat) (t : Nat) (ht : t < P.n) (hs : DSt w B P sb v s) (ho : SOk P.n L m lk rg P.mode s) (hc : COk P.n L X m lk rg) (hp : PIn w P.ca P.n A L C X) :
    Calls Tryz.prog 79 #[.pointer (some ⟨sb, 0, none⟩), .int .i64 t] w fun e w' => e = .returned (.bool (ableT L X s t)) ∧ Below w.heap.size w w' := by
  have hl := ho.ths
  have hN := hc.n4
  have hLt := hc.L4 t ht
  obtain ⟨tb, tc, hth, htb, _⟩ := hs.thrB (by omega)
  rcases Nat.lt_or_ge (thOf s t).pc (L t) with hlt | hge
  · rw [ableT_more hlt]
    have hord := hc.ord t (thOf s t).pc ht hlt
    have hsin := hs.sin hth
    have hnext := next_more sb P.ca P.n P.cc P.mode tb tc _ _ _ _ _ s A L C X hl t ht hN hLt hlt w hsin hp
    obtain ⟨qa, qc, hq⟩ := hs.waitV t
    have hwait := hs.wait htb (t := t) (by omega)
    rw [hq] at hwait
    have hc5 := hs.c5
    rw [hth, hl] at hc5
    have hc7 := hs.c7
    have hw3 := ho.wlen t ht
    obtain ⟨k, hk⟩ : ∃ k, (thOf s t).wait.length = k := ⟨_, rfl⟩
    rw [hk] at hwait hw3 ⊢
    have hop : opT X s t 0 = X t (thOf s t).pc 0 := rfl
    have hoa : opT X s t 1 = X t (thOf s t).pc 1 := rfl
    rw [← hop, ← hoa] at hord
    obtain ⟨op, eop⟩ : ∃ x, opT X s t 0 = x := ⟨_, rfl⟩
    obtain ⟨a, ea⟩ : ∃ x, opT X s t 1 = x := ⟨_, rfl⟩
    obtain ⟨b, eb⟩ : ∃ x, opT X s t 2 = x := ⟨_, rfl⟩
    obtain ⟨c, ec⟩ : ∃ x, opT X s t 3 = x := ⟨_, rfl⟩
    rw [eop, ea] at hord
    rw [eop, ea, eb, ec] at hnext
    rw [eop, ea]
    clear hop hoa eop ea eb ec hsin hlt hk hq
    obtain ⟨n, hn⟩ : ∃ n, P.n = n := ⟨_, rfl⟩
    rw [hn] at hc5 ht hN
    obtain ⟨r, hr0⟩ : ∃ r, ableO s.own k op a = r := ⟨_, rfl⟩
    have HR : Hid (ableO s.own k op a = r) := hr0
    rw [hr0]
    clear hr0
    go_enter Tryz.func79, Tryz.ntmps79
    go_wp2_with fail
    refine hnext.mono ?_
    rintro e w1 ⟨rfl, hb1⟩
    clear hnext
    have k5 := cell_up ((hb1.cell (lt_of_cell hc5)).trans hc5)
    have k7 := cell_up ((hb1.cell (lt_of_cell hc7)).trans hc7)
    have kq := cell_up ((hb1.cell (lt_of_cell hwait)).trans hwait)
    have fin : ∀ o, Below w.heap.size w (w1.alloc o) := fun o => hb1.alloc hb1.size o
    by_cases h1 : op = 9 ∨ op = 11 ∨ op = 18
    · clear hs ho hc hp
      have hr : ableO s.own k op a = decide (k < 3) := by unfold ableO; rw [if_pos h1]
      have hr' := HR.out.symm.trans hr
      clear hr HR
      rcases h1 with rfl | rfl | rfl
      all_goals
        go_wp2
        go_ret
        exact ⟨ret_bool (by rw [hr']; exact decide_eq_decide.2 (by omega)), fin _⟩
    · by_cases h2 : op = 12 ∨ op = 13
      · clear hs ho hc hp
        have hr : ableO s.own k op a = decide (k = 0) := by unfold ableO; rw [if_neg h1, if_pos h2]
        have hr' := HR.out.symm.trans hr
        clear hr HR
        rcases h2 with rfl | rfl
        all_goals
          go_wp2
          go_ret
          exact ⟨ret_bool (by rw [hr']; cases k <;> rfl), fin _⟩
      · by_cases h3 : op = 17
        · have hr : ableO s.own k op a = (decide (k = 0) && decide (s.own.getD a.toNat 0 = -1)) := by unfold ableO; rw [if_neg h1, if_neg h2, if_pos h3]
          have hr' := HR.out.symm.trans hr
          clear hr HR
          subst h3
          obtain ⟨j, rfl, hj⟩ := toN (ok_lock (Or.inl rfl) hord)
          have hlo := ho.own
          have hl4 := hc.lk4
          obtain ⟨ob, oc, hov, hob, _⟩ := hs.ownB (by omega)
          have hown := hs.owner hob (r := j) (by omega)
          rw [hov, hlo] at k7
          have kown := cell_up ((hb1.cell (lt_of_cell hown)).trans hown)
          rw [show ((j : Int)).toNat = j by omega] at hr'
          obtain ⟨x, hx⟩ : ∃ x, s.own.getD j 0 = x := ⟨_, rfl⟩
          rw [hx] at kown hr'
          have HR' : Hid (r = _) := hr'
          clear hr'
          clear hx hord hs ho hc hp
          by_cases hk0 : k = 0
          · subst hk0
            go_wp2
            go_quiet (fail)
            go_wp2
            go_ret
            exact ⟨ret_bool (by rw [HR'.out, Bool.eq_iff_iff]; simp), below_drewN (fin _)⟩
          · have hd : decide (k = 0) = false := by simpa using hk0
            go_wp2
            go_quiet (fail)
            go_wp2
            go_ret
            exact ⟨ret_bool (by rw [HR'.out, Bool.eq_iff_iff]; simp; exact fun e => absurd e hk0), below_drewN (fin _)⟩
        · have hr : ableO s.own k op a = true := by unfold ableO; rw [if_neg h1, if_neg h2, if_neg h3]
          have hr' := HR.out.symm.trans hr
          clear hr HR
          subst hr'
          have n9 : ¬ op = 9 := fun e => h1 (Or.inl e)
          have n11 : ¬ op = 11 := fun e => h1 (Or.inr (Or.inl e))
          have n18 : ¬ op = 18 := fun e => h1 (Or.inr (Or.inr e))
          have n12 : ¬ op = 12 := fun e => h2 (Or.inl e)
          have n13 : ¬ op = 13 := fun e => h2 (Or.inr e)
          clear hord hs ho hc hp
          go_wp2
          go_ret
          exact ⟨rfl, fin _⟩
  · rw [ableT_ended hge]
    exact able_ended sb P.ca P.n P.cc P.mode tb tc _ _ _ _ _ s A L C X hl t ht hN hLt (by have := ho.pc t ht; omega) hge w (hs.sin hth) hp
end

section
open Go.RowKit

theorem frozen_up {w : World} {a : Addr} (ha : a.block < w.heap.size) (h : w.frozen? a = false) (o : Obj) : (w.alloc o).frozen? a = false := (World.frozen?_of_block (Below.heap_alloc w o a.block ha)).trans h
theorem DSt.alloc {w : World} {B : Nat} {P : Pg} {sb : Nat} {v : Rl → Value} {s : Sx} (h : DSt w B P sb v s) (o : Obj) : DSt (w.alloc o) B P sb v s := h.below ((Below.refl _ _).alloc (Nat.le_refl _) _)
theorem DSt.drew {w : World} {B : Nat} {P : Pg} {sb : Nat} {v : Rl → Value} {s : Sx} (h : DSt w B P sb v s) : DSt w.drew B P sb v s := ⟨h.fam.drew, h.box⟩
theorem DSt.drewN {w : World} {B : Nat} {P : Pg} {sb : Nat} {v : Rl → Value} {s : Sx} (h : DSt w B P sb v s) (k : Nat) : DSt (w.drewN k) B P sb v s := h.below (below_drewN (Below.refl _ _))
theorem Moved.drewN {ι : Type} {w w1 : World} {v v1 : ι → Value} (h : Moved w w1 v v1) (k : Nat) : Moved w (w1.drewN k) v v1 := ⟨h.os, h.tape, h.output, h.size, h.block, h.fresh⟩

set_option maxRecDepth 100000 in
set_option maxHeartbeats 1600000 in
theorem done_any (w : World) (B sb : Nat) (P : Pg) (v : Rl → Value) (s : Sx) (x : Wt) (hs : DSt w B P sb v s) (h0 : 0 ≤ x.wh) (hx : x.wh < (if x.lk then s.own.length else s.words.length : Nat)) (_hm : s.words.length ≤ 64) (_hk : s.own.length ≤ 4) :
    Calls Tryz.prog 95 #[.pointer (some ⟨sb, 0, none⟩), .agg #[.bool x.lk, .int .i64 x.wh, .int .i64 x.what]] w fun e w' => e = .returned (.tuple #[]) ∧ DSt w' B P sb v (doneW s x) ∧ Moved w w' v v := by
  obtain ⟨lk, wh, what⟩ := x
  simp only at hx h0 ⊢
  obtain ⟨j, rfl⟩ : ∃ j : Nat, wh = j := ⟨wh.toNat, by omega⟩
  have hsb := lt_of_cell hs.c7
  cases lk with
  | true =>
    simp only [if_true] at hx
    obtain ⟨ob, oc, hov, hob, hlt⟩ := hs.ownB (by omega)
    have k7 := cell_up hs.c7
    rw [hov] at k7
    have kown := cell_up (hs.owner hob (r := j) (by omega))
    have kf := frozen_up (a := ⟨ob, j, none⟩) hlt (hs.fam.frozen hob j)
    have HF : Hid (DSt (w.setCell ⟨ob, j, none⟩ (.int .i64 (-1))) B P sb v (doneW s ⟨true, j, what⟩) ∧ Moved w (w.setCell ⟨ob, j, none⟩ (.int .i64 (-1))) v v) :=
      ⟨by have := hs.setOwn hob j (-1); simpa [doneW] using this, (Moved.refl w v).put hob j _⟩
    obtain ⟨n, hn⟩ : ∃ n, s.own.length = n := ⟨_, rfl⟩
    obtain ⟨y, hy⟩ : ∃ y, s.own.getD j 0 = y := ⟨_, rfl⟩
    rw [hn] at k7 hx _hk
    rw [hy] at kown
    clear hs hov hob hn hy
    go_enter Tryz.func95, Tryz.ntmps95
    go_wp2
    go_region
    all_goals go_wp2
    all_goals go_end0
    all_goals exact ⟨rfl, (HF.out.1.alloc _).drew, (HF.out.2.alloc _).drew⟩
  | false =>
    simp only [Bool.false_eq_true, if_false] at hx
    obtain ⟨ob, oc, hov, hob, hlt⟩ := hs.wordsB (by omega)
    have k6 := cell_up hs.c6
    rw [hov] at k6
    have kown := cell_up (hs.word hob (r := j) (by omega))
    have kf := frozen_up (a := ⟨ob, j, none⟩) hlt (hs.fam.frozen hob j)
    have HF : Hid (DSt (w.setCell ⟨ob, j, none⟩ (.int .i64 what)) B P sb v (doneW s ⟨false, j, what⟩) ∧ Moved w (w.setCell ⟨ob, j, none⟩ (.int .i64 what)) v v) :=
      ⟨by have := hs.setWord hob j what; simpa [doneW] using this, (Moved.refl w v).put hob j _⟩
    obtain ⟨n, hn⟩ : ∃ n, s.words.length = n := ⟨_, rfl⟩
    obtain ⟨y, hy⟩ : ∃ y, s.words.getD j 0 = y := ⟨_, rfl⟩
    rw [hn] at k6 hx _hm
    rw [hy] at kown
    clear hs hov hob hn hy
    go_enter Tryz.func95, Tryz.ntmps95
    go_wp2
    go_region
    all_goals go_wp2
    all_goals go_end0
    all_goals exact ⟨rfl, (HF.out.1.alloc _).drew, (HF.out.2.alloc _).drew⟩

set_option maxRecDepth 100000 in
set_option maxHeartbeats 1600000 in
theorem word_yes (w : World) (B sb : Nat) (P : Pg) (v : Rl → Value) (s : Sx) (x : Int) (hs : DSt w B P sb v s) (_hm : s.words.length ≤ 64) (hx : 0 ≤ x ∧ x < (s.words.length : Int)) :
    Calls Tryz.prog 99 #[.pointer (some ⟨sb, 0, none⟩), .int .i64 x] w fun e w' => e = .returned (.bool true) ∧ w = w' := by
  obtain ⟨a, c, hv⟩ := hs.wordsV
  have k6 := hs.c6
  rw [hv] at k6
  have k9 := hs.c9
  have kf := hs.fam.frozen hs.bblk 9
  obtain ⟨n, hn⟩ : ∃ n, s.words.length = n := ⟨_, rfl⟩
  rw [hn] at k6 _hm hx
  clear hs hv hn
  obtain ⟨h0, h1⟩ := hx
  have h0' : decide (x < 0) = false := by simpa using h0
  go_enter Tryz.func99, Tryz.ntmps99
  go_wp2
  go_ret
  exact ⟨rfl, rfl⟩
set_option maxRecDepth 100000 in
set_option maxHeartbeats 1600000 in
theorem word_no (w : World) (B sb : Nat) (P : Pg) (v : Rl → Value) (s : Sx) (x : Int) (hs : DSt w B P sb v s) (_hm : s.words.length ≤ 64) (hx : x < 0 ∨ (s.words.length : Int) ≤ x) :
    Calls Tryz.prog 99 #[.pointer (some ⟨sb, 0, none⟩), .int .i64 x] w fun e w' => e = .returned (.bool false) ∧ w.setCell ⟨sb, 9, none⟩ (.bool true) = w' := by
  obtain ⟨a, c, hv⟩ := hs.wordsV
  have k6 := hs.c6
  rw [hv] at k6
  have k9 := hs.c9
  have kf := hs.fam.frozen hs.bblk 9
  obtain ⟨n, hn⟩ : ∃ n, s.words.length = n := ⟨_, rfl⟩
  rw [hn] at k6 _hm hx
  clear hs hv hn
  by_cases h0 : x < 0
  · clear hx
    go_enter Tryz.func99, Tryz.ntmps99
    go_wp2
    go_ret
    exact ⟨rfl, rfl⟩
  · have h0' : decide (x < 0) = false := by simpa using h0
    have h1 : (n : Int) ≤ x := by omega
    clear hx
    go_enter Tryz.func99, Tryz.ntmps99
    go_wp2
    go_ret
    exact ⟨rfl, rfl⟩

set_option maxRecDepth 100000 in
set_option maxHeartbeats 1600000 in
theorem store_zero (w : World) (B sb : Nat) (P : Pg) (v : Rl → Value) (s : Sx) (t : Nat) (x : Wt) (hs : DSt w B P sb v s) (hm : P.mode = 0) (h0 : 0 ≤ x.wh) (hx : x.wh < (if x.lk then s.own.length else s.words.length : Nat)) (hwl : s.words.length ≤ 64) (hol : s.own.length ≤ 4) :
    Calls Tryz.prog 98 #[.pointer (some ⟨sb, 0, none⟩), .int .i64 t, .agg #[.bool x.lk, .int .i64 x.wh, .int .i64 x.what]] w fun e w' => e = .returned (.tuple #[]) ∧ DSt w' B P sb v (storeW P.mode s t x) ∧ Moved w w' v v := by
  have hst : storeW P.mode s t x = doneW s x := by unfold storeW; rw [hm]; rfl
  rw [hst]
  have k4 := cell_up hs.c4
  rw [hm] at k4
  have HD : Hid (∀ o, Calls Tryz.prog 95 #[.pointer (some ⟨sb, 0, none⟩), .agg #[.bool x.lk, .int .i64 x.wh, .int .i64 x.what]] (w.alloc o) fun e w' => e = .returned (.tuple #[]) ∧ DSt w' B P sb v (doneW s x) ∧ Moved w w' v v) := fun o =>
    (done_any _ B sb P v s x (hs.alloc o) h0 hx hwl hol).mono fun e w' h => ⟨h.1, h.2.1, ((Moved.refl w v).alloc o).trans h.2.2⟩
  clear hs hst hm h0 hx hwl hol
  go_enter Tryz.func98, Tryz.ntmps98
  go_wp2_with fail
  refine (HD.out _).mono ?_
  rintro e w1 ⟨rfl, h1, h2⟩
  go_wp2_with fail
  go_end0
  exact ⟨rfl, h1, h2⟩

/-- An append's run, kept whole. -/
def AppS (ts : Array TypeId) (ty : TypeId) (args : Array Value) : Sem Value := Builtin.append_ ts ty args
theorem appS_eq (ts : Array TypeId) (ty : TypeId) (args : Array Value) : Builtin.append_ ts ty args = AppS ts ty args := rfl
theorem info_is {e : TypeId} {z : Value} {size bytes : Nat} (h : (Tryz.prog.info? e).map (fun i => (i.zero, i.size, i.bytes)) = some (some z, size, bytes)) : ∃ i, Tryz.prog.info? e = some i ∧ i.zero = some z ∧ i.size = size ∧ i.bytes = bytes := by
  cases hi : Tryz.prog.info? e with
  | none => rw [hi] at h; simp at h
  | some i => rw [hi] at h; simp at h; exact ⟨i, rfl, h.1, h.2.1, h.2.2⟩
/-- An append to a row of one's own of what has just been laid: its run. -/
theorem app_row {T e : TypeId} {z : Value} {size bytes : Nat} (ht : Tryz.prog.underlying T = some (.slice e)) (hinfo : (Tryz.prog.info? e).map (fun i => (i.zero, i.size, i.bytes)) = some (some z, size, bytes)) (hzs : z.cells.size = size) (hsz : 0 < size)
    {w W : World} {B : Nat} {v : Value} {n : Nat} {xs : List Value} (hown : w.ownsRow B e size v n xs) (hb : Below w.heap.size w W) (hB : B ≤ w.heap.size) (m : Nat) (news : Array Value) (hl : news.size = m * size) (h1 : ∀ u ∈ news.toList, u.oneCell' = true) (hm : 0 < m) (h63 : n + m ≤ 1000000) (hby : bytes ≤ 1000) :
    ∃ g cap w3, (AppS #[T, T] T #[v, .slice (some ⟨W.heap.size, 0, none⟩) m m]).run Tryz.prog (W.alloc (.cells news e)) = .ok (.slice (some ⟨g, 0, none⟩) (n + m) cap) w3 ∧ w3.ownsRow B e size (.slice (some ⟨g, 0, none⟩) (n + m) cap) (n + m) (xs ++ news.toList) ∧ (W.alloc (.cells news e)).grownBy w3 v.ownBlock ∧ (v.ownBlock = some g ∨ g = W.heap.size + 1) := by
  obtain ⟨i, hi, hz0, hz1, hz2⟩ := info_is hinfo
  have hown' : (W.alloc (.cells news e)).ownsRow B e size v n xs := (fam_keeps hown (fun g hg => hb.block g (hown.lt g hg).2)).alloc _
  have hbs := hb.size
  obtain ⟨g, cap, w3, r1, r2, r3, r4, _⟩ := run_append_lies (P := Tryz.prog) (W.alloc (.cells news e)) T T B e i z size bytes ht hi hz0 hz1 hz2 hzs hsz v n xs hown' ⟨W.heap.size, 0, none⟩ m m news.toList (by simpa using hl) (World.news_of_block (cs := news) (t := e) (fr := (0, 0)) (heap_alloc_new W _)) h1 hm (by unfold maxLen; omega) (by
    have : (n + m) * bytes ≤ 1000000 * 1000 := Nat.mul_le_mul h63 hby
    omega) (by simp; omega) (W.heap.size + 1) (by simp)
  exact ⟨g, cap, w3, r1, r2, r3, r4⟩

theorem infoWait : (Tryz.prog.info? 177).map (fun i => (i.zero, i.size, i.bytes)) = some (some (.agg #[.bool false, .int .i64 0, .int .i64 0]), 3, 24) := by kernel_rfl
theorem infoI : (Tryz.prog.info? 3).map (fun i => (i.zero, i.size, i.bytes)) = some (some (.int .i64 0), 1, 8) := by kernel_rfl

theorem cell_up2 {w : World} {a : Addr} {v : Value} (h : w.cell? a = some v) (o p : Obj) : ((w.alloc o).alloc p).cell? a = some v := cell_up (cell_up h o) p
theorem frozen_up2 {w : World} {a : Addr} (ha : a.block < w.heap.size) (h : w.frozen? a = false) (o p : Obj) : ((w.alloc o).alloc p).frozen? a = false := frozen_up (by simp; omega) (frozen_up ha h o) p

attribute [local go_sem ↓] appS_eq
set_option maxRecDepth 100000 in
set_option maxHeartbeats 1600000 in
theorem store_more (w : World) (B sb : Nat) (P : Pg) (v : Rl → Value) (s : Sx) (t : Nat) (x : Wt) (hs : DSt w B P sb v s) (hB : B ≤ w.heap.size) (hm : 0 < P.mode) (ht : t < s.ths.length) (hn4 : s.ths.length ≤ 4) (hw3 : (thOf s t).wait.length ≤ 3) :
    Calls Tryz.prog 98 #[.pointer (some ⟨sb, 0, none⟩), .int .i64 t, .agg #[.bool x.lk, .int .i64 x.wh, .int .i64 x.what]] w fun e w' => e = .returned (.tuple #[]) ∧ ∃ v', DSt w' B P sb v' (storeW P.mode s t x) ∧ Moved w w' v v' := by
  have hst : storeW P.mode s t x = setTh s t { thOf s t with wait := (thOf s t).wait ++ [x] } := by unfold storeW; rw [if_pos hm]
  rw [hst]
  obtain ⟨lk, wh, what⟩ := x
  simp only
  obtain ⟨tb, tc, hth, htb, htl⟩ := hs.thrB (by omega)
  obtain ⟨qa, qc, hq⟩ := hs.waitV t
  have hsb := lt_of_cell hs.c5
  have k4 := cell_up hs.c4
  have c5 := hs.c5
  rw [hth] at c5
  have cq := hs.wait htb ht
  rw [hq] at cq
  have cf := hs.fam.frozen htb (t * 3 + 2)
  have hbelow : ∀ o : Obj, Below w.heap.size w (w.alloc o).drew := fun o => ((Below.refl _ _).alloc (Nat.le_refl _) _).drew
  have hown := hs.fam.own (.wait t)
  obtain ⟨g, cap, w3, hr1, hr2, hr3, hr4⟩ := app_row (T := 93) Tryz.underlying93 infoWait rfl (by omega) hown (hbelow (.cells #[.bool lk, .int .i64 wh, .int .i64 what] 177)) hB 1 #[.bool lk, .int .i64 wh, .int .i64 what] rfl (by simp [Value.oneCell']) (by omega) (by show (thOf s t).wait.length + 1 ≤ _; omega) (by omega)
  have hne1 : some sb ≠ (v (.wait t)).ownBlock := fun e => absurd (hs.fam.apart _ _ sb hs.bblk e.symm) (by simp)
  have hne2 : some tb ≠ (v (.wait t)).ownBlock := fun e => absurd (hs.fam.apart _ _ tb htb e.symm) (by simp)
  have q5 := hr3.cell (cell_up2 c5 (.cells #[.bool lk, .int .i64 wh, .int .i64 what] 177) (.cells #[.bool lk, .int .i64 wh, .int .i64 what] 177)) hne1
  have qq := hr3.cell (cell_up2 cq (.cells #[.bool lk, .int .i64 wh, .int .i64 what] 177) (.cells #[.bool lk, .int .i64 wh, .int .i64 what] 177)) hne2
  have qf : w3.frozen? ⟨tb, t * 3 + 2, none⟩ = false := (hr3.frozen_far ⟨tb, t * 3 + 2, none⟩ (by simp; omega) hne2).trans (frozen_up2 htl cf _ _)
  have hlen : ((thOf s t).wait ++ [(⟨lk, wh, what⟩ : Wt)]).length = (thOf s t).wait.length + 1 := by simp
  have hcells : rX P v s (.wait t) ++ #[Value.bool lk, .int .i64 wh, .int .i64 what].toList = Go.Proofs.YtipdnfpomdcenabGreatDoor.waitV ((thOf s t).wait ++ [⟨lk, wh, what⟩]) := by rw [waitV_snoc]; rfl
  rw [hcells] at hr2
  have hr2' : w3.ownsRow B 177 3 (.slice (some ⟨g, 0, none⟩) ((thOf s t).wait ++ [(⟨lk, wh, what⟩ : Wt)]).length cap) ((thOf s t).wait ++ [(⟨lk, wh, what⟩ : Wt)]).length (Go.Proofs.YtipdnfpomdcenabGreatDoor.waitV ((thOf s t).wait ++ [⟨lk, wh, what⟩])) := by rw [hlen]; exact hr2
  have hbel2 : Below w.heap.size w ((w.alloc (.cells #[.bool lk, .int .i64 wh, .int .i64 what] 177)).drew.alloc (.cells #[.bool lk, .int .i64 wh, .int .i64 what] 177)) := (hbelow _).alloc (hbelow _).size _
  have hD := (hs.below hbel2).newWait htb ht hr2' hr3 hr4 (by simp)
  have hM := ((Moved.of_below (v := v) hbel2).grow (r := .wait t) (m := (thOf s t).wait.length + 1) (c := cap) hr3 hr4 (by simp)).put (r := .thr) (g := tb) (by rw [upd_ne _ _ (by simp)]; exact htb) (t * 3 + 2) (.slice (some ⟨g, 0, none⟩) ((thOf s t).wait.length + 1) cap)
  rw [hlen] at hD
  have HF : Hid (∃ v', DSt (w3.setCell ⟨tb, t * 3 + 2, none⟩ (.slice (some ⟨g, 0, none⟩) ((thOf s t).wait.length + 1) cap)) B P sb v' (setTh s t { thOf s t with wait := (thOf s t).wait ++ [⟨lk, wh, what⟩] }) ∧ Moved w (w3.setCell ⟨tb, t * 3 + 2, none⟩ (.slice (some ⟨g, 0, none⟩) ((thOf s t).wait.length + 1) cap)) v v') := ⟨_, hD, hM⟩
  have hrun : (AppS #[93, 93] 93 #[v (.wait t), .slice (some ⟨w.heap.size + 1, 0, none⟩) 1 1]).run Tryz.prog ((w.alloc (.cells #[.bool lk, .int .i64 wh, .int .i64 what] 177)).alloc (.cells #[.bool lk, .int .i64 wh, .int .i64 what] 177)).drew = .ok (.slice (some ⟨g, 0, none⟩) ((thOf s t).wait.length + 1) cap) w3 := by
    have e : (w.alloc (.cells #[.bool lk, .int .i64 wh, .int .i64 what] 177)).drew.heap.size = w.heap.size + 1 := by simp
    rw [e] at hr1
    exact hr1
  rw [hq] at hrun
  have k5 := cell_up c5
  have kq := cell_up cq
  have k52 := cell_up2 c5
  have kq2 := cell_up2 cq
  obtain ⟨mode, hmode⟩ : ∃ m, P.mode = m := ⟨_, rfl⟩
  rw [hmode] at k4 hm
  obtain ⟨n, hn⟩ : ∃ m, s.ths.length = m := ⟨_, rfl⟩
  rw [hn] at k5 k52 c5 q5 ht hn4
  obtain ⟨k, hk⟩ : ∃ m, (thOf s t).wait.length = m := ⟨_, rfl⟩
  rw [hk] at kq kq2 cq qq hrun HF hw3
  clear hs hst hth htb hq cf hbelow hown hr1 hr2 hr3 hr4 hne1 hne2 hlen hcells hr2' hbel2 hD hM hmode hn hk
  go_enter Tryz.func98, Tryz.ntmps98
  go_wp2
  go_region
  all_goals go_wp2
  all_goals go_end0
  all_goals exact ⟨rfl, HF.out⟩
end

end Go.Proofs.YtipdnfpomdcenabGreatDoor
