/-
  Whether a thread is able to do its next order.
-/
import Derived.Test.YtmpobfnadjkgeabRMay
import Derived.Test.YtmpobfnadjkgeabSOk
import Derived.Deep.QuietTactic
import Derived.BigQuiet
namespace Go.Proofs.Ytmpobfnadjkgeab
open Go.RowKit

set_option maxRecDepth 100000 in
set_option maxHeartbeats 1600000 in
theorem able_ended (sb : Nat) (ca : Option Addr) (n cc : Nat) (mode : Int) (tb tc : Nat) (rv qv : Nat → Value) (wv ov pv : Value) (s : Sx) (A : Nat → Option Addr) (L C : Nat → Nat) (X : Nat → Nat → Nat → Int) (hn : s.ths.length = n) (t : Nat) (ht : t < n) (hN : n ≤ 4) (hL : L t ≤ 400) (hpc : (thOf s t).pc ≤ 400) (hend : L t ≤ (thOf s t).pc) (w : World) (hs : SIn w sb ca n cc mode tb tc rv qv wv ov pv s) (hp : PIn w ca n A L C X) :
    Calls Try.prog 38 #[.pointer (some ⟨sb, 0, none⟩), .int .i64 t] w fun e w' => e = .returned (.bool false) ∧ Below w.heap.size w w' := by
  go_enter Try.func38, Try.ntmps38
  go_wp2_with fail
  refine (next_ended sb ca n cc mode tb tc rv qv wv ov pv s A L C X hn t ht hN hL hpc hend w hs hp).mono ?_
  rintro e w1 ⟨rfl, hb1⟩
  go_wp2_with fail
  go_ret
  exact ⟨rfl, hb1.alloc hb1.size _⟩

theorem below_drewN {B : Nat} {a w : World} (h : Below B a w) {k : Nat} : Below B a (w.drewN k) := ⟨h.os, h.tape, h.output, h.size, h.block⟩

/-- What an order's number says of whether a thread with k that wait is able to do it. -/
def ableO (own : List Int) (k : Nat) (op a : Int) : Bool :=
  if op = 9 ∨ op = 11 ∨ op = 18 then decide (k < 3)
  else if op = 12 ∨ op = 13 then decide (k = 0)
  else if op = 17 then decide (k = 0) && decide (own.getD a.toNat 0 = -1)
  else true
theorem ableT_more {L : Nat → Nat} {X : Nat → Nat → Nat → Int} {s : Sx} {t : Nat} (h : (thOf s t).pc < L t) : ableT L X s t = ableO s.own (thOf s t).wait.length (opT X s t 0) (opT X s t 1) := by
  unfold ableT endedT
  rw [decide_eq_false (by omega)]
  rfl
theorem ableT_ended {L : Nat → Nat} {X : Nat → Nat → Nat → Int} {s : Sx} {t : Nat} (h : L t ≤ (thOf s t).pc) : ableT L X s t = false := by
  unfold ableT endedT
  rw [decide_eq_true h]
  rfl

set_option maxRecDepth 100000 in
set_option maxHeartbeats 1600000 in
theorem able_any (w : World) (B sb : Nat) (P : Pg) (v : Rl → Value) (s : Sx) (A : Nat → Option Addr) (L C : Nat → Nat) (X : Nat → Nat → Nat → Int) (m lk rg : Nat) (t : Nat) (ht : t < P.n) (hs : DSt w B P sb v s) (ho : SOk P.n L m lk rg P.mode s) (hc : COk P.n L X m lk rg) (hp : PIn w P.ca P.n A L C X) :
    Calls Try.prog 38 #[.pointer (some ⟨sb, 0, none⟩), .int .i64 t] w fun e w' => e = .returned (.bool (ableT L X s t)) ∧ Below w.heap.size w w' := by
  have hl := ho.ths
  have hN := hc.n4
  have hLt := hc.L4 t ht
  obtain ⟨tb, tc, hth, htb, _⟩ := hs.thrB (by omega)
  rcases Nat.lt_or_ge (thOf s t).pc (L t) with hlt | hge
  · rw [ableT_more hlt]
    have hord := hc.ord t (thOf s t).pc ht hlt
    have hsin := hs.sin hth
    have hnext := next_more sb P.ca P.n P.cc P.mode tb tc _ _ _ _ _ s A L C X hl t ht hN hLt hlt w hsin hp
    obtain ⟨qa, qc, hq⟩ := hs.waitV t
    have hwait := hs.wait htb (t := t) (by omega)
    rw [hq] at hwait
    have hc5 := hs.c5
    rw [hth, hl] at hc5
    have hc7 := hs.c7
    have hw3 := ho.wlen t ht
    obtain ⟨k, hk⟩ : ∃ k, (thOf s t).wait.length = k := ⟨_, rfl⟩
    rw [hk] at hwait hw3 ⊢
    have hop : opT X s t 0 = X t (thOf s t).pc 0 := rfl
    have hoa : opT X s t 1 = X t (thOf s t).pc 1 := rfl
    rw [← hop, ← hoa] at hord
    obtain ⟨op, eop⟩ : ∃ x, opT X s t 0 = x := ⟨_, rfl⟩
    obtain ⟨a, ea⟩ : ∃ x, opT X s t 1 = x := ⟨_, rfl⟩
    obtain ⟨b, eb⟩ : ∃ x, opT X s t 2 = x := ⟨_, rfl⟩
    obtain ⟨c, ec⟩ : ∃ x, opT X s t 3 = x := ⟨_, rfl⟩
    rw [eop, ea] at hord
    rw [eop, ea, eb, ec] at hnext
    rw [eop, ea]
    clear hop hoa eop ea eb ec hsin hlt hk hq
    obtain ⟨n, hn⟩ : ∃ n, P.n = n := ⟨_, rfl⟩
    rw [hn] at hc5 ht hN
    obtain ⟨r, hr0⟩ : ∃ r, ableO s.own k op a = r := ⟨_, rfl⟩
    have HR : Hid (ableO s.own k op a = r) := hr0
    rw [hr0]
    clear hr0
    go_enter Try.func38, Try.ntmps38
    go_wp2_with fail
    refine hnext.mono ?_
    rintro e w1 ⟨rfl, hb1⟩
    clear hnext
    have k5 := cell_up ((hb1.cell (lt_of_cell hc5)).trans hc5)
    have k7 := cell_up ((hb1.cell (lt_of_cell hc7)).trans hc7)
    have kq := cell_up ((hb1.cell (lt_of_cell hwait)).trans hwait)
    have fin : ∀ o, Below w.heap.size w (w1.alloc o) := fun o => hb1.alloc hb1.size o
    by_cases h1 : op = 9 ∨ op = 11 ∨ op = 18
    · clear hs ho hc hp
      have hr : ableO s.own k op a = decide (k < 3) := by unfold ableO; rw [if_pos h1]
      have hr' := HR.out.symm.trans hr
      clear hr HR
      rcases h1 with rfl | rfl | rfl
      all_goals
        go_wp2
        go_ret
        exact ⟨ret_bool (by rw [hr']; exact decide_eq_decide.2 (by omega)), fin _⟩
    · by_cases h2 : op = 12 ∨ op = 13
      · clear hs ho hc hp
        have hr : ableO s.own k op a = decide (k = 0) := by unfold ableO; rw [if_neg h1, if_pos h2]
        have hr' := HR.out.symm.trans hr
        clear hr HR
        rcases h2 with rfl | rfl
        all_goals
          go_wp2
          go_ret
          exact ⟨ret_bool (by rw [hr']; cases k <;> rfl), fin _⟩
      · by_cases h3 : op = 17
        · have hr : ableO s.own k op a = (decide (k = 0) && decide (s.own.getD a.toNat 0 = -1)) := by unfold ableO; rw [if_neg h1, if_neg h2, if_pos h3]
          have hr' := HR.out.symm.trans hr
          clear hr HR
          subst h3
          obtain ⟨j, rfl, hj⟩ := toN (ok_lock (Or.inl rfl) hord)
          have hlo := ho.own
          have hl4 := hc.lk4
          obtain ⟨ob, oc, hov, hob, _⟩ := hs.ownB (by omega)
          have hown := hs.owner hob (r := j) (by omega)
          rw [hov, hlo] at k7
          have kown := cell_up ((hb1.cell (lt_of_cell hown)).trans hown)
          rw [show ((j : Int)).toNat = j by omega] at hr'
          obtain ⟨x, hx⟩ : ∃ x, s.own.getD j 0 = x := ⟨_, rfl⟩
          rw [hx] at kown hr'
          have HR' : Hid (r = _) := hr'
          clear hr'
          clear hx hord hs ho hc hp
          by_cases hk0 : k = 0
          · subst hk0
            go_wp2
            go_quiet (fail)
            go_wp2
            go_ret
            exact ⟨ret_bool (by rw [HR'.out, Bool.eq_iff_iff]; simp), below_drewN (fin _)⟩
          · have hd : decide (k = 0) = false := by simpa using hk0
            go_wp2
            go_quiet (fail)
            go_wp2
            go_ret
            exact ⟨ret_bool (by rw [HR'.out, Bool.eq_iff_iff]; simp; exact fun e => absurd e hk0), below_drewN (fin _)⟩
        · have hr : ableO s.own k op a = true := by unfold ableO; rw [if_neg h1, if_neg h2, if_neg h3]
          have hr' := HR.out.symm.trans hr
          clear hr HR
          subst hr'
          have n9 : ¬ op = 9 := fun e => h1 (Or.inl e)
          have n11 : ¬ op = 11 := fun e => h1 (Or.inr (Or.inl e))
          have n18 : ¬ op = 18 := fun e => h1 (Or.inr (Or.inr e))
          have n12 : ¬ op = 12 := fun e => h2 (Or.inl e)
          have n13 : ¬ op = 13 := fun e => h2 (Or.inr e)
          clear hord hs ho hc hp
          go_wp2
          go_ret
          exact ⟨rfl, fin _⟩
  · rw [ableT_ended hge]
    exact able_ended sb P.ca P.n P.cc P.mode tb tc _ _ _ _ _ s A L C X hl t ht hN hLt (by have := ho.pc t ht; omega) hge w (hs.sin hth) hp

end Go.Proofs.Ytmpobfnadjkgeab
