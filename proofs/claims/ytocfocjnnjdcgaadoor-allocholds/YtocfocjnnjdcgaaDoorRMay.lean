/-
  What waits, as it lies in memory; whether one that waits may be done.
  Whether a thread is able to do its next order.
  What a thread finds in a word.
  An outcome put into its place, one behind the other: plain functions.
  Blocks that lie there later; two boxes.
  What the program tells of all threads: which registers are live.
  The document's Check as one contract.
-/
import Derived.Test.YtocfocjnnjdcgaaDoorRunP
import Derived.Test.YtocfocjnnjdcgaaDoorCOkP
import Derived.Deep.QuietTactic
import Derived.BigQuiet
import Derived.Test.YtocfocjnnjdcgaaDoorLivC
import Derived.Test.YtocfocjnnjdcgaaDoorLivK
import Derived.Test.YtocfocjnnjdcgaaDoorLivF
import Derived.Test.YtocfocjnnjdcgaaDoorCheckR2
namespace Go.Proofs.YtocfocjnnjdcgaaDoor
section
open Go.RowKit

/-- What waits, as it is read. -/
def WIn (w : World) (a : Option Addr) (l : List Wt) : Prop := ∀ i, i < l.length → ∃ b o, a = some ⟨b, o, none⟩ ∧ w.cell? ⟨b, o + i * 3, none⟩ = some (.bool (l.getD i default).lk) ∧ w.cell? ⟨b, o + i * 3 + 1, none⟩ = some (.int .i64 (l.getD i default).wh) ∧ w.cell? ⟨b, o + i * 3 + 2, none⟩ = some (.int .i64 (l.getD i default).what)
theorem WIn.below {w w' : World} {a : Option Addr} {l : List Wt} (h : WIn w a l) (hb : Below w.heap.size w w') : WIn w' a l := fun i hi => by
  obtain ⟨b, o, e, h0, h1, h2⟩ := h i hi
  exact ⟨b, o, e, (hb.cell (lt_of_cell h0)).trans h0, (hb.cell (lt_of_cell h1)).trans h1, (hb.cell (lt_of_cell h2)).trans h2⟩

set_option maxRecDepth 100000 in
set_option maxHeartbeats 1600000 in
theorem may_any (sb : Nat) (mode : Int) (qa : Option Addr) (qc : Nat) (l : List Wt) (k : Nat) (hk : k < l.length) (_hl : l.length ≤ 100) (w : World) (hm : w.cell? ⟨sb, 4, none⟩ = some (.int .i64 mode)) (hq : WIn w qa l) :
    Calls Tryd.prog 95 #[.pointer (some ⟨sb, 0, none⟩), .slice qa l.length qc, .int .i64 k] w fun e w' => e = .returned (.bool (mayW mode l k)) ∧ Below w.heap.size w w' := by
  obtain ⟨b, o, rfl, k0, k1, _⟩ := hq k hk
  obtain ⟨r, hr⟩ : ∃ r, mayW mode l k = r := ⟨_, rfl⟩
  have HR : Hid (mayW mode l k = r) := hr
  rw [hr]
  clear hr
  obtain ⟨lkk, e1⟩ : ∃ v, (l.getD k default).lk = v := ⟨_, rfl⟩
  obtain ⟨whk, e2⟩ : ∃ v, (l.getD k default).wh = v := ⟨_, rfl⟩
  have HE1 : Hid ((l.getD k default).lk = lkk) := e1
  have HE2 : Hid ((l.getD k default).wh = whk) := e2
  rw [e1] at k0
  rw [e2] at k1
  clear e1 e2
  go_enter Tryd.func95, Tryd.ntmps95
  by_cases hk0 : k = 0
  · subst hk0
    obtain rfl : r = true := by rw [← HR.out]; simp [mayW]
    go_wp2
    go_ret
    exact ⟨rfl, Below.refl _ _⟩
  · by_cases hm1 : mode = 1
    · obtain rfl : r = false := by rw [← HR.out]; simp [mayW, hk0, hm1]
      go_wp2
      go_ret
      exact ⟨rfl, Below.refl _ _⟩
    · cases lkk with
      | true =>
        obtain rfl : r = false := by rw [← HR.out]; simp only [mayW, hk0, HE1.out]; simp
        go_wp2
        go_ret
        exact ⟨rfl, Below.refl _ _⟩
      | false =>
        have HV : Hid (mayW mode l k = (l.take k).all fun x => !(x.lk || decide (x.wh = whk))) := by
          show _ = _
          simp only [mayW, hk0, hm1, HE1.out, HE2.out]
          simp
        go_wp2
        go_loopw [7] (fun i wr => ∃ j : Nat, j ≤ k ∧ i = .int .i64 j ∧ Hid (∀ p, p < j → (l.getD p default).lk = false ∧ (l.getD p default).wh ≠ whk) ∧ Below w.heap.size w wr) (fun i _ => k - (intOf i).toNat)
        case atStart => exact ⟨0, Nat.zero_le _, rfl, fun p hp => absurd hp (Nat.not_lt_zero _), Below.refl _ _⟩
        case round =>
          obtain ⟨j, hj, rfl, HJ, hbr⟩ := hrel
          have k0r := (hbr.cell (lt_of_cell k0)).trans k0
          have k1r := (hbr.cell (lt_of_cell k1)).trans k1
          have hqr := hq.below hbr
          by_cases hlt : j < k
          · obtain ⟨_, _, e0, j0, j1, _⟩ := hqr j (by omega)
            simp only [Option.some.injEq, Addr.mk.injEq, and_true] at e0
            obtain ⟨rfl, rfl⟩ := e0
            obtain ⟨lj, f1⟩ : ∃ v, (l.getD j default).lk = v := ⟨_, rfl⟩
            obtain ⟨wj, f2⟩ : ∃ v, (l.getD j default).wh = v := ⟨_, rfl⟩
            have HF1 : Hid ((l.getD j default).lk = lj) := f1
            have HF2 : Hid ((l.getD j default).wh = wj) := f2
            rw [f1] at j0
            rw [f2] at j1
            clear f1 f2
            have hmem : l.getD j default ∈ l.take k := by
              have h1 : j < l.length := by omega
              have e : l.getD j default = (l.take k)[j]'(by simp; omega) := by simp [List.getD, List.getElem?_eq_getElem h1]
              rw [e]
              exact List.getElem_mem _
            have HMM := Hid.out (p := Hid _) hmem
            clear hmem
            cases lj with
            | true =>
              obtain rfl : r = false := by
                rw [← HR.out, HV.out, List.all_eq_false]
                exact ⟨_, HMM.out, by simp only [HF1.out]; simp⟩
              go_wp2
              go_region
              all_goals go_wp2
              all_goals go_ret
              all_goals exact ⟨rfl, hbr.drew⟩
            | false =>
              by_cases hwe : wj = whk
              · obtain rfl : r = false := by
                  rw [← HR.out, HV.out, List.all_eq_false]
                  exact ⟨_, HMM.out, by simp only [HF1.out, HF2.out, hwe]; simp⟩
                go_wp2
                go_region
                all_goals go_wp2
                all_goals go_ret
                all_goals exact ⟨rfl, hbr.drew⟩
              · go_wp2
                go_region
                all_goals go_wp2
                all_goals go_roundw
                case rel =>
                  refine ⟨j + 1, by omega, by go_num, ?_, hbr.drew⟩
                  intro p hp
                  rcases (by omega : p < j ∨ p = j) with h | rfl
                  · exact HJ.out p h
                  · exact ⟨HF1.out, by rw [HF2.out]; exact hwe⟩
                case measure => simp [intOf]; omega
          · obtain rfl : j = k := by omega
            obtain rfl : r = true := by
              rw [← HR.out, HV.out, List.all_eq_true]
              intro x hx
              obtain ⟨p, hp, rfl⟩ := List.mem_iff_getElem.mp hx
              have hpj : p < j := by simp at hp; omega
              have h2 := HJ.out p hpj
              have e : l.getD p default = (l.take j)[p] := by simp [List.getD, List.getElem?_eq_getElem (show p < l.length by omega)]
              rw [e] at h2
              rw [h2.1, decide_eq_false h2.2]
              rfl
            go_wp2
            go_ret
            exact ⟨rfl, hbr⟩
end

section
open Go.RowKit

set_option maxRecDepth 100000 in
set_option maxHeartbeats 1600000 in
theorem able_ended (sb : Nat) (ca : Option Addr) (n cc : Nat) (mode : Int) (tb tc : Nat) (rv qv : Nat → Value) (wv ov pv : Value) (s : Sx) (A : Nat → Option Addr) (L C : Nat → Nat) (X : Nat → Nat → Nat → Int) (hn : s.ths.length = n) (t : Nat) (ht : t < n) (hN : n ≤ 4) (hL : L t ≤ 1000) (hpc : (thOf s t).pc ≤ 1000) (hend : L t ≤ (thOf s t).pc) (w : World) (hs : SIn w sb ca n cc mode tb tc rv qv wv ov pv s) (hp : PIn w ca n A L C X) :
    Calls Tryd.prog 94 #[.pointer (some ⟨sb, 0, none⟩), .int .i64 t] w fun e w' => e = .returned (.bool false) ∧ Below w.heap.size w w' := by
  go_enter Tryd.func94, Tryd.ntmps94
  go_wp2_with fail
  refine (next_ended sb ca n cc mode tb tc rv qv wv ov pv s A L C X hn t ht hN hL hpc hend w hs hp).mono ?_
  rintro e w1 ⟨rfl, hb1⟩
  go_wp2_with fail
  go_ret
  exact ⟨rfl, hb1.alloc hb1.size _⟩

/-- What an order's number says of whether a thread with k that wait is able to do it. -/
def ableO (own : List Int) (k : Nat) (op a : Int) : Bool :=
  if op = 9 ∨ op = 11 ∨ op = 18 then decide (k < 3)
  else if op = 12 ∨ op = 13 then decide (k = 0)
  else if op = 17 then decide (k = 0) && decide (own.getD a.toNat 0 = -1)
  else true
theorem ableT_more {L : Nat → Nat} {X : Nat → Nat → Nat → Int} {s : Sx} {t : Nat} (h : (thOf s t).pc < L t) : ableT L X s t = ableO s.own (thOf s t).wait.length (opT X s t 0) (opT X s t 1) := by
  unfold ableT endedT
  rw [decide_eq_false (by omega)]
  rfl
theorem ableT_ended {L : Nat → Nat} {X : Nat → Nat → Nat → Int} {s : Sx} {t : Nat} (h : L t ≤ (thOf s t).pc) : ableT L X s t = false := by
  unfold ableT endedT
  rw [decide_eq_true h]
  rfl

set_option maxRecDepth 100000 in
set_option maxHeartbeats 1600000 in
theorem able_any (w : World) (B sb : Nat) (P : Pg) (v : Rl → Value) (s : Sx) (A : Nat → Option Addr) (L C : Nat → Nat) (X : Nat → Nat → Nat → Int) (m lk rg : Nat) (t : Nat) (ht : t < P.n) (hs : DSt w B P sb v s) (ho : SOk P.n L m lk rg P.mode s) (hc : COk P.n L X m lk rg) (hp : PIn w P.ca P.n A L C X) :
    Calls Tryd.prog 94 #[.pointer (some ⟨sb, 0, none⟩), .int .i64 t] w fun e w' => e = .returned (.bool (ableT L X s t)) ∧ Below w.heap.size w w' := by
  have hl := ho.ths
  have hN := hc.n4
  have hLt := hc.L4 t ht
  obtain ⟨tb, tc, hth, htb, _⟩ := hs.thrB (by omega)
  rcases Nat.lt_or_ge (thOf s t).pc (L t) with hlt | hge
  · rw [ableT_more hlt]
    have hord := hc.ord t (thOf s t).pc ht hlt
    have hsin := hs.sin hth
    have hnext := next_more sb P.ca P.n P.cc P.mode tb tc _ _ _ _ _ s A L C X hl t ht hN hLt hlt w hsin hp
    obtain ⟨qa, qc, hq⟩ := hs.waitV t
    have hwait := hs.wait htb (t := t) (by omega)
    rw [hq] at hwait
    have hc5 := hs.c5
    rw [hth, hl] at hc5
    have hc7 := hs.c7
    have hw3 := ho.wlen t ht
    obtain ⟨k, hk⟩ : ∃ k, (thOf s t).wait.length = k := ⟨_, rfl⟩
    rw [hk] at hwait hw3 ⊢
    have hop : opT X s t 0 = X t (thOf s t).pc 0 := rfl
    have hoa : opT X s t 1 = X t (thOf s t).pc 1 := rfl
    rw [← hop, ← hoa] at hord
    obtain ⟨op, eop⟩ : ∃ x, opT X s t 0 = x := ⟨_, rfl⟩
    obtain ⟨a, ea⟩ : ∃ x, opT X s t 1 = x := ⟨_, rfl⟩
    obtain ⟨b, eb⟩ : ∃ x, opT X s t 2 = x := ⟨_, rfl⟩
    obtain ⟨c, ec⟩ : ∃ x, opT X s t 3 = x := ⟨_, rfl⟩
    rw [eop, ea] at hord
    rw [eop, ea, eb, ec] at hnext
    rw [eop, ea]
    clear hop hoa eop ea eb ec hsin hlt hk hq
    obtain ⟨n, hn⟩ : ∃ n, P.n = n := ⟨_, rfl⟩
    rw [hn] at hc5 ht hN
    obtain ⟨r, hr0⟩ : ∃ r, ableO s.own k op a = r := ⟨_, rfl⟩
    have HR : Hid (ableO s.own k op a = r) := hr0
    rw [hr0]
    clear hr0
    go_enter Tryd.func94, Tryd.ntmps94
    go_wp2_with fail
    refine hnext.mono ?_
    rintro e w1 ⟨rfl, hb1⟩
    clear hnext
    have k5 := cell_up ((hb1.cell (lt_of_cell hc5)).trans hc5)
    have k7 := cell_up ((hb1.cell (lt_of_cell hc7)).trans hc7)
    have kq := cell_up ((hb1.cell (lt_of_cell hwait)).trans hwait)
    have fin : ∀ o, Below w.heap.size w (w1.alloc o) := fun o => hb1.alloc hb1.size o
    by_cases h1 : op = 9 ∨ op = 11 ∨ op = 18
    · clear hs ho hc hp
      have hr : ableO s.own k op a = decide (k < 3) := by unfold ableO; rw [if_pos h1]
      have hr' := HR.out.symm.trans hr
      clear hr HR
      rcases h1 with rfl | rfl | rfl
      all_goals
        go_wp2
        go_ret
        exact ⟨ret_bool (by rw [hr']; exact decide_eq_decide.2 (by omega)), fin _⟩
    · by_cases h2 : op = 12 ∨ op = 13
      · clear hs ho hc hp
        have hr : ableO s.own k op a = decide (k = 0) := by unfold ableO; rw [if_neg h1, if_pos h2]
        have hr' := HR.out.symm.trans hr
        clear hr HR
        rcases h2 with rfl | rfl
        all_goals
          go_wp2
          go_ret
          exact ⟨ret_bool (by rw [hr']; cases k <;> rfl), fin _⟩
      · by_cases h3 : op = 17
        · have hr : ableO s.own k op a = (decide (k = 0) && decide (s.own.getD a.toNat 0 = -1)) := by unfold ableO; rw [if_neg h1, if_neg h2, if_pos h3]
          have hr' := HR.out.symm.trans hr
          clear hr HR
          subst h3
          obtain ⟨j, rfl, hj⟩ := toN (ok_lock (Or.inl rfl) hord)
          have hlo := ho.own
          have hl4 := hc.lk4
          obtain ⟨ob, oc, hov, hob, _⟩ := hs.ownB (by omega)
          have hown := hs.owner hob (r := j) (by omega)
          rw [hov, hlo] at k7
          have kown := cell_up ((hb1.cell (lt_of_cell hown)).trans hown)
          rw [show ((j : Int)).toNat = j by omega] at hr'
          obtain ⟨x, hx⟩ : ∃ x, s.own.getD j 0 = x := ⟨_, rfl⟩
          rw [hx] at kown hr'
          have HR' : Hid (r = _) := hr'
          clear hr'
          clear hx hord hs ho hc hp
          by_cases hk0 : k = 0
          · subst hk0
            go_wp2
            go_quiet (fail)
            go_wp2
            go_ret
            exact ⟨ret_bool (by rw [HR'.out, Bool.eq_iff_iff]; simp), below_drewN (fin _)⟩
          · have hd : decide (k = 0) = false := by simpa using hk0
            go_wp2
            go_quiet (fail)
            go_wp2
            go_ret
            exact ⟨ret_bool (by rw [HR'.out, Bool.eq_iff_iff]; simp; exact fun e => absurd e hk0), below_drewN (fin _)⟩
        · have hr : ableO s.own k op a = true := by unfold ableO; rw [if_neg h1, if_neg h2, if_neg h3]
          have hr' := HR.out.symm.trans hr
          clear hr HR
          subst hr'
          have n9 : ¬ op = 9 := fun e => h1 (Or.inl e)
          have n11 : ¬ op = 11 := fun e => h1 (Or.inr (Or.inl e))
          have n18 : ¬ op = 18 := fun e => h1 (Or.inr (Or.inr e))
          have n12 : ¬ op = 12 := fun e => h2 (Or.inl e)
          have n13 : ¬ op = 13 := fun e => h2 (Or.inr e)
          clear hord hs ho hc hp
          go_wp2
          go_ret
          exact ⟨rfl, fin _⟩
  · rw [ableT_ended hge]
    exact able_ended sb P.ca P.n P.cc P.mode tb tc _ _ _ _ _ s A L C X hl t ht hN hLt (by have := ho.pc t ht; omega) hge w (hs.sin hth) hp
end

section
open Go.RowKit

theorem back_none {l : List Wt} {f : Wt → Bool} (h : ∀ p, p < l.length → f (l.getD p default) = false) : l.reverse.find? f = none := by
  rw [List.find?_eq_none]
  intro x hx
  rw [List.mem_reverse] at hx
  obtain ⟨p, hp, rfl⟩ := List.mem_iff_getElem.mp hx
  have e : l.getD p default = l[p] := by simp [List.getD, List.getElem?_eq_getElem hp]
  rw [← e, h p hp]
  simp
theorem back_some {l : List Wt} {f : Wt → Bool} {i : Nat} (hi : i < l.length) (hm : f (l.getD i default) = true) (h : ∀ p, i < p → p < l.length → f (l.getD p default) = false) : l.reverse.find? f = some (l.getD i default) := by
  have e : l = l.take i ++ (l.getD i default :: l.drop (i + 1)) := by
    have e0 : l.getD i default = l[i] := by simp [List.getD, List.getElem?_eq_getElem hi]
    rw [e0, ← List.drop_eq_getElem_cons hi, List.take_append_drop]
  have hd : (l.drop (i + 1)).reverse.find? f = none := by
    refine back_none fun p hp => ?_
    rw [List.length_drop] at hp
    have e1 : (l.drop (i + 1)).getD p default = l.getD (i + 1 + p) default := by simp [List.getD, List.getElem?_drop]
    rw [e1]
    exact h _ (by omega) (by omega)
  conv => lhs; rw [e]
  rw [List.reverse_append, List.reverse_cons, List.append_assoc, List.find?_append, hd]
  simp only [List.singleton_append, List.find?_cons, hm, Option.none_or]

set_option maxRecDepth 100000 in
set_option maxHeartbeats 1600000 in
theorem finds_any (sb tb n tc : Nat) (ga : Option Addr) (qa : Option Addr) (qc wc : Nat) (s : Sx) (t : Nat) (wd : Nat) (ht : t < n) (_hn : n ≤ 4) (hw : wd < s.words.length) (_hwl : s.words.length ≤ 64) (l : List Wt) (HL : Hid ((thOf s t).wait = l)) (_hl : l.length ≤ 100) (w : World) (h5 : w.cell? ⟨sb, 5, none⟩ = some (.slice (some ⟨tb, 0, none⟩) n tc)) (h6 : w.cell? ⟨sb, 6, none⟩ = some (.slice ga s.words.length wc)) (hg : ∃ b o, ga = some ⟨b, o, none⟩ ∧ w.cell? ⟨b, o + wd, none⟩ = some (.int .i64 (s.words.getD wd 0))) (hqv : w.cell? ⟨tb, t * 3 + 2, none⟩ = some (.slice qa l.length qc)) (hq : WIn w qa l) :
    Calls Tryd.prog 98 #[.pointer (some ⟨sb, 0, none⟩), .int .i64 t, .int .i64 wd] w fun e w' => e = .returned (.int .i64 (findsW s t wd)) ∧ w' = w := by
  obtain ⟨gb, go, rfl, hgc⟩ := hg
  obtain ⟨r, hr⟩ : ∃ r, findsW s t wd = r := ⟨_, rfl⟩
  have HR : Hid (findsW s t wd = r) := hr
  rw [hr]
  clear hr
  obtain ⟨v0, e0⟩ : ∃ v, s.words.getD wd 0 = v := ⟨_, rfl⟩
  have HV0 : Hid (s.words.getD wd 0 = v0) := e0
  rw [e0] at hgc
  clear e0
  go_enter Tryd.func98, Tryd.ntmps98
  go_wp2
  go_loopw [8] (fun i wr => ∃ j : Nat, j ≤ l.length ∧ i = .int .i64 ((j : Int) - 1) ∧ Hid (∀ p, j ≤ p → p < l.length → (!(l.getD p default).lk && decide ((l.getD p default).wh = (wd : Int))) = false) ∧ w = wr) (fun i _ => (intOf i + 1).toNat)
  case atStart => exact ⟨l.length, Nat.le_refl _, by go_num, fun p h1 h2 => absurd h1 (by omega), rfl⟩
  case round =>
    obtain ⟨j, hj, rfl, HJ, rfl⟩ := hrel
    have hbr := Below.refl w.heap.size w
    have h6r := (hbr.cell (lt_of_cell h6)).trans h6
    have hgr := (hbr.cell (lt_of_cell hgc)).trans hgc
    have hqr := hq.below hbr
    match j, hj, HJ with
    | 0, _, HJ =>
      obtain rfl : r = v0 := by
        have h := HR.out
        unfold findsW at h
        rw [HL.out, back_none fun p hp => HJ.out p (Nat.zero_le _) hp] at h
        rw [← h, ← HV0.out]
        simp
      go_wp2
      go_ret
      exact ⟨rfl, rfl⟩
    | m + 1, hj, HJ =>
      rw [show ((m + 1 : Nat) : Int) - 1 = (m : Int) by omega]
      obtain ⟨b, o, rfl, j0, j1, j2⟩ := hqr m (by omega)
      obtain ⟨lj, f1⟩ : ∃ v, (l.getD m default).lk = v := ⟨_, rfl⟩
      obtain ⟨wj, f2⟩ : ∃ v, (l.getD m default).wh = v := ⟨_, rfl⟩
      obtain ⟨vj, f3⟩ : ∃ v, (l.getD m default).what = v := ⟨_, rfl⟩
      have HF1 : Hid ((l.getD m default).lk = lj) := f1
      have HF2 : Hid ((l.getD m default).wh = wj) := f2
      have HF3 : Hid ((l.getD m default).what = vj) := f3
      rw [f1] at j0
      rw [f2] at j1
      rw [f3] at j2
      clear f1 f2 f3
      by_cases hit : lj = false ∧ wj = (wd : Int)
      · obtain ⟨rfl, rfl⟩ := hit
        obtain rfl : r = vj := by
          have h := HR.out
          unfold findsW at h
          rw [HL.out, back_some (i := m) (by omega) (by rw [HF1.out, HF2.out]; simp) (fun p h1 h2 => HJ.out p (by omega) h2)] at h
          rw [← h, ← HF3.out]
        go_wp2
        go_ret
        exact ⟨rfl, rfl⟩
      · have hmiss : (!(l.getD m default).lk && decide ((l.getD m default).wh = (wd : Int))) = false := by
          rw [HF1.out, HF2.out]
          cases lj <;> simp_all
        have HMI := Hid.out (p := Hid _) hmiss
        clear hmiss
        cases lj with
        | true =>
          go_wp2
          go_roundw
          case rel =>
            refine ⟨m, by omega, by go_num, fun p h1 h2 => ?_, by first | rfl | trivial⟩
            rcases (by omega : m + 1 ≤ p ∨ p = m) with h | rfl
            · exact HJ.out p h h2
            · exact HMI.out
          case measure => simp [intOf]
        | false =>
          have hne : ¬ wj = (wd : Int) := fun h => hit ⟨rfl, h⟩
          clear hit
          go_wp2
          go_roundw
          case rel =>
            refine ⟨m, by omega, by go_num, fun p h1 h2 => ?_, by first | rfl | trivial⟩
            rcases (by omega : m + 1 ≤ p ∨ p = m) with h | rfl
            · exact HJ.out p h h2
            · exact HMI.out
          case measure => simp [intOf]
end

section
open Go.RowKit

/-! An outcome put into its place, one behind the other. -/
theorem ins_end {o : Oc} : ∀ {l : List Oc}, (∀ x, x ∈ l → aheadO x o = true) → insO o l = l ++ [o]
  | [], _ => rfl
  | a :: l, h => by
    have h1 := h a (by simp)
    unfold insO
    rw [ahead_asym h1, h1, ins_end (fun x hx => h x (by simp [hx]))]
    rfl
theorem ins_mid {o x : Oc} {r : List Oc} (hx : aheadO o x = true) : ∀ {l : List Oc}, (∀ y, y ∈ l → aheadO y o = true) → insO o (l ++ x :: r) = l ++ o :: x :: r
  | [], _ => by
    show insO o (x :: r) = _
    unfold insO
    rw [hx]
    rfl
  | a :: l, h => by
    have h1 := h a (by simp)
    show insO o (a :: (l ++ x :: r)) = _
    unfold insO
    rw [ahead_asym h1, h1, ins_mid hx (fun y hy => h y (by simp [hy]))]
    rfl
theorem ins_in {o : Oc} {r : List Oc} : ∀ {l : List Oc}, (∀ y, y ∈ l → aheadO y o = true) → insO o (l ++ o :: r) = l ++ o :: r
  | [], _ => by
    show insO o (o :: r) = _
    unfold insO
    rw [ahead_irr]
    rfl
  | a :: l, h => by
    have h1 := h a (by simp)
    show insO o (a :: (l ++ o :: r)) = _
    unfold insO
    rw [ahead_asym h1, h1, ins_in (fun y hy => h y (by simp [hy]))]
    rfl
/-- What has been written so far, of the first k. -/
def putK (o : Oc) (l : List Oc) (done : Bool) (k : Nat) : List Oc := if done then insO o (l.take k) else l.take k
structure PutI (o : Oc) (l : List Oc) (done : Bool) (k : Nat) : Prop where
  no : done = false → ∀ x, x ∈ l.take k → aheadO x o = true
  yes : done = true → ∃ l1 x l2, l.take k = l1 ++ x :: l2 ∧ aheadO o x = true ∧ ∀ y, y ∈ l1 → aheadO y o = true
theorem PutI.start (o : Oc) (l : List Oc) : PutI o l false 0 := ⟨fun _ x hx => (by cases hx), fun h => (by cases h)⟩
section
variable {o : Oc} {l : List Oc} {k : Nat}
theorem take_next (hk : k < l.length) : l.take (k + 1) = l.take k ++ [l.getD k default] := by
  rw [List.take_add_one, List.getElem?_eq_getElem hk, List.getD_eq_getElem?_getD, List.getElem?_eq_getElem hk]
  rfl
theorem PutI.later {done : Bool} (h : PutI o l done k) (hk : k < l.length) (hd : done = true) : PutI o l true (k + 1) ∧ putK o l true (k + 1) = putK o l done k ++ [l.getD k default] := by
  obtain ⟨l1, x, l2, e, hx, hy⟩ := h.yes hd
  have e2 : l.take (k + 1) = l1 ++ x :: (l2 ++ [l.getD k default]) := by rw [take_next hk, e]; simp
  refine ⟨⟨fun h => (by cases h), fun _ => ⟨l1, x, _, e2, hx, hy⟩⟩, ?_⟩
  unfold putK
  rw [if_pos rfl, if_pos hd, e2, e, ins_mid hx hy, ins_mid hx hy]
  simp
theorem PutI.now (h : PutI o l false k) (hk : k < l.length) (ho : aheadO o (l.getD k default) = true) : PutI o l true (k + 1) ∧ putK o l true (k + 1) = putK o l false k ++ [o] ++ [l.getD k default] := by
  refine ⟨⟨fun h => (by cases h), fun _ => ⟨l.take k, _, [], take_next hk, ho, h.no rfl⟩⟩, ?_⟩
  unfold putK
  rw [if_pos rfl, if_neg (by simp), take_next hk, ins_mid ho (h.no rfl)]
  simp
theorem PutI.skip (h : PutI o l false k) (hk : k < l.length) (ho : aheadO (l.getD k default) o = true) : PutI o l false (k + 1) ∧ putK o l false (k + 1) = putK o l false k ++ [l.getD k default] := by
  refine ⟨⟨fun _ x hx => ?_, fun h => by cases h⟩, ?_⟩
  · rw [take_next hk] at hx
    rcases List.mem_append.mp hx with hx | hx
    · exact h.no rfl x hx
    · rw [List.mem_singleton.mp hx]; exact ho
  · unfold putK
    rw [if_neg (by simp), if_neg (by simp), take_next hk]
/-- One that is there already. -/
theorem PutI.there {done : Bool} (h : PutI o l done k) (hs : SortedO l) (hk : k < l.length) (h1 : aheadO o (l.getD k default) = false) (h2 : aheadO (l.getD k default) o = false) : insO o l = l := by
  have e := ahead_tri h1 h2
  have hd : l = l.take k ++ l.getD k default :: l.drop (k + 1) := by
    have := List.take_append_drop (k + 1) l
    rw [take_next hk, List.append_assoc] at this
    exact this.symm
  cases done with
  | false =>
    rw [hd, ← e]
    exact ins_in (h.no rfl)
  | true =>
    obtain ⟨l1, x, l2, e3, hx, hy⟩ := h.yes rfl
    have hp : SortedO l := hs
    rw [hd, e3, SortedO, List.pairwise_append] at hp
    have := hp.2.2 x (by simp) (l.getD k default) (by simp)
    rw [← e, ahead_asym hx] at this
    cases this
theorem PutI.last {done : Bool} (h : PutI o l done l.length) : insO o l = if done then putK o l true l.length else putK o l false l.length ++ [o] := by
  cases done with
  | false =>
    have := h.no rfl
    rw [List.take_length] at this
    rw [if_neg (by simp), ins_end this]
    unfold putK
    rw [if_neg (by simp), List.take_length]
  | true =>
    rw [if_pos rfl]
    unfold putK
    rw [if_pos rfl, List.take_length]
end
end

section
open Go.RowKit

theorem two_at (W : World) (O P : Obj) : Below W.heap.size W ((W.alloc O).alloc P) ∧ ((W.alloc O).alloc P).heap[W.heap.size]? = some O ∧ ((W.alloc O).alloc P).heap[W.heap.size + 1]? = some P := by
  refine ⟨below_two _ _ _, box_later (heap_alloc_new _ _) _, ?_⟩
  have := heap_alloc_new (W.alloc O) P
  rwa [World.size_alloc] at this
theorem blk {W V : World} {g : Nat} {o : Obj} (hb : Below W.heap.size W V) (h : W.heap[g]? = some o) : V.heap[g]? = some o := (hb.block _ (Array.getElem?_eq_some_iff.1 h).1).trans h
end

section
open Go.RowKit Go.Shelf

theorem O3.low {w : World} {B B' : Nat} {u : Value} {ysss : List (List (List Int))} (h : O3 w B u ysss) (hB : B' ≤ B) : O3 w B' u ysss := by
  obtain ⟨xs, h1, h2⟩ := h
  exact ⟨xs, own_low h1 hB, fun k hk => (h2 k hk).low hB⟩
end

section
open Go.RowKit

/-- The document's Check, of every program that lies in memory. -/
theorem rcheck_any (ca : Option Addr) (n cc : Nat) (wa : Option Addr) (m wc : Nat) (lk rg : Int) (A : Nat → Option Addr) (L C : Nat → Nat) (X : Nat → Nat → Nat → Int) (x y z : Int) (HR : Hid (chk n L X m lk rg = (x, y, z))) (w : World) (hp : PIn w ca n A L C X) :
    Calls Tryd.prog 10 #[prgV ca n cc wa m wc lk rg] w fun e w' => e = .returned (ints3 x y z) ∧ Below w.heap.size w w' := by
  have h := HR.out
  unfold chk sizesE at h
  by_cases h1 : (n : Int) < 1 ∨ 4 < (n : Int) ∨ 64 < (m : Int)
  · simp only [h1, if_true] at h
    simp at h
    obtain ⟨rfl, rfl, rfl⟩ := h
    exact rcheck_size ca n cc wa m wc lk rg h1 w
  · by_cases h2 : lk < 0 ∨ 4 < lk ∨ rg < 1 ∨ 200 < rg
    · simp only [h1, h2, if_true, if_false] at h
      simp at h
      obtain ⟨rfl, rfl, rfl⟩ := h
      exact rcheck_range ca n cc wa m wc lk rg (by omega) (by omega) h2 w
    · simp only [h1, h2, if_false, ne_eq, not_true_eq_false] at h
      exact rcheck_go ca n cc wa m wc lk rg A L C X x y z (by omega) (by omega) (by omega) (by omega) h w hp
end

end Go.Proofs.YtocfocjnnjdcgaaDoor
