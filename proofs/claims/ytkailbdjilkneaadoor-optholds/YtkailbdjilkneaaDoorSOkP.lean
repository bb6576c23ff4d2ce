/-
  What holds of a state holds behind every move that can be picked.
  Whether a thread is able to do its next order.
  One that waited is done; whether a number is a word's; a store.
-/
import Derived.Test.YtkailbdjilkneaaDoorCOkP
import Derived.Test.YtkailbdjilkneaaDoorAppB
import Derived.Deep.QuietTactic
import Derived.BigQuiet
import Derived.Test.YtkailbdjilkneaaDoorOrder
import Derived.BigRegion
namespace Go.Proofs.YtkailbdjilkneaaDoor
section
open Go.RowKit

section
variable {n : Nat} {L : Nat → Nat} {m lk rg : Nat} {mode : Int} {s : Sx}
theorem SOk.th (h : SOk n L m lk rg mode s) {t : Nat} (ht : t < n) {x : Th} (hpc : x.pc ≤ L t) (hr : x.regs.length = rg) (hw : x.wait.length ≤ 3) (hok : ∀ y, y ∈ x.wait → (0 ≤ y.wh ∧ y.wh < (if y.lk then lk else m : Nat)) ∧ (y.lk = true → y.what = 0)) (hb : mode = 0 → x.wait = []) : SOk n L m lk rg mode (setTh s t x) := by
  have htl : t < s.ths.length := by rw [h.ths]; exact ht
  have e := thOf_set htl x
  refine ⟨by rw [ths_set]; exact h.ths, fun u hu => ?_, fun u hu => ?_, h.words, h.own, fun u hu => ?_, fun u hu => ?_, fun h0 u hu => ?_⟩
  all_goals rw [e u]
  all_goals split
  all_goals first | (rename_i hu'; subst hu'; assumption) | skip
  · exact h.pc u hu
  · exact h.regs u hu
  · exact h.wlen u hu
  · exact h.wok u hu
  · rename_i hu'; exact hb h0
  · exact h.bare h0 u hu
theorem SOk.setWord (h : SOk n L m lk rg mode s) (i : Nat) (x : Int) : SOk n L m lk rg mode { s with words := s.words.set i x } := ⟨h.ths, h.pc, h.regs, by simpa using h.words, h.own, h.wlen, h.wok, h.bare⟩
theorem SOk.setOwn (h : SOk n L m lk rg mode s) (i : Nat) (x : Int) : SOk n L m lk rg mode { s with own := s.own.set i x } := ⟨h.ths, h.pc, h.regs, h.words, by simpa using h.own, h.wlen, h.wok, h.bare⟩
theorem SOk.print (h : SOk n L m lk rg mode s) (l : List Int) : SOk n L m lk rg mode { s with prints := l } := ⟨h.ths, h.pc, h.regs, h.words, h.own, h.wlen, h.wok, h.bare⟩
theorem SOk.fall (h : SOk n L m lk rg mode s) : SOk n L m lk rg mode (fallX s) := ⟨h.ths, h.pc, h.regs, h.words, h.own, h.wlen, h.wok, h.bare⟩
theorem SOk.setR (h : SOk n L m lk rg mode s) {t : Nat} (ht : t < n) (r x : Int) : SOk n L m lk rg mode (setR s t r x) := h.th ht (h.pc t ht) (by simpa using h.regs t ht) (h.wlen t ht) (h.wok t ht) (fun h0 => h.bare h0 t ht)
theorem SOk.setPc (h : SOk n L m lk rg mode s) {t : Nat} (ht : t < n) {k : Nat} (hk : k ≤ L t) : SOk n L m lk rg mode (setTh s t { thOf s t with pc := k }) := h.th ht hk (h.regs t ht) (h.wlen t ht) (h.wok t ht) (fun h0 => h.bare h0 t ht)
theorem SOk.done (h : SOk n L m lk rg mode s) (x : Wt) : SOk n L m lk rg mode (doneW s x) := by
  unfold doneW
  split
  · exact h.setOwn _ _
  · exact h.setWord _ _
theorem SOk.store (h : SOk n L m lk rg mode s) {t : Nat} (ht : t < n) (_hm : 0 ≤ mode) (hw : (thOf s t).wait.length < 3) (x : Wt) (hx : (0 ≤ x.wh ∧ x.wh < (if x.lk then lk else m : Nat)) ∧ (x.lk = true → x.what = 0)) : SOk n L m lk rg mode (storeW mode s t x) := by
  unfold storeW
  split
  · refine h.th ht (h.pc t ht) (h.regs t ht) (by simp; omega) (fun y hy => ?_) (fun h0 => by omega)
    simp only [List.mem_append, List.mem_singleton] at hy
    rcases hy with hy | rfl
    · exact h.wok t ht y hy
    · exact hx
  · exact h.done x
/-- An order. -/
theorem SOk.order (h : SOk n L m lk rg mode s) {t : Nat} (ht : t < n) (hm : 0 ≤ mode) {op a b c : Int} (hw : op = 9 ∨ op = 11 ∨ op = 18 → (thOf s t).wait.length < 3) (hc : ordE rg m lk (L t) op a b c = 0) : SOk n L m lk rg mode (orderX mode s t op a b c) := by
  have hop := ok_op hc
  unfold orderX
  by_cases h1 : op = 1
  · rw [if_pos h1]; exact h.setR ht _ _
  rw [if_neg h1]
  by_cases h1 : op = 2
  · rw [if_pos h1]; exact h.setR ht _ _
  rw [if_neg h1]
  by_cases h1 : op = 3
  · rw [if_pos h1]; exact h.setR ht _ _
  rw [if_neg h1]
  by_cases h1 : op = 4
  · rw [if_pos h1]; exact h.setR ht _ _
  rw [if_neg h1]
  by_cases h1 : op = 5
  · rw [if_pos h1]; exact h.setR ht _ _
  rw [if_neg h1]
  by_cases h1 : op = 6
  · rw [if_pos h1]; exact h.setR ht _ _
  rw [if_neg h1]
  by_cases h1 : op = 7
  · rw [if_pos h1]; exact h.setR ht _ _
  rw [if_neg h1]
  by_cases h1 : op = 8
  · rw [if_pos h1]; exact h.setR ht _ _
  rw [if_neg h1]
  by_cases h1 : op = 9
  · rw [if_pos h1]
    subst h1
    have := (ok_store hc).1
    exact h.store ht hm (hw (Or.inl rfl)) _ ⟨by show 0 ≤ a ∧ a < ((m : Nat) : Int); omega, fun h => by cases h⟩
  rw [if_neg h1]
  by_cases h1 : op = 10
  · rw [if_pos h1]
    split
    · exact h.fall
    · exact h.setR ht _ _
  rw [if_neg h1]
  by_cases h1 : op = 11
  · rw [if_pos h1]
    split
    · exact h.fall
    · rename_i hn
      rw [h.words] at hn
      exact h.store ht hm (hw (Or.inr (Or.inl h1))) _ ⟨by show 0 ≤ getR s t a ∧ getR s t a < ((m : Nat) : Int); omega, fun h => by cases h⟩
  rw [if_neg h1]
  by_cases h1 : op = 13
  · rw [if_pos h1]
    split
    · exact (h.setWord _ _).setR ht _ _
    · exact h.setR ht _ _
  rw [if_neg h1]
  by_cases h1 : op = 14
  · rw [if_pos h1]
    subst h1
    have := ok_jump hc
    exact h.setPc ht (by omega)
  rw [if_neg h1]
  by_cases h1 : op = 15
  · rw [if_pos h1]
    subst h1
    have := (ok_zero hc).2
    split
    · exact h.setPc ht (by omega)
    · exact h
  rw [if_neg h1]
  by_cases h1 : op = 16
  · rw [if_pos h1]; exact h.print _
  rw [if_neg h1]
  by_cases h1 : op = 17
  · rw [if_pos h1]; exact h.setOwn _ _
  rw [if_neg h1]
  by_cases h1 : op = 18
  · rw [if_pos h1]
    split
    · exact h.fall
    · have := ok_lock (Or.inr h1) hc
      exact h.store ht hm (hw (Or.inr (Or.inr h1))) _ ⟨by show 0 ≤ a ∧ a < ((lk : Nat) : Int); omega, fun _ => rfl⟩
  rw [if_neg h1]
  exact h
theorem prints_store (s : Sx) (t : Nat) (x : Wt) : (storeW mode s t x).prints = s.prints := by
  unfold storeW doneW setTh
  split
  · rfl
  · split <;> rfl
theorem prints_order (s : Sx) (t : Nat) (op a b c : Int) : (orderX mode s t op a b c).prints.length ≤ s.prints.length + 2 := by
  have key : ∀ (p : Prop) [Decidable p] (x y : Sx), x.prints.length ≤ s.prints.length + 2 → y.prints.length ≤ s.prints.length + 2 → (if p then x else y).prints.length ≤ s.prints.length + 2 := fun p _ x y hx hy => by
    split
    · exact hx
    · exact hy
  unfold orderX
  repeat' (refine key _ _ _ ?_ ?_)
  all_goals first | (show s.prints.length ≤ _; omega) | (rw [prints_store]; omega) | simp
end
theorem able_lt {L : Nat → Nat} {X : Nat → Nat → Nat → Int} {s : Sx} {t : Nat} (h : ableT L X s t = true) : (thOf s t).pc < L t := by
  rcases Nat.lt_or_ge (thOf s t).pc (L t) with h1 | h1
  · exact h1
  · unfold ableT endedT at h
    rw [decide_eq_true h1] at h
    simp at h
theorem able_room {L : Nat → Nat} {X : Nat → Nat → Nat → Int} {s : Sx} {t : Nat} (h : ableT L X s t = true) (ho : opT X s t 0 = 9 ∨ opT X s t 0 = 11 ∨ opT X s t 0 = 18) : (thOf s t).wait.length < 3 := by
  have h1 := able_lt h
  unfold ableT endedT at h
  rw [decide_eq_false (by omega)] at h
  simp only [Bool.false_eq_true, if_false] at h
  rw [if_pos ho] at h
  simpa using h
end

section
open Go.RowKit

set_option maxRecDepth 100000 in
set_option maxHeartbeats 1600000 in
theorem able_ended (sb : Nat) (ca : Option Addr) (n cc : Nat) (mode : Int) (tb tc : Nat) (rv qv : Nat → Value) (wv ov pv : Value) (s : Sx) (A : Nat → Option Addr) (L C : Nat → Nat) (X : Nat → Nat → Nat → Int) (hn : s.ths.length = n) (t : Nat) (ht : t < n) (hN : n ≤ 4) (hL : L t ≤ 1000) (hpc : (thOf s t).pc ≤ 1000) (hend : L t ≤ (thOf s t).pc) (w : World) (hs : SIn w sb ca n cc mode tb tc rv qv wv ov pv s) (hp : PIn w ca n A L C X) :
    Calls Tryd.prog 114 #[.pointer (some ⟨sb, 0, none⟩), .int .i64 t] w fun e w' => e = .returned (.bool false) ∧ Below w.heap.size w w' := by
  go_enter Tryd.func114, Tryd.ntmps114
  go_wp2_with fail
  refine (next_ended sb ca n cc mode tb tc rv qv wv ov pv s A L C X hn t ht hN hL hpc hend w hs hp).mono ?_
  rintro e w1 ⟨rfl, hb1⟩
  go_wp2_with fail
  go_ret
  exact ⟨rfl, hb1.alloc hb1.size _⟩

/-- What an order's number says of whether a thread with k that wait is able to do it. -/
def ableO (own : List Int) (k : Nat) (op a : Int) : Bool :=
  if op = 9 ∨ op = 11 ∨ op = 18 then decide (k < 3)
  else if op = 12 ∨ op = 13 then decide (k = 0)
  else if op = 17 then decide (k = 0) && decide (own.getD a.toNat 0 = -1)
  else true
theorem ableT_more {L : Nat → Nat} {X : Nat → Nat → Nat → Int} {s : Sx} {t : Nat} (h : (thOf s t).pc < L t) : ableT L X s t = ableO s.own (thOf s t).wait.length (opT X s t 0) (opT X s t 1) := by
  unfold ableT endedT
  rw [decide_eq_false (by omega)]
  rfl
theorem ableT_ended {L : Nat → Nat} {X : Nat → Nat → Nat → Int} {s : Sx} {t : Nat} (h : L t ≤ (thOf s t).pc) : ableT L X s t = false := by
  unfold ableT endedT
  rw [decide_eq_true h]
  rfl

set_option maxRecDepth 100000 in
set_option maxHeartbeats 1600000 in
theorem able_any (w : World) (B sb : Nat) (P : Pg) (v : Rl → Value) (s : Sx) (A : Nat → Option Addr) (L C : Nat → Nat) (X : Nat → Nat → Nat → Int) (m lk rg : Nat) (t : Nat) (ht : t < P.n) (hs : DSt w B P sb v s) (ho : SOk P.n L m lk rg P.mode s) (hc : COk P.n L X m lk rg) (hp : PIn w P.ca P.n A L C X) :
    Calls Tryd.prog 114 #[.pointer (some ⟨sb, 0, none⟩), .int .i64 t] w fun e w' => e = .returned (.bool (ableT L X s t)) ∧ Below w.heap.size w w' := by
  have hl := ho.ths
  have hN := hc.n4
  have hLt := hc.L4 t ht
  obtain ⟨tb, tc, hth, htb, _⟩ := hs.thrB (by omega)
  rcases Nat.lt_or_ge (thOf s t).pc (L t) with hlt | hge
  · rw [ableT_more hlt]
    have hord := hc.ord t (thOf s t).pc ht hlt
    have hsin := hs.sin hth
    have hnext := next_more sb P.ca P.n P.cc P.mode tb tc _ _ _ _ _ s A L C X hl t ht hN hLt hlt w hsin hp
    obtain ⟨qa, qc, hq⟩ := hs.waitV t
    have hwait := hs.wait htb (t := t) (by omega)
    rw [hq] at hwait
    have hc5 := hs.c5
    rw [hth, hl] at hc5
    have hc7 := hs.c7
    have hw3 := ho.wlen t ht
    obtain ⟨k, hk⟩ : ∃ k, (thOf s t).wait.length = k := ⟨_, rfl⟩
    rw [hk] at hwait hw3 ⊢
    have hop : opT X s t 0 = X t (thOf s t).pc 0 := rfl
    have hoa : opT X s t 1 = X t (thOf s t).pc 1 := rfl
    rw [← hop, ← hoa] at hord
    obtain ⟨op, eop⟩ : ∃ x, opT X s t 0 = x := ⟨_, rfl⟩
    obtain ⟨a, ea⟩ : ∃ x, opT X s t 1 = x := ⟨_, rfl⟩
    obtain ⟨b, eb⟩ : ∃ x, opT X s t 2 = x := ⟨_, rfl⟩
    obtain ⟨c, ec⟩ : ∃ x, opT X s t 3 = x := ⟨_, rfl⟩
    rw [eop, ea] at hord
    rw [eop, ea, eb, ec] at hnext
    rw [eop, ea]
    clear hop hoa eop ea eb ec hsin hlt hk hq
    obtain ⟨n, hn⟩ : ∃ n, P.n = n := ⟨_, rfl⟩
    rw [hn] at hc5 ht hN
    obtain ⟨r, hr0⟩ : ∃ r, ableO s.own k op a = r := ⟨_, rfl⟩
    have HR : Hid (ableO s.own k op a = r) := hr0
    rw [hr0]
    clear hr0
    go_enter Tryd.func114, Tryd.ntmps114
    go_wp2_with fail
    refine hnext.mono ?_
    rintro e w1 ⟨rfl, hb1⟩
    clear hnext
    have k5 := cell_up ((hb1.cell (lt_of_cell hc5)).trans hc5)
    have k7 := cell_up ((hb1.cell (lt_of_cell hc7)).trans hc7)
    have kq := cell_up ((hb1.cell (lt_of_cell hwait)).trans hwait)
    have fin : ∀ o, Below w.heap.size w (w1.alloc o) := fun o => hb1.alloc hb1.size o
    by_cases h1 : op = 9 ∨ op = 11 ∨ op = 18
    · clear hs ho hc hp
      have hr : ableO s.own k op a = decide (k < 3) := by unfold ableO; rw [if_pos h1]
      have hr' := HR.out.symm.trans hr
      clear hr HR
      rcases h1 with rfl | rfl | rfl
      all_goals
        go_wp2
        go_ret
        exact ⟨ret_bool (by rw [hr']; exact decide_eq_decide.2 (by omega)), fin _⟩
    · by_cases h2 : op = 12 ∨ op = 13
      · clear hs ho hc hp
        have hr : ableO s.own k op a = decide (k = 0) := by unfold ableO; rw [if_neg h1, if_pos h2]
        have hr' := HR.out.symm.trans hr
        clear hr HR
        rcases h2 with rfl | rfl
        all_goals
          go_wp2
          go_ret
          exact ⟨ret_bool (by rw [hr']; cases k <;> rfl), fin _⟩
      · by_cases h3 : op = 17
        · have hr : ableO s.own k op a = (decide (k = 0) && decide (s.own.getD a.toNat 0 = -1)) := by unfold ableO; rw [if_neg h1, if_neg h2, if_pos h3]
          have hr' := HR.out.symm.trans hr
          clear hr HR
          subst h3
          obtain ⟨j, rfl, hj⟩ := toN (ok_lock (Or.inl rfl) hord)
          have hlo := ho.own
          have hl4 := hc.lk4
          obtain ⟨ob, oc, hov, hob, _⟩ := hs.ownB (by omega)
          have hown := hs.owner hob (r := j) (by omega)
          rw [hov, hlo] at k7
          have kown := cell_up ((hb1.cell (lt_of_cell hown)).trans hown)
          rw [show ((j : Int)).toNat = j by omega] at hr'
          obtain ⟨x, hx⟩ : ∃ x, s.own.getD j 0 = x := ⟨_, rfl⟩
          rw [hx] at kown hr'
          have HR' : Hid (r = _) := hr'
          clear hr'
          clear hx hord hs ho hc hp
          by_cases hk0 : k = 0
          · subst hk0
            go_wp2
            go_quiet (fail)
            go_wp2
            go_ret
            exact ⟨ret_bool (by rw [HR'.out, Bool.eq_iff_iff]; simp), below_drewN (fin _)⟩
          · have hd : decide (k = 0) = false := by simpa using hk0
            go_wp2
            go_quiet (fail)
            go_wp2
            go_ret
            exact ⟨ret_bool (by rw [HR'.out, Bool.eq_iff_iff]; simp; exact fun e => absurd e hk0), below_drewN (fin _)⟩
        · have hr : ableO s.own k op a = true := by unfold ableO; rw [if_neg h1, if_neg h2, if_neg h3]
          have hr' := HR.out.symm.trans hr
          clear hr HR
          subst hr'
          have n9 : ¬ op = 9 := fun e => h1 (Or.inl e)
          have n11 : ¬ op = 11 := fun e => h1 (Or.inr (Or.inl e))
          have n18 : ¬ op = 18 := fun e => h1 (Or.inr (Or.inr e))
          have n12 : ¬ op = 12 := fun e => h2 (Or.inl e)
          have n13 : ¬ op = 13 := fun e => h2 (Or.inr e)
          clear hord hs ho hc hp
          go_wp2
          go_ret
          exact ⟨rfl, fin _⟩
  · rw [ableT_ended hge]
    exact able_ended sb P.ca P.n P.cc P.mode tb tc _ _ _ _ _ s A L C X hl t ht hN hLt (by have := ho.pc t ht; omega) hge w (hs.sin hth) hp
end

section
open Go.RowKit

theorem frozen_up {w : World} {a : Addr} (ha : a.block < w.heap.size) (h : w.frozen? a = false) (o : Obj) : (w.alloc o).frozen? a = false := (World.frozen?_of_block (Below.heap_alloc w o a.block ha)).trans h
theorem DSt.alloc {w : World} {B : Nat} {P : Pg} {sb : Nat} {v : Rl → Value} {s : Sx} (h : DSt w B P sb v s) (o : Obj) : DSt (w.alloc o) B P sb v s := h.below ((Below.refl _ _).alloc (Nat.le_refl _) _)
theorem DSt.drew {w : World} {B : Nat} {P : Pg} {sb : Nat} {v : Rl → Value} {s : Sx} (h : DSt w B P sb v s) : DSt w.drew B P sb v s := ⟨h.fam.drew, h.box⟩
set_option maxRecDepth 100000 in
set_option maxHeartbeats 1600000 in
theorem done_any (w : World) (B sb : Nat) (P : Pg) (v : Rl → Value) (s : Sx) (x : Wt) (hs : DSt w B P sb v s) (h0 : 0 ≤ x.wh) (hx : x.wh < (if x.lk then s.own.length else s.words.length : Nat)) (_hm : s.words.length ≤ 64) (_hk : s.own.length ≤ 4) :
    Calls Tryd.prog 116 #[.pointer (some ⟨sb, 0, none⟩), .agg #[.bool x.lk, .int .i64 x.wh, .int .i64 x.what]] w fun e w' => e = .returned (.tuple #[]) ∧ DSt w' B P sb v (doneW s x) ∧ Moved w w' v v := by
  obtain ⟨lk, wh, what⟩ := x
  simp only at hx h0 ⊢
  obtain ⟨j, rfl⟩ : ∃ j : Nat, wh = j := ⟨wh.toNat, by omega⟩
  have hsb := lt_of_cell hs.c7
  cases lk with
  | true =>
    simp only [if_true] at hx
    obtain ⟨ob, oc, hov, hob, hlt⟩ := hs.ownB (by omega)
    have k7 := cell_up hs.c7
    rw [hov] at k7
    have kown := cell_up (hs.owner hob (r := j) (by omega))
    have kf := frozen_up (a := ⟨ob, j, none⟩) hlt (hs.fam.frozen hob j)
    have HF : Hid (DSt (w.setCell ⟨ob, j, none⟩ (.int .i64 (-1))) B P sb v (doneW s ⟨true, j, what⟩) ∧ Moved w (w.setCell ⟨ob, j, none⟩ (.int .i64 (-1))) v v) :=
      ⟨by have := hs.setOwn hob j (-1); simpa [doneW] using this, (Moved.refl w v).put hob j _⟩
    obtain ⟨n, hn⟩ : ∃ n, s.own.length = n := ⟨_, rfl⟩
    obtain ⟨y, hy⟩ : ∃ y, s.own.getD j 0 = y := ⟨_, rfl⟩
    rw [hn] at k7 hx _hk
    rw [hy] at kown
    clear hs hov hob hn hy
    go_enter Tryd.func116, Tryd.ntmps116
    go_wp2
    go_region
    all_goals go_wp2
    all_goals go_end0
    all_goals exact ⟨rfl, (HF.out.1.alloc _).drew, (HF.out.2.alloc _).drew⟩
  | false =>
    simp only [Bool.false_eq_true, if_false] at hx
    obtain ⟨ob, oc, hov, hob, hlt⟩ := hs.wordsB (by omega)
    have k6 := cell_up hs.c6
    rw [hov] at k6
    have kown := cell_up (hs.word hob (r := j) (by omega))
    have kf := frozen_up (a := ⟨ob, j, none⟩) hlt (hs.fam.frozen hob j)
    have HF : Hid (DSt (w.setCell ⟨ob, j, none⟩ (.int .i64 what)) B P sb v (doneW s ⟨false, j, what⟩) ∧ Moved w (w.setCell ⟨ob, j, none⟩ (.int .i64 what)) v v) :=
      ⟨by have := hs.setWord hob j what; simpa [doneW] using this, (Moved.refl w v).put hob j _⟩
    obtain ⟨n, hn⟩ : ∃ n, s.words.length = n := ⟨_, rfl⟩
    obtain ⟨y, hy⟩ : ∃ y, s.words.getD j 0 = y := ⟨_, rfl⟩
    rw [hn] at k6 hx _hm
    rw [hy] at kown
    clear hs hov hob hn hy
    go_enter Tryd.func116, Tryd.ntmps116
    go_wp2
    go_region
    all_goals go_wp2
    all_goals go_end0
    all_goals exact ⟨rfl, (HF.out.1.alloc _).drew, (HF.out.2.alloc _).drew⟩

set_option maxRecDepth 100000 in
set_option maxHeartbeats 1600000 in
theorem word_yes (w : World) (B sb : Nat) (P : Pg) (v : Rl → Value) (s : Sx) (x : Int) (hs : DSt w B P sb v s) (_hm : s.words.length ≤ 64) (hx : 0 ≤ x ∧ x < (s.words.length : Int)) :
    Calls Tryd.prog 120 #[.pointer (some ⟨sb, 0, none⟩), .int .i64 x] w fun e w' => e = .returned (.bool true) ∧ w = w' := by
  obtain ⟨a, c, hv⟩ := hs.wordsV
  have k6 := hs.c6
  rw [hv] at k6
  have k9 := hs.c9
  have kf := hs.fam.frozen hs.bblk 9
  obtain ⟨n, hn⟩ : ∃ n, s.words.length = n := ⟨_, rfl⟩
  rw [hn] at k6 _hm hx
  clear hs hv hn
  obtain ⟨h0, h1⟩ := hx
  have h0' : decide (x < 0) = false := by simpa using h0
  go_enter Tryd.func120, Tryd.ntmps120
  go_wp2
  go_ret
  exact ⟨rfl, rfl⟩
set_option maxRecDepth 100000 in
set_option maxHeartbeats 1600000 in
theorem word_no (w : World) (B sb : Nat) (P : Pg) (v : Rl → Value) (s : Sx) (x : Int) (hs : DSt w B P sb v s) (_hm : s.words.length ≤ 64) (hx : x < 0 ∨ (s.words.length : Int) ≤ x) :
    Calls Tryd.prog 120 #[.pointer (some ⟨sb, 0, none⟩), .int .i64 x] w fun e w' => e = .returned (.bool false) ∧ w.setCell ⟨sb, 9, none⟩ (.bool true) = w' := by
  obtain ⟨a, c, hv⟩ := hs.wordsV
  have k6 := hs.c6
  rw [hv] at k6
  have k9 := hs.c9
  have kf := hs.fam.frozen hs.bblk 9
  obtain ⟨n, hn⟩ : ∃ n, s.words.length = n := ⟨_, rfl⟩
  rw [hn] at k6 _hm hx
  clear hs hv hn
  by_cases h0 : x < 0
  · clear hx
    go_enter Tryd.func120, Tryd.ntmps120
    go_wp2
    go_ret
    exact ⟨rfl, rfl⟩
  · have h0' : decide (x < 0) = false := by simpa using h0
    have h1 : (n : Int) ≤ x := by omega
    clear hx
    go_enter Tryd.func120, Tryd.ntmps120
    go_wp2
    go_ret
    exact ⟨rfl, rfl⟩

set_option maxRecDepth 100000 in
set_option maxHeartbeats 1600000 in
theorem store_zero (w : World) (B sb : Nat) (P : Pg) (v : Rl → Value) (s : Sx) (t : Nat) (x : Wt) (hs : DSt w B P sb v s) (hm : P.mode = 0) (h0 : 0 ≤ x.wh) (hx : x.wh < (if x.lk then s.own.length else s.words.length : Nat)) (hwl : s.words.length ≤ 64) (hol : s.own.length ≤ 4) :
    Calls Tryd.prog 119 #[.pointer (some ⟨sb, 0, none⟩), .int .i64 t, .agg #[.bool x.lk, .int .i64 x.wh, .int .i64 x.what]] w fun e w' => e = .returned (.tuple #[]) ∧ DSt w' B P sb v (storeW P.mode s t x) ∧ Moved w w' v v := by
  have hst : storeW P.mode s t x = doneW s x := by unfold storeW; rw [hm]; rfl
  rw [hst]
  have k4 := cell_up hs.c4
  rw [hm] at k4
  have HD : Hid (∀ o, Calls Tryd.prog 116 #[.pointer (some ⟨sb, 0, none⟩), .agg #[.bool x.lk, .int .i64 x.wh, .int .i64 x.what]] (w.alloc o) fun e w' => e = .returned (.tuple #[]) ∧ DSt w' B P sb v (doneW s x) ∧ Moved w w' v v) := fun o =>
    (done_any _ B sb P v s x (hs.alloc o) h0 hx hwl hol).mono fun e w' h => ⟨h.1, h.2.1, ((Moved.refl w v).alloc o).trans h.2.2⟩
  clear hs hst hm h0 hx hwl hol
  go_enter Tryd.func119, Tryd.ntmps119
  go_wp2_with fail
  refine (HD.out _).mono ?_
  rintro e w1 ⟨rfl, h1, h2⟩
  go_wp2_with fail
  go_end0
  exact ⟨rfl, h1, h2⟩

theorem infoWait : (Tryd.prog.info? 199).map (fun i => (i.zero, i.size, i.bytes)) = some (some (.agg #[.bool false, .int .i64 0, .int .i64 0]), 3, 24) := by kernel_rfl
theorem cell_up2 {w : World} {a : Addr} {v : Value} (h : w.cell? a = some v) (o p : Obj) : ((w.alloc o).alloc p).cell? a = some v := cell_up (cell_up h o) p
theorem frozen_up2 {w : World} {a : Addr} (ha : a.block < w.heap.size) (h : w.frozen? a = false) (o p : Obj) : ((w.alloc o).alloc p).frozen? a = false := frozen_up (by simp; omega) (frozen_up ha h o) p

attribute [local go_sem ↓] appS_eq
set_option maxRecDepth 100000 in
set_option maxHeartbeats 1600000 in
theorem store_more (w : World) (B sb : Nat) (P : Pg) (v : Rl → Value) (s : Sx) (t : Nat) (x : Wt) (hs : DSt w B P sb v s) (hB : B ≤ w.heap.size) (hm : 0 < P.mode) (ht : t < s.ths.length) (hn4 : s.ths.length ≤ 4) (hw3 : (thOf s t).wait.length ≤ 3) :
    Calls Tryd.prog 119 #[.pointer (some ⟨sb, 0, none⟩), .int .i64 t, .agg #[.bool x.lk, .int .i64 x.wh, .int .i64 x.what]] w fun e w' => e = .returned (.tuple #[]) ∧ ∃ v', DSt w' B P sb v' (storeW P.mode s t x) ∧ Moved w w' v v' := by
  have hst : storeW P.mode s t x = setTh s t { thOf s t with wait := (thOf s t).wait ++ [x] } := by unfold storeW; rw [if_pos hm]
  rw [hst]
  obtain ⟨lk, wh, what⟩ := x
  simp only
  obtain ⟨tb, tc, hth, htb, htl⟩ := hs.thrB (by omega)
  obtain ⟨qa, qc, hq⟩ := hs.waitV t
  have hsb := lt_of_cell hs.c5
  have k4 := cell_up hs.c4
  have c5 := hs.c5
  rw [hth] at c5
  have cq := hs.wait htb ht
  rw [hq] at cq
  have cf := hs.fam.frozen htb (t * 3 + 2)
  have hbelow : ∀ o : Obj, Below w.heap.size w (w.alloc o).drew := fun o => ((Below.refl _ _).alloc (Nat.le_refl _) _).drew
  have hown := hs.fam.own (.wait t)
  obtain ⟨g, cap, w3, hr1, hr2, hr3, hr4⟩ := app_row (T := 189) Tryd.underlying189 infoWait rfl (by omega) hown (hbelow (.cells #[.bool lk, .int .i64 wh, .int .i64 what] 199)) hB 1 #[.bool lk, .int .i64 wh, .int .i64 what] rfl (by simp [Value.oneCell']) (by omega) (by show (thOf s t).wait.length + 1 ≤ _; omega) (by omega)
  have hne1 : some sb ≠ (v (.wait t)).ownBlock := fun e => absurd (hs.fam.apart _ _ sb hs.bblk e.symm) (by simp)
  have hne2 : some tb ≠ (v (.wait t)).ownBlock := fun e => absurd (hs.fam.apart _ _ tb htb e.symm) (by simp)
  have q5 := hr3.cell (cell_up2 c5 (.cells #[.bool lk, .int .i64 wh, .int .i64 what] 199) (.cells #[.bool lk, .int .i64 wh, .int .i64 what] 199)) hne1
  have qq := hr3.cell (cell_up2 cq (.cells #[.bool lk, .int .i64 wh, .int .i64 what] 199) (.cells #[.bool lk, .int .i64 wh, .int .i64 what] 199)) hne2
  have qf : w3.frozen? ⟨tb, t * 3 + 2, none⟩ = false := (hr3.frozen_far ⟨tb, t * 3 + 2, none⟩ (by simp; omega) hne2).trans (frozen_up2 htl cf _ _)
  have hlen : ((thOf s t).wait ++ [(⟨lk, wh, what⟩ : Wt)]).length = (thOf s t).wait.length + 1 := by simp
  have hcells : rX P v s (.wait t) ++ #[Value.bool lk, .int .i64 wh, .int .i64 what].toList = Go.Proofs.YtkailbdjilkneaaDoor.waitV ((thOf s t).wait ++ [⟨lk, wh, what⟩]) := by rw [waitV_snoc]; rfl
  rw [hcells] at hr2
  have hr2' : w3.ownsRow B 199 3 (.slice (some ⟨g, 0, none⟩) ((thOf s t).wait ++ [(⟨lk, wh, what⟩ : Wt)]).length cap) ((thOf s t).wait ++ [(⟨lk, wh, what⟩ : Wt)]).length (Go.Proofs.YtkailbdjilkneaaDoor.waitV ((thOf s t).wait ++ [⟨lk, wh, what⟩])) := by rw [hlen]; exact hr2
  have hbel2 : Below w.heap.size w ((w.alloc (.cells #[.bool lk, .int .i64 wh, .int .i64 what] 199)).drew.alloc (.cells #[.bool lk, .int .i64 wh, .int .i64 what] 199)) := (hbelow _).alloc (hbelow _).size _
  have hD := (hs.below hbel2).newWait htb ht hr2' hr3 hr4 (by simp)
  have hM := ((Moved.of_below (v := v) hbel2).grow (r := .wait t) (m := (thOf s t).wait.length + 1) (c := cap) hr3 hr4 (by simp)).put (r := .thr) (g := tb) (by rw [upd_ne _ _ (by simp)]; exact htb) (t * 3 + 2) (.slice (some ⟨g, 0, none⟩) ((thOf s t).wait.length + 1) cap)
  rw [hlen] at hD
  have HF : Hid (∃ v', DSt (w3.setCell ⟨tb, t * 3 + 2, none⟩ (.slice (some ⟨g, 0, none⟩) ((thOf s t).wait.length + 1) cap)) B P sb v' (setTh s t { thOf s t with wait := (thOf s t).wait ++ [⟨lk, wh, what⟩] }) ∧ Moved w (w3.setCell ⟨tb, t * 3 + 2, none⟩ (.slice (some ⟨g, 0, none⟩) ((thOf s t).wait.length + 1) cap)) v v') := ⟨_, hD, hM⟩
  have hrun : (AppS #[189, 189] 189 #[v (.wait t), .slice (some ⟨w.heap.size + 1, 0, none⟩) 1 1]).run Tryd.prog ((w.alloc (.cells #[.bool lk, .int .i64 wh, .int .i64 what] 199)).alloc (.cells #[.bool lk, .int .i64 wh, .int .i64 what] 199)).drew = .ok (.slice (some ⟨g, 0, none⟩) ((thOf s t).wait.length + 1) cap) w3 := by
    have e : (w.alloc (.cells #[.bool lk, .int .i64 wh, .int .i64 what] 199)).drew.heap.size = w.heap.size + 1 := by simp
    rw [e] at hr1
    exact hr1
  rw [hq] at hrun
  have k5 := cell_up c5
  have kq := cell_up cq
  have k52 := cell_up2 c5
  have kq2 := cell_up2 cq
  obtain ⟨mode, hmode⟩ : ∃ m, P.mode = m := ⟨_, rfl⟩
  rw [hmode] at k4 hm
  obtain ⟨n, hn⟩ : ∃ m, s.ths.length = m := ⟨_, rfl⟩
  rw [hn] at k5 k52 c5 q5 ht hn4
  obtain ⟨k, hk⟩ : ∃ m, (thOf s t).wait.length = m := ⟨_, rfl⟩
  rw [hk] at kq kq2 cq qq hrun HF hw3
  clear hs hst hth htb hq cf hbelow hown hr1 hr2 hr3 hr4 hne1 hne2 hlen hcells hr2' hbel2 hD hM hmode hn hk
  go_enter Tryd.func119, Tryd.ntmps119
  go_wp2
  go_region
  all_goals go_wp2
  all_goals go_end0
  all_goals exact ⟨rfl, HF.out⟩
end

end Go.Proofs.YtkailbdjilkneaaDoor
