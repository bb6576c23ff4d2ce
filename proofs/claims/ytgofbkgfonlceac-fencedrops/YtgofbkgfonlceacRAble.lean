/-
  Whether a thread is able to do its next order.
  'append(l, r...)' of a row that the call made, whatever it holds; orders in rows.
-/
import Derived.Test.YtgofbkgfonlceacRNext
import Derived.Test.YtgofbkgfonlceacSOk
import Derived.Deep.QuietTactic
import Derived.BigQuiet
import Derived.Test.YtgofbkgfonlceacOrder
import Derived.Test.YtgofbkgfonlceacAppB
namespace Go.Proofs.Ytgofbkgfonlceac
section
open Go.RowKit

set_option maxRecDepth 100000 in
set_option maxHeartbeats 1600000 in
theorem able_ended (sb : Nat) (ca : Option Addr) (n cc : Nat) (mode : Int) (tb tc : Nat) (rv qv : Nat → Value) (wv ov pv : Value) (s : Sx) (A : Nat → Option Addr) (L C : Nat → Nat) (X : Nat → Nat → Nat → Int) (hn : s.ths.length = n) (t : Nat) (ht : t < n) (hN : n ≤ 4) (hL : L t ≤ 400) (hpc : (thOf s t).pc ≤ 400) (hend : L t ≤ (thOf s t).pc) (w : World) (hs : SIn w sb ca n cc mode tb tc rv qv wv ov pv s) (hp : PIn w ca n A L C X) :
    Calls Try.prog 58 #[.pointer (some ⟨sb, 0, none⟩), .int .i64 t] w fun e w' => e = .returned (.bool false) ∧ Below w.heap.size w w' := by
  go_enter Try.func58, Try.ntmps58
  go_wp2_with fail
  refine (next_ended sb ca n cc mode tb tc rv qv wv ov pv s A L C X hn t ht hN hL hpc hend w hs hp).mono ?_
  rintro e w1 ⟨rfl, hb1⟩
  go_wp2_with fail
  go_ret
  exact ⟨rfl, hb1.alloc hb1.size _⟩

theorem below_drewN {B : Nat} {a w : World} (h : Below B a w) {k : Nat} : Below B a (w.drewN k) := ⟨h.os, h.tape, h.output, h.size, h.block⟩

/-- What an order's number says of whether a thread with k that wait is able to do it. -/
def ableO (own : List Int) (k : Nat) (op a : Int) : Bool :=
  if op = 9 ∨ op = 11 ∨ op = 18 then decide (k < 3)
  else if op = 12 ∨ op = 13 then decide (k = 0)
  else if op = 17 then decide (k = 0) && decide (own.getD a.toNat 0 = -1)
  else true
theorem ableT_more {L : Nat → Nat} {X : Nat → Nat → Nat → Int} {s : Sx} {t : Nat} (h : (thOf s t).pc < L t) : ableT L X s t = ableO s.own (thOf s t).wait.length (opT X s t 0) (opT X s t 1) := by
  unfold ableT endedT
  rw [decide_eq_false (by omega)]
  rfl
theorem ableT_ended {L : Nat → Nat} {X : Nat → Nat → Nat → Int} {s : Sx} {t : Nat} (h : L t ≤ (thOf s t).pc) : ableT L X s t = false := by
  unfold ableT endedT
  rw [decide_eq_true h]
  rfl

set_option maxRecDepth 100000 in
set_option maxHeartbeats 1600000 in
theorem able_any (w : World) (B sb : Nat) (P : Pg) (v : Rl → Value) (s : Sx) (A : Nat → Option Addr) (L C : Nat → Nat) (X : Nat → Nat → Nat → Int) (m lk rg : Nat) (t : Nat) (ht : t < P.n) (hs : DSt w B P sb v s) (ho : SOk P.n L m lk rg P.mode s) (hc : COk P.n L X m lk rg) (hp : PIn w P.ca P.n A L C X) :
    Calls Try.prog 58 #[.pointer (some ⟨sb, 0, none⟩), .int .i64 t] w fun e w' => e = .returned (.bool (ableT L X s t)) ∧ Below w.heap.size w w' := by
  have hl := ho.ths
  have hN := hc.n4
  have hLt := hc.L4 t ht
  obtain ⟨tb, tc, hth, htb, _⟩ := hs.thrB (by omega)
  rcases Nat.lt_or_ge (thOf s t).pc (L t) with hlt | hge
  · rw [ableT_more hlt]
    have hord := hc.ord t (thOf s t).pc ht hlt
    have hsin := hs.sin hth
    have hnext := next_more sb P.ca P.n P.cc P.mode tb tc _ _ _ _ _ s A L C X hl t ht hN hLt hlt w hsin hp
    obtain ⟨qa, qc, hq⟩ := hs.waitV t
    have hwait := hs.wait htb (t := t) (by omega)
    rw [hq] at hwait
    have hc5 := hs.c5
    rw [hth, hl] at hc5
    have hc7 := hs.c7
    have hw3 := ho.wlen t ht
    obtain ⟨k, hk⟩ : ∃ k, (thOf s t).wait.length = k := ⟨_, rfl⟩
    rw [hk] at hwait hw3 ⊢
    have hop : opT X s t 0 = X t (thOf s t).pc 0 := rfl
    have hoa : opT X s t 1 = X t (thOf s t).pc 1 := rfl
    rw [← hop, ← hoa] at hord
    obtain ⟨op, eop⟩ : ∃ x, opT X s t 0 = x := ⟨_, rfl⟩
    obtain ⟨a, ea⟩ : ∃ x, opT X s t 1 = x := ⟨_, rfl⟩
    obtain ⟨b, eb⟩ : ∃ x, opT X s t 2 = x := ⟨_, rfl⟩
    obtain ⟨c, ec⟩ : ∃ x, opT X s t 3 = x := ⟨_, rfl⟩
    rw [eop, ea] at hord
    rw [eop, ea, eb, ec] at hnext
    rw [eop, ea]
    clear hop hoa eop ea eb ec hsin hlt hk hq
    obtain ⟨n, hn⟩ : ∃ n, P.n = n := ⟨_, rfl⟩
    rw [hn] at hc5 ht hN
    obtain ⟨r, hr0⟩ : ∃ r, ableO s.own k op a = r := ⟨_, rfl⟩
    have HR : Hid (ableO s.own k op a = r) := hr0
    rw [hr0]
    clear hr0
    go_enter Try.func58, Try.ntmps58
    go_wp2_with fail
    refine hnext.mono ?_
    rintro e w1 ⟨rfl, hb1⟩
    clear hnext
    have k5 := cell_up ((hb1.cell (lt_of_cell hc5)).trans hc5)
    have k7 := cell_up ((hb1.cell (lt_of_cell hc7)).trans hc7)
    have kq := cell_up ((hb1.cell (lt_of_cell hwait)).trans hwait)
    have fin : ∀ o, Below w.heap.size w (w1.alloc o) := fun o => hb1.alloc hb1.size o
    by_cases h1 : op = 9 ∨ op = 11 ∨ op = 18
    · clear hs ho hc hp
      have hr : ableO s.own k op a = decide (k < 3) := by unfold ableO; rw [if_pos h1]
      have hr' := HR.out.symm.trans hr
      clear hr HR
      rcases h1 with rfl | rfl | rfl
      all_goals
        go_wp2
        go_ret
        exact ⟨ret_bool (by rw [hr']; exact decide_eq_decide.2 (by omega)), fin _⟩
    · by_cases h2 : op = 12 ∨ op = 13
      · clear hs ho hc hp
        have hr : ableO s.own k op a = decide (k = 0) := by unfold ableO; rw [if_neg h1, if_pos h2]
        have hr' := HR.out.symm.trans hr
        clear hr HR
        rcases h2 with rfl | rfl
        all_goals
          go_wp2
          go_ret
          exact ⟨ret_bool (by rw [hr']; cases k <;> rfl), fin _⟩
      · by_cases h3 : op = 17
        · have hr : ableO s.own k op a = (decide (k = 0) && decide (s.own.getD a.toNat 0 = -1)) := by unfold ableO; rw [if_neg h1, if_neg h2, if_pos h3]
          have hr' := HR.out.symm.trans hr
          clear hr HR
          subst h3
          obtain ⟨j, rfl, hj⟩ := toN (ok_lock (Or.inl rfl) hord)
          have hlo := ho.own
          have hl4 := hc.lk4
          obtain ⟨ob, oc, hov, hob, _⟩ := hs.ownB (by omega)
          have hown := hs.owner hob (r := j) (by omega)
          rw [hov, hlo] at k7
          have kown := cell_up ((hb1.cell (lt_of_cell hown)).trans hown)
          rw [show ((j : Int)).toNat = j by omega] at hr'
          obtain ⟨x, hx⟩ : ∃ x, s.own.getD j 0 = x := ⟨_, rfl⟩
          rw [hx] at kown hr'
          have HR' : Hid (r = _) := hr'
          clear hr'
          clear hx hord hs ho hc hp
          by_cases hk0 : k = 0
          · subst hk0
            go_wp2
            go_quiet (fail)
            go_wp2
            go_ret
            exact ⟨ret_bool (by rw [HR'.out, Bool.eq_iff_iff]; simp), below_drewN (fin _)⟩
          · have hd : decide (k = 0) = false := by simpa using hk0
            go_wp2
            go_quiet (fail)
            go_wp2
            go_ret
            exact ⟨ret_bool (by rw [HR'.out, Bool.eq_iff_iff]; simp; exact fun e => absurd e hk0), below_drewN (fin _)⟩
        · have hr : ableO s.own k op a = true := by unfold ableO; rw [if_neg h1, if_neg h2, if_neg h3]
          have hr' := HR.out.symm.trans hr
          clear hr HR
          subst hr'
          have n9 : ¬ op = 9 := fun e => h1 (Or.inl e)
          have n11 : ¬ op = 11 := fun e => h1 (Or.inr (Or.inl e))
          have n18 : ¬ op = 18 := fun e => h1 (Or.inr (Or.inr e))
          have n12 : ¬ op = 12 := fun e => h2 (Or.inl e)
          have n13 : ¬ op = 13 := fun e => h2 (Or.inr e)
          clear hord hs ho hc hp
          go_wp2
          go_ret
          exact ⟨rfl, fin _⟩
  · rw [ableT_ended hge]
    exact able_ended sb P.ca P.n P.cc P.mode tb tc _ _ _ _ _ s A L C X hl t ht hN hLt (by have := ho.pc t ht; omega) hge w (hs.sin hth) hp
end

section
open Go.RowKit

/-- A slice that lies in memory: its cells. -/
def SrcL (w : World) (sa : Option Addr) (xs : List Value) : Prop := ∀ j u, xs[j]? = some u → ∃ b o, sa = some ⟨b, o, none⟩ ∧ w.cell? ⟨b, o + j, none⟩ = some u
theorem srcL_nil (w : World) (sa : Option Addr) : SrcL w sa [] := fun j u h => by simp at h
/-- A new block's cells. -/
theorem srcL_block {w : World} {g : Nat} {cs : Array Value} {e : TypeId} {fr : Nat × Nat} (h : w.heap[g]? = some (.cells cs e fr)) : SrcL w (some ⟨g, 0, none⟩) cs.toList := fun j u hj => by
  refine ⟨g, 0, rfl, ?_⟩
  have := World.news_of_block (cs := cs) (t := e) (fr := fr) h j u hj
  have hadd : (⟨g, 0, none⟩ : Addr).add j = ⟨g, 0 + j, none⟩ := by unfold Addr.add; split <;> simp_all
  rw [hadd] at this
  exact this
theorem app_lie {T e : TypeId} {z : Value} {size bytes : Nat} (ht : Try.prog.underlying T = some (.slice e)) (hinfo : (Try.prog.info? e).map (fun i => (i.zero, i.size, i.bytes)) = some (some z, size, bytes)) (hzs : z.cells.size = size) (hsz : 0 < size)
    {w : World} {B : Nat} {v : Value} {n : Nat} {xs : List Value} (hown : w.ownsRow B e size v n xs) (hB : B ≤ w.heap.size) (sa : Option Addr) (m c : Nat) (news : List Value) (hl : news.length = m * size) (hsrc : SrcL w sa news) (h1 : ∀ u ∈ news, u.oneCell' = true) (h63 : n + m ≤ 1000000) (hby : bytes ≤ 1000) :
    ∃ v' w3, (AppS #[T, T] T #[v, .slice sa m c]).run Try.prog w = .ok v' w3 ∧ w3.ownsRow B e size v' (n + m) (xs ++ news) ∧ w.grownBy w3 v.ownBlock ∧ (v'.ownBlock = v.ownBlock ∨ v'.ownBlock = some w.heap.size) := by
  obtain ⟨i, hi, hz0, hz1, hz2⟩ := info_is hinfo
  have hbig : (n + m) * bytes ≤ 140737488355328 := by
    have : (n + m) * bytes ≤ 1000000 * 1000 := Nat.mul_le_mul h63 hby
    omega
  cases sa with
  | some a =>
    have hnews : ∀ j u, news[j]? = some u → w.cell? (a.add j) = some u := fun j u hj => by
      obtain ⟨b, o, ea, hc⟩ := hsrc j u hj
      simp only [Option.some.injEq] at ea
      subst ea
      have hadd : (⟨b, o, none⟩ : Addr).add j = ⟨b, o + j, none⟩ := by unfold Addr.add; split <;> simp_all
      rw [hadd]
      exact hc
    obtain ⟨v', w', r1, r2, r3, _, r5⟩ := run_append_own_at (P := Try.prog) w B T T e i z size bytes ht hi hz0 hz1 hz2 hzs hsz v n xs hown a m c news hl hnews h1 (by unfold maxLen; omega) hbig hB
    exact ⟨v', w', r1, r2, r3, r5⟩
  | none =>
    have hnil : news = [] := by
      cases news with
      | nil => rfl
      | cons x r =>
        obtain ⟨b, o, ea, _⟩ := hsrc 0 x rfl
        cases ea
    subst hnil
    have hm : m = 0 := by
      rcases Nat.eq_zero_or_pos m with h | h
      · exact h
      · have : 0 < m * size := Nat.mul_pos h hsz
        rw [← hl] at this
        cases this
    subst hm
    rw [List.append_nil, Nat.add_zero]
    refine ⟨v, w, ?_, hown, ⟨rfl, rfl, rfl, Nat.le_refl _, fun _ _ _ => rfl⟩, Or.inl rfl⟩
    have hs : Src Try.prog i.size T (.slice none 0 c) 0 [] w := Src.ofNil _ ht c
    rcases hown.2 with ⟨rfl, rfl⟩ | ⟨g, cap, cur, rfl, hbg, hg, hnc, hcm, hcs, htake⟩
    · show (Builtin.append_ #[T, T] T #[.slice none 0 0, .slice none 0 c]).run Try.prog w = _
      simp [Builtin.append_, run_underlying ht, sizeOf, typeInfo, hi, Builtin.lenOf, Builtin.firstCells]
    · have := run_append_room_src (P := Try.prog) w T T T e i ht hi g 0 n cap (.slice none 0 c) 0 [] hs hnc (fun j h => by simp at h) (fun j h => by simp at h)
      exact this
theorem infoO : (Try.prog.info? 52).map (fun i => (i.zero, i.size, i.bytes)) = some (some (.agg #[.int .i64 0, .int .i64 0, .int .i64 0, .int .i64 0]), 4, 32) := by kernel_rfl
theorem infoOs : (Try.prog.info? 47).map (fun i => (i.zero, i.size, i.bytes)) = some (some nilV, 1, 24) := by kernel_rfl
theorem cells4_one (l : List I4) : ∀ u ∈ cellsT l, u.oneCell' = true := fun u hu => by
  unfold cellsT at hu
  rw [List.mem_flatMap] at hu
  obtain ⟨x, _, hx⟩ := hu
  simp only [cells4, List.mem_cons, List.not_mem_nil, or_false] at hx
  rcases hx with rfl | rfl | rfl | rfl <;> rfl
theorem cellsT_append (l r : List I4) : cellsT (l ++ r) = cellsT l ++ cellsT r := by simp [cellsT]
/-- An order's cells. -/
theorem cellsT_at : ∀ {l : List I4} {i : Nat}, i < l.length → ∀ d, (cellsT l)[i * 4]? = some (.int .i64 (l.getD i d).1) ∧ (cellsT l)[i * 4 + 1]? = some (.int .i64 (l.getD i d).2.1) ∧ (cellsT l)[i * 4 + 2]? = some (.int .i64 (l.getD i d).2.2.1) ∧ (cellsT l)[i * 4 + 3]? = some (.int .i64 (l.getD i d).2.2.2)
  | [], i, h, _ => absurd h (Nat.not_lt_zero _)
  | x :: l, 0, _, _ => ⟨rfl, rfl, rfl, rfl⟩
  | x :: l, i + 1, h, d => by
    have := cellsT_at (l := l) (i := i) (by simpa using h) d
    have e : ∀ k, (cellsT (x :: l))[(i + 1) * 4 + k]? = (cellsT l)[i * 4 + k]? := fun k => by
      rw [show (i + 1) * 4 + k = (i * 4 + k) + 4 by omega]
      rfl
    have e0 := e 0
    rw [Nat.add_zero, Nat.add_zero] at e0
    rw [e0, e 1, e 2, e 3]
    exact this
/-- One order is set. -/
theorem cellsT_set : ∀ {l : List I4} {i : Nat} {x : I4}, i < l.length → ((((cellsT l).set (i * 4) (.int .i64 x.1)).set (i * 4 + 1) (.int .i64 x.2.1)).set (i * 4 + 2) (.int .i64 x.2.2.1)).set (i * 4 + 3) (.int .i64 x.2.2.2) = cellsT (l.set i x)
  | [], i, _, h => absurd h (Nat.not_lt_zero _)
  | y :: l, 0, x, _ => rfl
  | y :: l, i + 1, x, h => by
    have := cellsT_set (l := l) (i := i) (x := x) (by simpa using h)
    have e : cellsT (y :: l) = cells4 y ++ cellsT l := rfl
    have e2 : cellsT ((y :: l).set (i + 1) x) = cells4 y ++ cellsT (l.set i x) := rfl
    rw [e, e2, ← this]
    have e3 : ∀ (r : List Value) k u, (cells4 y ++ r).set ((i + 1) * 4 + k) u = cells4 y ++ r.set (i * 4 + k) u := fun r k u => by
      rw [show (i + 1) * 4 + k = (i * 4 + k) + 4 by omega]
      rfl
    have e4 := fun r u => e3 r 0 u
    simp only [Nat.add_zero] at e4
    rw [e4, e3, e3, e3]
/-- Orders that the call made. -/
def OwnC (w : World) (B : Nat) (v : Value) (l : List I4) : Prop := w.ownsRow B 52 4 v l.length (cellsT l)
theorem OwnC.below {w w' : World} {B : Nat} {v : Value} {l : List I4} (h : OwnC w B v l) (hb : Below w.heap.size w w') : OwnC w' B v l := owns_below2 h hb
/-- More orders behind them. -/
theorem app_code {w : World} {B : Nat} {v : Value} {l : List I4} (h : OwnC w B v l) (hB : B ≤ w.heap.size) (sa : Option Addr) (c : Nat) (r : List I4) (hs : SrcL w sa (cellsT r)) (hl : l.length + r.length ≤ 1000000) :
    ∃ v' w3, (AppS #[47, 47] 47 #[v, .slice sa r.length c]).run Try.prog w = .ok v' w3 ∧ OwnC w3 B v' (l ++ r) ∧ w.grownBy w3 v.ownBlock ∧ (v'.ownBlock = v.ownBlock ∨ v'.ownBlock = some w.heap.size) := by
  obtain ⟨v', w3, h1, h2, h3, h4⟩ := app_lie (T := 47) Try.underlying47 infoO rfl (by omega) h hB sa r.length c (cellsT r) (cellsT_len r) hs (cells4_one r) hl (by omega)
  refine ⟨v', w3, h1, ?_, h3, h4⟩
  unfold OwnC
  rw [List.length_append, cellsT_append]
  exact h2
end

end Go.Proofs.Ytgofbkgfonlceac
