/-
  The state of a run of the document, as it lies in memory; a thread's next order.
  What waits, as it lies in memory; whether one that waits may be done.
  What a thread finds in a word.
  A copy of a list of numbers, by the program.
  What the program's Check does.
  What the document's Check does.
-/
import Derived.Test.YtgofbkgfonlceabGreatDoorOrder
import Derived.Test.YtgofbkgfonlceabGreatDoorPlain
import Derived.WalkKit
import Derived.WalkSpells
import Derived.WalkLawsBesides
import Derived.Lib.SmallJoins
namespace Go.Proofs.YtgofbkgfonlceabGreatDoor
section
open Go.RowKit

/-- The state of a run, as it is read: its box at sb, its threads at tb. -/
structure SIn (w : World) (sb : Nat) (ca : Option Addr) (n cc : Nat) (mode : Int) (tb tc : Nat) (rv qv : Nat → Value) (wv ov pv : Value) (s : Sx) : Prop where
  code : w.cell? ⟨sb, 0, none⟩ = some (.slice ca n cc)
  mode : w.cell? ⟨sb, 4, none⟩ = some (.int .i64 mode)
  ths : w.cell? ⟨sb, 5, none⟩ = some (.slice (some ⟨tb, 0, none⟩) s.ths.length tc)
  words : w.cell? ⟨sb, 6, none⟩ = some wv
  own : w.cell? ⟨sb, 7, none⟩ = some ov
  prints : w.cell? ⟨sb, 8, none⟩ = some pv
  fell : w.cell? ⟨sb, 9, none⟩ = some (.bool s.fell)
  pc : ∀ t, t < s.ths.length → w.cell? ⟨tb, t * 3, none⟩ = some (.int .i64 (thOf s t).pc)
  regs : ∀ t, t < s.ths.length → w.cell? ⟨tb, t * 3 + 1, none⟩ = some (rv t)
  wait : ∀ t, t < s.ths.length → w.cell? ⟨tb, t * 3 + 2, none⟩ = some (qv t)

set_option maxRecDepth 100000 in
set_option maxHeartbeats 1600000 in
theorem next_ended (sb : Nat) (ca : Option Addr) (n cc : Nat) (mode : Int) (tb tc : Nat) (rv qv : Nat → Value) (wv ov pv : Value) (s : Sx) (A : Nat → Option Addr) (L C : Nat → Nat) (X : Nat → Nat → Nat → Int) (hn : s.ths.length = n) (t : Nat) (ht : t < n) (_hN : n ≤ 4) (_hL : L t ≤ 400) (_hpc : (thOf s t).pc ≤ 400) (hend : L t ≤ (thOf s t).pc) (w : World) (hs : SIn w sb ca n cc mode tb tc rv qv wv ov pv s) (hp : PIn w ca n A L C X) :
    Calls Tryz.prog 81 #[.pointer (some ⟨sb, 0, none⟩), .int .i64 t] w fun e w' => e = .returned (.tuple #[.agg #[.int .i64 0, .int .i64 0, .int .i64 0, .int .i64 0], .bool false]) ∧ Below w.heap.size w w' := by
  obtain ⟨cb, co, rfl, hcell⟩ := hp.code t ht
  have h0 := cell_up hs.code
  have h5 := cell_up hs.ths
  have hpcc := cell_up (hs.pc t (by omega))
  have hcc := cell_up hcell
  simp only [hn] at h5
  obtain ⟨k, hk⟩ : ∃ k, (thOf s t).pc = k := ⟨_, rfl⟩
  simp only [hk] at hpcc _hpc hend
  go_enter Tryz.func81, Tryz.ntmps81
  go_wp2
  refine bodyPost_ret (v := .tuple #[.agg #[.int .i64 0, .int .i64 0, .int .i64 0, .int .i64 0], .bool false]) (by simp [results, Tryz.results81, go_sem]) rfl ⟨rfl, (Below.refl _ _).alloc (Nat.le_refl _) _⟩

set_option maxRecDepth 100000 in
set_option maxHeartbeats 1600000 in
theorem next_more (sb : Nat) (ca : Option Addr) (n cc : Nat) (mode : Int) (tb tc : Nat) (rv qv : Nat → Value) (wv ov pv : Value) (s : Sx) (A : Nat → Option Addr) (L C : Nat → Nat) (X : Nat → Nat → Nat → Int) (hn : s.ths.length = n) (t : Nat) (ht : t < n) (_hN : n ≤ 4) (_hL : L t ≤ 400) (hend : (thOf s t).pc < L t) (w : World) (hs : SIn w sb ca n cc mode tb tc rv qv wv ov pv s) (hp : PIn w ca n A L C X) :
    Calls Tryz.prog 81 #[.pointer (some ⟨sb, 0, none⟩), .int .i64 t] w fun e w' => e = .returned (.tuple #[.agg #[.int .i64 (opT X s t 0), .int .i64 (opT X s t 1), .int .i64 (opT X s t 2), .int .i64 (opT X s t 3)], .bool true]) ∧ Below w.heap.size w w' := by
  obtain ⟨cb, co, rfl, hcell⟩ := hp.code t ht
  have h0 := cell_up hs.code
  have h5 := cell_up hs.ths
  have hpcc := cell_up (hs.pc t (by omega))
  have hcc := cell_up hcell
  simp only [hn] at h5
  unfold opT
  obtain ⟨k, hk⟩ : ∃ k, (thOf s t).pc = k := ⟨_, rfl⟩
  simp only [hk] at hpcc hend ⊢
  obtain ⟨ob, oo, hA, x0, x1, x2, x3⟩ := hp.ord t k ht hend
  rw [hA] at hcc
  have y0 := cell_up x0
  have y1 := cell_up x1
  have y2 := cell_up x2
  have y3 := cell_up x3
  obtain ⟨v0, e0⟩ : ∃ v, X t k 0 = v := ⟨_, rfl⟩
  obtain ⟨v1, e1⟩ : ∃ v, X t k 1 = v := ⟨_, rfl⟩
  obtain ⟨v2, e2⟩ : ∃ v, X t k 2 = v := ⟨_, rfl⟩
  obtain ⟨v3, e3⟩ : ∃ v, X t k 3 = v := ⟨_, rfl⟩
  simp only [e0] at y0 ⊢
  simp only [e1] at y1 ⊢
  simp only [e2] at y2 ⊢
  simp only [e3] at y3 ⊢
  go_enter Tryz.func81, Tryz.ntmps81
  go_wp2
  refine bodyPost_ret (v := .tuple #[.agg #[.int .i64 v0, .int .i64 v1, .int .i64 v2, .int .i64 v3], .bool true]) (by simp [results, Tryz.results81, go_sem]) rfl ⟨rfl, (Below.refl _ _).alloc (Nat.le_refl _) _⟩

theorem SIn.below {w w' : World} {sb : Nat} {ca : Option Addr} {n cc : Nat} {mode : Int} {tb tc : Nat} {rv qv : Nat → Value} {wv ov pv : Value} {s : Sx} (h : SIn w sb ca n cc mode tb tc rv qv wv ov pv s) (hb : Below w.heap.size w w') : SIn w' sb ca n cc mode tb tc rv qv wv ov pv s :=
  ⟨(hb.cell (lt_of_cell h.code)).trans h.code, (hb.cell (lt_of_cell h.mode)).trans h.mode, (hb.cell (lt_of_cell h.ths)).trans h.ths, (hb.cell (lt_of_cell h.words)).trans h.words, (hb.cell (lt_of_cell h.own)).trans h.own, (hb.cell (lt_of_cell h.prints)).trans h.prints, (hb.cell (lt_of_cell h.fell)).trans h.fell,
    fun t ht => (hb.cell (lt_of_cell (h.pc t ht))).trans (h.pc t ht), fun t ht => (hb.cell (lt_of_cell (h.regs t ht))).trans (h.regs t ht), fun t ht => (hb.cell (lt_of_cell (h.wait t ht))).trans (h.wait t ht)⟩
end

section
open Go.RowKit

/-- What waits, as it is read. -/
def WIn (w : World) (a : Option Addr) (l : List Wt) : Prop := ∀ i, i < l.length → ∃ b o, a = some ⟨b, o, none⟩ ∧ w.cell? ⟨b, o + i * 3, none⟩ = some (.bool (l.getD i default).lk) ∧ w.cell? ⟨b, o + i * 3 + 1, none⟩ = some (.int .i64 (l.getD i default).wh) ∧ w.cell? ⟨b, o + i * 3 + 2, none⟩ = some (.int .i64 (l.getD i default).what)
theorem WIn.below {w w' : World} {a : Option Addr} {l : List Wt} (h : WIn w a l) (hb : Below w.heap.size w w') : WIn w' a l := fun i hi => by
  obtain ⟨b, o, e, h0, h1, h2⟩ := h i hi
  exact ⟨b, o, e, (hb.cell (lt_of_cell h0)).trans h0, (hb.cell (lt_of_cell h1)).trans h1, (hb.cell (lt_of_cell h2)).trans h2⟩

set_option maxRecDepth 100000 in
set_option maxHeartbeats 1600000 in
theorem may_any (sb : Nat) (mode : Int) (qa : Option Addr) (qc : Nat) (l : List Wt) (k : Nat) (hk : k < l.length) (_hl : l.length ≤ 100) (w : World) (hm : w.cell? ⟨sb, 4, none⟩ = some (.int .i64 mode)) (hq : WIn w qa l) :
    Calls Tryz.prog 94 #[.pointer (some ⟨sb, 0, none⟩), .slice qa l.length qc, .int .i64 k] w fun e w' => e = .returned (.bool (mayW mode l k)) ∧ Below w.heap.size w w' := by
  obtain ⟨b, o, rfl, k0, k1, _⟩ := hq k hk
  obtain ⟨r, hr⟩ : ∃ r, mayW mode l k = r := ⟨_, rfl⟩
  have HR : Hid (mayW mode l k = r) := hr
  rw [hr]
  clear hr
  obtain ⟨lkk, e1⟩ : ∃ v, (l.getD k default).lk = v := ⟨_, rfl⟩
  obtain ⟨whk, e2⟩ : ∃ v, (l.getD k default).wh = v := ⟨_, rfl⟩
  have HE1 : Hid ((l.getD k default).lk = lkk) := e1
  have HE2 : Hid ((l.getD k default).wh = whk) := e2
  rw [e1] at k0
  rw [e2] at k1
  clear e1 e2
  go_enter Tryz.func94, Tryz.ntmps94
  by_cases hk0 : k = 0
  · subst hk0
    obtain rfl : r = true := by rw [← HR.out]; simp [mayW]
    go_wp2
    go_ret
    exact ⟨rfl, Below.refl _ _⟩
  · by_cases hm1 : mode = 1
    · obtain rfl : r = false := by rw [← HR.out]; simp [mayW, hk0, hm1]
      go_wp2
      go_ret
      exact ⟨rfl, Below.refl _ _⟩
    · cases lkk with
      | true =>
        obtain rfl : r = false := by rw [← HR.out]; simp only [mayW, hk0, HE1.out]; simp
        go_wp2
        go_ret
        exact ⟨rfl, Below.refl _ _⟩
      | false =>
        have HV : Hid (mayW mode l k = (l.take k).all fun x => !(x.lk || decide (x.wh = whk))) := by
          show _ = _
          simp only [mayW, hk0, hm1, HE1.out, HE2.out]
          simp
        go_wp2
        go_loopw [7] (fun i wr => ∃ j : Nat, j ≤ k ∧ i = .int .i64 j ∧ Hid (∀ p, p < j → (l.getD p default).lk = false ∧ (l.getD p default).wh ≠ whk) ∧ Below w.heap.size w wr) (fun i _ => k - (intOf i).toNat)
        case atStart => exact ⟨0, Nat.zero_le _, rfl, fun p hp => absurd hp (Nat.not_lt_zero _), Below.refl _ _⟩
        case round =>
          obtain ⟨j, hj, rfl, HJ, hbr⟩ := hrel
          have k0r := (hbr.cell (lt_of_cell k0)).trans k0
          have k1r := (hbr.cell (lt_of_cell k1)).trans k1
          have hqr := hq.below hbr
          by_cases hlt : j < k
          · obtain ⟨_, _, e0, j0, j1, _⟩ := hqr j (by omega)
            simp only [Option.some.injEq, Addr.mk.injEq, and_true] at e0
            obtain ⟨rfl, rfl⟩ := e0
            obtain ⟨lj, f1⟩ : ∃ v, (l.getD j default).lk = v := ⟨_, rfl⟩
            obtain ⟨wj, f2⟩ : ∃ v, (l.getD j default).wh = v := ⟨_, rfl⟩
            have HF1 : Hid ((l.getD j default).lk = lj) := f1
            have HF2 : Hid ((l.getD j default).wh = wj) := f2
            rw [f1] at j0
            rw [f2] at j1
            clear f1 f2
            have hmem : l.getD j default ∈ l.take k := by
              have h1 : j < l.length := by omega
              have e : l.getD j default = (l.take k)[j]'(by simp; omega) := by simp [List.getD, List.getElem?_eq_getElem h1]
              rw [e]
              exact List.getElem_mem _
            have HMM := Hid.out (p := Hid _) hmem
            clear hmem
            cases lj with
            | true =>
              obtain rfl : r = false := by
                rw [← HR.out, HV.out, List.all_eq_false]
                exact ⟨_, HMM.out, by simp only [HF1.out]; simp⟩
              go_wp2
              go_region
              all_goals go_wp2
              all_goals go_ret
              all_goals exact ⟨rfl, hbr.drew⟩
            | false =>
              by_cases hwe : wj = whk
              · obtain rfl : r = false := by
                  rw [← HR.out, HV.out, List.all_eq_false]
                  exact ⟨_, HMM.out, by simp only [HF1.out, HF2.out, hwe]; simp⟩
                go_wp2
                go_region
                all_goals go_wp2
                all_goals go_ret
                all_goals exact ⟨rfl, hbr.drew⟩
              · go_wp2
                go_region
                all_goals go_wp2
                all_goals go_roundw
                case rel =>
                  refine ⟨j + 1, by omega, by go_num, ?_, hbr.drew⟩
                  intro p hp
                  rcases (by omega : p < j ∨ p = j) with h | rfl
                  · exact HJ.out p h
                  · exact ⟨HF1.out, by rw [HF2.out]; exact hwe⟩
                case measure => simp [intOf]; omega
          · obtain rfl : j = k := by omega
            obtain rfl : r = true := by
              rw [← HR.out, HV.out, List.all_eq_true]
              intro x hx
              obtain ⟨p, hp, rfl⟩ := List.mem_iff_getElem.mp hx
              have hpj : p < j := by simp at hp; omega
              have h2 := HJ.out p hpj
              have e : l.getD p default = (l.take j)[p] := by simp [List.getD, List.getElem?_eq_getElem (show p < l.length by omega)]
              rw [e] at h2
              rw [h2.1, decide_eq_false h2.2]
              rfl
            go_wp2
            go_ret
            exact ⟨rfl, hbr⟩
end

section
open Go.RowKit

theorem back_none {l : List Wt} {f : Wt → Bool} (h : ∀ p, p < l.length → f (l.getD p default) = false) : l.reverse.find? f = none := by
  rw [List.find?_eq_none]
  intro x hx
  rw [List.mem_reverse] at hx
  obtain ⟨p, hp, rfl⟩ := List.mem_iff_getElem.mp hx
  have e : l.getD p default = l[p] := by simp [List.getD, List.getElem?_eq_getElem hp]
  rw [← e, h p hp]
  simp
theorem back_some {l : List Wt} {f : Wt → Bool} {i : Nat} (hi : i < l.length) (hm : f (l.getD i default) = true) (h : ∀ p, i < p → p < l.length → f (l.getD p default) = false) : l.reverse.find? f = some (l.getD i default) := by
  have e : l = l.take i ++ (l.getD i default :: l.drop (i + 1)) := by
    have e0 : l.getD i default = l[i] := by simp [List.getD, List.getElem?_eq_getElem hi]
    rw [e0, ← List.drop_eq_getElem_cons hi, List.take_append_drop]
  have hd : (l.drop (i + 1)).reverse.find? f = none := by
    refine back_none fun p hp => ?_
    rw [List.length_drop] at hp
    have e1 : (l.drop (i + 1)).getD p default = l.getD (i + 1 + p) default := by simp [List.getD, List.getElem?_drop]
    rw [e1]
    exact h _ (by omega) (by omega)
  conv => lhs; rw [e]
  rw [List.reverse_append, List.reverse_cons, List.append_assoc, List.find?_append, hd]
  simp only [List.singleton_append, List.find?_cons, hm, Option.none_or]

set_option maxRecDepth 100000 in
set_option maxHeartbeats 1600000 in
theorem finds_any (sb tb n tc : Nat) (ga : Option Addr) (qa : Option Addr) (qc wc : Nat) (s : Sx) (t : Nat) (wd : Nat) (ht : t < n) (_hn : n ≤ 4) (hw : wd < s.words.length) (_hwl : s.words.length ≤ 64) (l : List Wt) (HL : Hid ((thOf s t).wait = l)) (_hl : l.length ≤ 100) (w : World) (h5 : w.cell? ⟨sb, 5, none⟩ = some (.slice (some ⟨tb, 0, none⟩) n tc)) (h6 : w.cell? ⟨sb, 6, none⟩ = some (.slice ga s.words.length wc)) (hg : ∃ b o, ga = some ⟨b, o, none⟩ ∧ w.cell? ⟨b, o + wd, none⟩ = some (.int .i64 (s.words.getD wd 0))) (hqv : w.cell? ⟨tb, t * 3 + 2, none⟩ = some (.slice qa l.length qc)) (hq : WIn w qa l) :
    Calls Tryz.prog 98 #[.pointer (some ⟨sb, 0, none⟩), .int .i64 t, .int .i64 wd] w fun e w' => e = .returned (.int .i64 (findsW s t wd)) ∧ w' = w := by
  obtain ⟨gb, go, rfl, hgc⟩ := hg
  obtain ⟨r, hr⟩ : ∃ r, findsW s t wd = r := ⟨_, rfl⟩
  have HR : Hid (findsW s t wd = r) := hr
  rw [hr]
  clear hr
  obtain ⟨v0, e0⟩ : ∃ v, s.words.getD wd 0 = v := ⟨_, rfl⟩
  have HV0 : Hid (s.words.getD wd 0 = v0) := e0
  rw [e0] at hgc
  clear e0
  go_enter Tryz.func98, Tryz.ntmps98
  go_wp2
  go_loopw [8] (fun i wr => ∃ j : Nat, j ≤ l.length ∧ i = .int .i64 ((j : Int) - 1) ∧ Hid (∀ p, j ≤ p → p < l.length → (!(l.getD p default).lk && decide ((l.getD p default).wh = (wd : Int))) = false) ∧ w = wr) (fun i _ => (intOf i + 1).toNat)
  case atStart => exact ⟨l.length, Nat.le_refl _, by go_num, fun p h1 h2 => absurd h1 (by omega), rfl⟩
  case round =>
    obtain ⟨j, hj, rfl, HJ, rfl⟩ := hrel
    have hbr := Below.refl w.heap.size w
    have h6r := (hbr.cell (lt_of_cell h6)).trans h6
    have hgr := (hbr.cell (lt_of_cell hgc)).trans hgc
    have hqr := hq.below hbr
    match j, hj, HJ with
    | 0, _, HJ =>
      obtain rfl : r = v0 := by
        have h := HR.out
        unfold findsW at h
        rw [HL.out, back_none fun p hp => HJ.out p (Nat.zero_le _) hp] at h
        rw [← h, ← HV0.out]
        simp
      go_wp2
      go_ret
      exact ⟨rfl, rfl⟩
    | m + 1, hj, HJ =>
      rw [show ((m + 1 : Nat) : Int) - 1 = (m : Int) by omega]
      obtain ⟨b, o, rfl, j0, j1, j2⟩ := hqr m (by omega)
      obtain ⟨lj, f1⟩ : ∃ v, (l.getD m default).lk = v := ⟨_, rfl⟩
      obtain ⟨wj, f2⟩ : ∃ v, (l.getD m default).wh = v := ⟨_, rfl⟩
      obtain ⟨vj, f3⟩ : ∃ v, (l.getD m default).what = v := ⟨_, rfl⟩
      have HF1 : Hid ((l.getD m default).lk = lj) := f1
      have HF2 : Hid ((l.getD m default).wh = wj) := f2
      have HF3 : Hid ((l.getD m default).what = vj) := f3
      rw [f1] at j0
      rw [f2] at j1
      rw [f3] at j2
      clear f1 f2 f3
      by_cases hit : lj = false ∧ wj = (wd : Int)
      · obtain ⟨rfl, rfl⟩ := hit
        obtain rfl : r = vj := by
          have h := HR.out
          unfold findsW at h
          rw [HL.out, back_some (i := m) (by omega) (by rw [HF1.out, HF2.out]; simp) (fun p h1 h2 => HJ.out p (by omega) h2)] at h
          rw [← h, ← HF3.out]
        go_wp2
        go_ret
        exact ⟨rfl, rfl⟩
      · have hmiss : (!(l.getD m default).lk && decide ((l.getD m default).wh = (wd : Int))) = false := by
          rw [HF1.out, HF2.out]
          cases lj <;> simp_all
        have HMI := Hid.out (p := Hid _) hmiss
        clear hmiss
        cases lj with
        | true =>
          go_wp2
          go_roundw
          case rel =>
            refine ⟨m, by omega, by go_num, fun p h1 h2 => ?_, by first | rfl | trivial⟩
            rcases (by omega : m + 1 ≤ p ∨ p = m) with h | rfl
            · exact HJ.out p h h2
            · exact HMI.out
          case measure => simp [intOf]
        | false =>
          have hne : ¬ wj = (wd : Int) := fun h => hit ⟨rfl, h⟩
          clear hit
          go_wp2
          go_roundw
          case rel =>
            refine ⟨m, by omega, by go_num, fun p h1 h2 => ?_, by first | rfl | trivial⟩
            rcases (by omega : m + 1 ≤ p ∨ p = m) with h | rfl
            · exact HJ.out p h h2
            · exact HMI.out
          case measure => simp [intOf]
end

section
open Go.RowKit

attribute [local go_sem ↓] appS_eq
set_option maxRecDepth 100000 in
set_option maxHeartbeats 1600000 in
theorem clone_some (w : World) (sa : Addr) (l : List Int) (c : Nat) (h : SIs w (some sa) l) (hl : l.length * 8 ≤ 140737488355328) :
    Calls Tryz.prog 57 #[.slice (some sa) l.length c] w fun e w' => ∃ g cap, e = .returned (.slice (some ⟨g, 0, none⟩) l.length cap) ∧ w.heap.size ≤ g ∧ w'.ownsRow w.heap.size 3 1 (.slice (some ⟨g, 0, none⟩) l.length cap) l.length (intsV l) ∧ Below w.heap.size w w' := by
  obtain ⟨g, cap, w3, r1, r2, r3, r4, _⟩ := app_src w w.heap.size (Nat.le_refl _) (some sa) l c h hl
  have HF : Hid (Below w.heap.size w w3) := ((Below.refl _ _).alloc (Nat.le_refl _) _).grown r3 (by simp) (fun k hk => by simp at hk; omega)
  have hne := fun W => Lib.run_eql_slice_nil (P := Tryz.prog) W 23 3 (some sa) l.length c 0 0 Tryz.underlying23
  obtain ⟨m, hm⟩ : ∃ m, l.length = m := ⟨_, rfl⟩
  rw [hm] at r1 r2 hne ⊢
  clear h hl r3 hm
  go_enter Tryz.func57, Tryz.ntmps57
  go_wp2
  go_ret
  exact ⟨g, cap, rfl, r4, r2, HF.out⟩
set_option maxRecDepth 100000 in
set_option maxHeartbeats 1600000 in
theorem clone_nil (w : World) : Calls Tryz.prog 57 #[nilV] w fun e w' => e = .returned nilV ∧ w = w' := by
  have hne := fun W => Lib.run_eql_slice_nil (P := Tryz.prog) W 23 3 none 0 0 0 0 Tryz.underlying23
  go_enter Tryz.func57, Tryz.ntmps57
  go_wp2
  go_ret
  exact ⟨rfl, rfl⟩
/-- A copy of a list. -/
theorem clone_any (w : World) (sa : Option Addr) (l : List Int) (c : Nat) (h : SIs w sa l) (hnil : sa = none → l = [] ∧ c = 0) (hl : l.length * 8 ≤ 140737488355328) :
    Calls Tryz.prog 57 #[.slice sa l.length c] w fun e w' => ∃ a cap, e = .returned (.slice a l.length cap) ∧ w'.ownsRow w.heap.size 3 1 (.slice a l.length cap) l.length (intsV l) ∧ Below w.heap.size w w' := by
  cases sa with
  | none =>
    obtain ⟨rfl, rfl⟩ := hnil rfl
    refine (clone_nil w).mono fun e w' h => ⟨none, 0, h.1, World.ownsRow_nil _ _ _ _, ?_⟩
    rw [← h.2]; exact Below.refl _ _
  | some a => exact (clone_some w a l c h hl).mono fun e w' ⟨g, cap, h1, _, h3, h4⟩ => ⟨_, cap, h1, h3, h4⟩
end

section
open Go.RowKit

theorem ret3 {a b c x y z : Int} (h : (x, y, z) = (a, b, c)) : Ending.returned (ints3 a b c) = .returned (ints3 x y z) := by
  simp only [Prod.mk.injEq] at h
  obtain ⟨rfl, rfl, rfl⟩ := h
  rfl

set_option maxHeartbeats 1000000 in
theorem check_sizes (ca : Option Addr) (n cc : Nat) (wa : Option Addr) (m wc : Nat) (lk rg : Int) (s : Int) (HS : Hid (s = sizesE n m lk rg)) (h0 : (s != 0) = true) (w : World) :
    Calls Tryz.prog 23 #[prgV ca n cc wa m wc lk rg] w fun e w' => e = .returned (ints3 s 0 0) ∧ Below w.heap.size w w' := by
  go_enter Tryz.func23, Tryz.ntmps23
  go_wp2_with (first | (go_at_call 44; refine (checkSizes_any _ _ _ _ _ _ _ _ _).mono ?_; rintro e w1 ⟨rfl, hb1⟩; rw [← HS.out]; have hbx := (boxes_made w ca n cc wa m wc lk rg 25 30).below hb1; obtain ⟨hsz, p0, p1, p2, p3, r0, r1, r2, f0, f1, f2⟩ := hbx))
  exact bodyPost_ret (v := ints3 s 0 0) (by simp [results, Tryz.results23, go_sem, r0, r1, r2]) rfl
    ⟨rfl, ((((((Below.refl _ _).alloc (Nat.le_refl _) _).alloc (by simp) _).trans (hb1.mono (by simp; omega))).setCell (by simp) _).setCell (by simp) _).setCell (by simp) _⟩

theorem shapes_some (w : World) :
    Calls Tryz.prog 45 #[] w fun e w' => e = .returned (.map (some (w.heap.size + 1))) ∧ w'.heap[w.heap.size + 1]? = some (.map shapesArr 18) ∧ Below w.heap.size w w' := by
  refine (shapes_any w).mono ?_
  rintro e w' ⟨rfl, rfl⟩
  exact ⟨rfl, by simpa using (MapKept.heap_alloc (w.alloc (.cells #[.int .i64 1, .int .i64 1, .int .i64 1] 157)) (.map shapesArr 18)).1, ((Below.refl _ _).alloc (Nat.le_refl _) _).alloc (by simp) _⟩

set_option maxHeartbeats 1000000 in
theorem check_go (ca : Option Addr) (n cc : Nat) (wa : Option Addr) (m wc : Nat) (lk rg : Int) (A : Nat → Option Addr) (L C : Nat → Nat) (X : Nat → Nat → Nat → Int) (s x y z : Int) (HS : Hid (s = sizesE n m lk rg)) (h0 : (s != 0) = false)
    (HR : Hid (firstThread (thr rg m lk L X) n 0 = (x, y, z))) (w : World) (hp : PIn w ca n A L C X) :
    Calls Tryz.prog 23 #[prgV ca n cc wa m wc lk rg] w fun e w' => e = .returned (ints3 x y z) ∧ Below w.heap.size w w' := by
  go_enter Tryz.func23, Tryz.ntmps23
  go_wp2_with (first | (go_at_call 44; refine (checkSizes_any _ _ _ _ _ _ _ _ _).mono ?_; rintro e w1 ⟨rfl, hb1⟩; rw [← HS.out]; have hbx := (boxes_made w ca n cc wa m wc lk rg 25 30).below hb1) | (go_at_call 45; refine (shapes_some _).mono ?_; rintro e w2 ⟨rfl, hmap, hb2⟩; have hby := hbx.below hb2; obtain ⟨hsz, p0, p1, p2, p3, r0, r1, r2, f0, f1, f2⟩ := hby))
  have hp2 : PIn w2 ca n A L C X := hp.below ((((Below.refl _ _).alloc (Nat.le_refl _) _).alloc (by simp) _).trans ((hb1.mono (by simp; omega)).trans (hb2.mono (Nat.le_trans (by omega) hbx.size))))
  have HB2 : Below w.heap.size w w2 := ((((Below.refl _ _).alloc (Nat.le_refl _) _).alloc (by simp) _).trans ((hb1.mono (by simp; omega)).trans (hb2.mono (Nat.le_trans (by omega) hbx.size))))
  have hmb : w1.heap.size + 1 < w2.heap.size := by
    rcases Nat.lt_or_ge (w1.heap.size + 1) w2.heap.size with h1 | h1
    · exact h1
    · rw [Array.getElem?_eq_none h1] at hmap; cases hmap
  have hby := hbx.below hb2
  have hn := hp.num
  clear hp hb1 hb2 hbx hsz p0 p1 p2 p3 r0 r1 r2 f0 f1 f2
  have HM : Hid (w2.heap[w1.heap.size + 1]? = some (.map shapesArr 18)) := hmap
  clear hmap
  go_loopw [21] (fun i wr => ∃ k : Nat, k ≤ n ∧ i = .int .i64 k ∧ Below w2.heap.size w2 wr ∧ firstThread (thr rg m lk L X) (n - k) k = (x, y, z)) (fun i _ => n - (intOf i).toNat)
  case atStart => exact ⟨0, Nat.zero_le _, rfl, Below.refl _ _, HR.out⟩
  case round =>
    obtain ⟨k, hk, rfl, hbr, hr⟩ := hrel
    have HK : Hid (firstThread (thr rg m lk L X) (n - k) k = (x, y, z)) := hr
    clear hr
    by_cases hlt : k < n
    · obtain ⟨cb, co, rfl, hcell⟩ := (hp2.below hbr).code k hlt
      by_cases h400 : 400 < L k
      · have hend : (x, y, z) = (1, (k : Int), 0) := by rw [← HK.out, firstThread_hit hlt (by unfold thr; rw [if_pos h400])]
        obtain ⟨hsz, p0, p1, p2, p3, r0, r1, r2, f0, f1, f2⟩ := hby.below hbr
        have HE : Hid ((x, y, z) = (1, (k : Int), 0)) := hend
        clear hend
        go_wp2
        exact bodyPost_ret (v := ints3 1 k 0) (by simp [results, Tryz.results23, go_sem, r0, r1, r2]) rfl
          ⟨ret3 HE.out, (((HB2.trans (hbr.mono HB2.size)).setCell (by simp) _).setCell (by simp) _).setCell (by simp) _⟩
      · have hl : L k ≤ 400 := by omega
        rcases Nat.eq_zero_or_pos (L k) with hz | hpos
        · have HZ : Hid (L k = 0) := hz
          clear hz
          obtain ⟨hsz, p0, p1, p2, p3, r0, r1, r2, f0, f1, f2⟩ := hby.below hbr
          go_wp2_with (first | (go_at_call 46; refine (limitsOf_any _ _ _ _ _ _ _ _ _ _ _ hl _).mono ?_; rintro e w3 ⟨rfl, hb3⟩))
          have hb4 : Below wr.heap.size wr (w3.alloc (.cells #[.int .i64 1, .int .i64 rg, .int .i64 m, .int .i64 lk, .int .i64 (L k + 1), .int .i64 0] 98)) := hb3.alloc hb3.size _
          have hs3 := hb3.size
          clear hsz p0 p1 p2 p3 r0 r1 r2 f0 f1 f2 hcell
          go_loopw [36] (fun i wi => ∃ j : Nat, j ≤ L k ∧ i = .int .i64 j ∧ Below (w3.heap.size + 1) (w3.alloc (.cells #[.int .i64 1, .int .i64 rg, .int .i64 m, .int .i64 lk, .int .i64 (L k + 1), .int .i64 0] 98)) wi ∧ firstBad (fun i => ordE rg m lk (L k) (X k i 0) (X k i 1) (X k i 2) (X k i 3)) (L k - j) j = thr rg m lk L X k) (fun i _ => L k - (intOf i).toNat)
          case atStart => exact ⟨0, Nat.zero_le _, rfl, Below.refl _ _, by unfold thr; rw [if_neg h400]; rfl⟩
          case round =>
            obtain ⟨j, hj, rfl, hbi, hfj⟩ := hrel
            have HF : Hid (firstBad (fun i => ordE rg m lk (L k) (X k i 0) (X k i 1) (X k i 2) (X k i 3)) (L k - j) j = thr rg m lk L X k) := hfj
            clear hfj
            have hsi : w3.heap.size + 1 ≤ wr.heap.size := by have := hbi.size; simpa using this
            have hbri := hb4.trans (hbi.mono (by omega))
            have hb2i : Below w2.heap.size w2 wr := hbr.trans (hbri.mono hbr.size)
            by_cases hjl : j < L k
            · exact absurd hjl (by have := HZ.out; omega)
            · have hth : thr rg m lk L X k = none := by rw [← HF.out, firstBad_end (by omega)]
              have HK2 : Hid (firstThread (thr rg m lk L X) (n - (k + 1)) (k + 1) = (x, y, z)) := by rw [← firstThread_step hlt hth]; exact HK.out
              clear hth HK HF
              go_wp2
              go_roundw
              case rel => exact ⟨k + 1, by omega, by go_num, hb2i, HK2.out⟩
              case measure => simp [intOf]; omega
        · obtain ⟨ab, ao, hA⟩ : ∃ ab ao, A k = some ⟨ab, ao, none⟩ := let ⟨ab, ao, h, _⟩ := hp2.ord k 0 hlt hpos; ⟨ab, ao, h⟩
          rw [hA] at hcell
          obtain ⟨hsz, p0, p1, p2, p3, r0, r1, r2, f0, f1, f2⟩ := hby.below hbr
          go_wp2_with (first | (go_at_call 46; refine (limitsOf_any _ _ _ _ _ _ _ _ _ _ _ hl _).mono ?_; rintro e w3 ⟨rfl, hb3⟩))
          have hb4 : Below wr.heap.size wr (w3.alloc (.cells #[.int .i64 1, .int .i64 rg, .int .i64 m, .int .i64 lk, .int .i64 (L k + 1), .int .i64 0] 98)) := hb3.alloc hb3.size _
          have hs3 := hb3.size
          clear hsz p0 p1 p2 p3 r0 r1 r2 f0 f1 f2 hcell
          go_loopw [36] (fun i wi => ∃ j : Nat, j ≤ L k ∧ i = .int .i64 j ∧ Below (w3.heap.size + 1) (w3.alloc (.cells #[.int .i64 1, .int .i64 rg, .int .i64 m, .int .i64 lk, .int .i64 (L k + 1), .int .i64 0] 98)) wi ∧ firstBad (fun i => ordE rg m lk (L k) (X k i 0) (X k i 1) (X k i 2) (X k i 3)) (L k - j) j = thr rg m lk L X k) (fun i _ => L k - (intOf i).toNat)
          case atStart => exact ⟨0, Nat.zero_le _, rfl, Below.refl _ _, by unfold thr; rw [if_neg h400]; rfl⟩
          case round =>
            obtain ⟨j, hj, rfl, hbi, hfj⟩ := hrel
            have HF : Hid (firstBad (fun i => ordE rg m lk (L k) (X k i 0) (X k i 1) (X k i 2) (X k i 3)) (L k - j) j = thr rg m lk L X k) := hfj
            clear hfj
            have hsi : w3.heap.size + 1 ≤ wr.heap.size := by have := hbi.size; simpa using this
            have hbri := hb4.trans (hbi.mono (by omega))
            have hb2i : Below w2.heap.size w2 wr := hbr.trans (hbri.mono hbr.size)
            by_cases hjl : j < L k
            · obtain ⟨b', o', hA', c0, c1, c2, c3⟩ := (hp2.below hb2i).ord k j hlt hjl
              obtain ⟨rfl, rfl⟩ : b' = ab ∧ o' = ao := by rw [hA] at hA'; simpa [eq_comm] using hA'
              clear hA'
              have l0 : ∀ o, (wr.alloc o).cell? ⟨w3.heap.size, 0, none⟩ = some (.int .i64 1) := fun o => (World.cell?_alloc_lt wr o _ (by show w3.heap.size < _; omega)).trans ((hbi.cell (p := ⟨w3.heap.size, 0, none⟩) (by simp)).trans (by go_simp))
              have l1 : ∀ o, (wr.alloc o).cell? ⟨w3.heap.size, 1, none⟩ = some (.int .i64 rg) := fun o => (World.cell?_alloc_lt wr o _ (by show w3.heap.size < _; omega)).trans ((hbi.cell (p := ⟨w3.heap.size, 1, none⟩) (by simp)).trans (by go_simp))
              have l2 : ∀ o, (wr.alloc o).cell? ⟨w3.heap.size, 2, none⟩ = some (.int .i64 m) := fun o => (World.cell?_alloc_lt wr o _ (by show w3.heap.size < _; omega)).trans ((hbi.cell (p := ⟨w3.heap.size, 2, none⟩) (by simp)).trans (by go_simp))
              have l3 : ∀ o, (wr.alloc o).cell? ⟨w3.heap.size, 3, none⟩ = some (.int .i64 lk) := fun o => (World.cell?_alloc_lt wr o _ (by show w3.heap.size < _; omega)).trans ((hbi.cell (p := ⟨w3.heap.size, 3, none⟩) (by simp)).trans (by go_simp))
              have l4 : ∀ o, (wr.alloc o).cell? ⟨w3.heap.size, 4, none⟩ = some (.int .i64 (L k + 1)) := fun o => (World.cell?_alloc_lt wr o _ (by show w3.heap.size < _; omega)).trans ((hbi.cell (p := ⟨w3.heap.size, 4, none⟩) (by simp)).trans (by go_simp))
              have l5 : ∀ o, (wr.alloc o).cell? ⟨w3.heap.size, 5, none⟩ = some (.int .i64 0) := fun o => (World.cell?_alloc_lt wr o _ (by show w3.heap.size < _; omega)).trans ((hbi.cell (p := ⟨w3.heap.size, 5, none⟩) (by simp)).trans (by go_simp))
              have hmi : ∀ o, (wr.alloc o).heap[w1.heap.size + 1]? = some (.map shapesArr 18) := fun o => by
                rw [Below.heap_alloc _ _ _ (Nat.lt_of_lt_of_le hmb hb2i.size), hb2i.block _ hmb]; exact HM.out
              obtain ⟨ev, hev⟩ : ∃ ev, ordE rg m lk (L k) (X k j 0) (X k j 1) (X k j 2) (X k j 3) = ev := ⟨_, rfl⟩
              have HE : Hid (ordE rg m lk (L k) (X k j 0) (X k j 1) (X k j 2) (X k j 3) = ev) := hev
              clear hev
              by_cases hE : ev = 0
              · have hne : (ev != 0) = false := by simpa using hE
                have HF2 : Hid (firstBad (fun i => ordE rg m lk (L k) (X k i 0) (X k i 1) (X k i 2) (X k i 3)) (L k - (j + 1)) (j + 1) = thr rg m lk L X k) := by rw [← firstBad_step hjl (HE.out.trans hE)]; exact HF.out
                clear hE HF
                go_wp2_with (first | (go_at_call 47; refine (checkOrder_any _ _ _ _ _ _ _ _ _ _ (hmi _)).mono ?_; rintro e w5 ⟨rfl, hb5⟩; rw [HE.out]))
                go_roundw
                case rel => exact ⟨j + 1, by omega, by go_num, hbi.trans (((Below.refl _ _).alloc hsi _).trans (hb5.mono (by simp; omega))), HF2.out⟩
                case measure => simp [intOf]; omega
              · have hne : (ev != 0) = true := by simpa using hE
                have HE2 : Hid ((x, y, z) = (ev, (k : Int), (j : Int))) := by
                  have := firstBad_hit (E := fun i => ordE rg m lk (L k) (X k i 0) (X k i 1) (X k i 2) (X k i 3)) hjl (by rw [HE.out]; exact hE)
                  rw [HF.out, HE.out] at this
                  show (x, y, z) = _
                  rw [← HK.out, firstThread_hit hlt this]
                clear hE HF HK
                go_wp2_with (first | (go_at_call 47; refine (checkOrder_any _ _ _ _ _ _ _ _ _ _ (hmi _)).mono ?_; rintro e w5 ⟨rfl, hb5⟩; rw [HE.out]; have hbx6 := ((hby.below hb2i).below ((Below.refl _ _).alloc (Nat.le_refl _) _)).below hb5; obtain ⟨hsz, p0, p1, p2, p3, r0, r1, r2, f0, f1, f2⟩ := hbx6))
                exact bodyPost_ret (v := ints3 ev k j) (by simp [results, Tryz.results23, go_sem, r0, r1, r2]) rfl
                  ⟨ret3 HE2.out, ((((HB2.trans (hb2i.mono HB2.size)).trans (((Below.refl _ _).alloc (by have := HB2.size; have := hb2i.size; omega) _).trans (hb5.mono (by have := HB2.size; have := hb2i.size; simp; omega)))).setCell (by simp) _).setCell (by simp) _).setCell (by simp) _⟩
            · have hth : thr rg m lk L X k = none := by rw [← HF.out, firstBad_end (by omega)]
              have HK2 : Hid (firstThread (thr rg m lk L X) (n - (k + 1)) (k + 1) = (x, y, z)) := by rw [← firstThread_step hlt hth]; exact HK.out
              clear hth HK HF
              go_wp2
              go_roundw
              case rel => exact ⟨k + 1, by omega, by go_num, hb2i, HK2.out⟩
              case measure => simp [intOf]; omega
    · have hend : (x, y, z) = (0, 0, 0) := by rw [← HK.out, firstThread_end (by omega)]
      obtain ⟨hsz, p0, p1, p2, p3, r0, r1, r2, f0, f1, f2⟩ := hby.below hbr
      have HE : Hid ((x, y, z) = (0, 0, 0)) := hend
      clear hend
      go_wp2
      exact bodyPost_ret (v := ints3 0 0 0) (by simp [results, Tryz.results23, go_sem, r0, r1, r2]) rfl
        ⟨ret3 HE.out, (((HB2.trans (hbr.mono HB2.size)).setCell (by simp) _).setCell (by simp) _).setCell (by simp) _⟩

/-- Check, of every program that lies in memory: it answers the first thing that is wrong, and nothing that was there has changed. -/
theorem check_any (ca : Option Addr) (n cc : Nat) (wa : Option Addr) (m wc : Nat) (lk rg : Int) (A : Nat → Option Addr) (L C : Nat → Nat) (X : Nat → Nat → Nat → Int) (x y z : Int) (HR : Hid (chk n L X m lk rg = (x, y, z))) (w : World) (hp : PIn w ca n A L C X) :
    Calls Tryz.prog 23 #[prgV ca n cc wa m wc lk rg] w fun e w' => e = .returned (ints3 x y z) ∧ Below w.heap.size w w' := by
  have h := HR.out
  unfold chk at h
  by_cases h0 : sizesE n m lk rg = 0
  · rw [if_neg (by simpa using h0)] at h
    exact check_go ca n cc wa m wc lk rg A L C X _ x y z rfl (by simpa using h0) h w hp
  · rw [if_pos h0] at h
    simp only [Prod.mk.injEq] at h
    obtain ⟨h1, rfl, rfl⟩ := h
    exact check_sizes ca n cc wa m wc lk rg x h1.symm (by rw [← h1]; simpa using h0) w
end

section
open Go.RowKit

set_option maxHeartbeats 1000000 in
theorem rcheck_size (ca : Option Addr) (n cc : Nat) (wa : Option Addr) (m wc : Nat) (lk rg : Int) (h : (n : Int) < 1 ∨ 4 < (n : Int) ∨ 64 < (m : Int)) (w : World) :
    Calls Tryz.prog 9 #[prgV ca n cc wa m wc lk rg] w fun e w' => e = .returned (ints3 1 0 0) ∧ Below w.heap.size w w' := by
  rcases (by omega : (n : Int) < 1 ∨ ((1 ≤ (n : Int) ∧ 4 < (n : Int)) ∨ ((1 ≤ (n : Int) ∧ (n : Int) ≤ 4) ∧ 64 < (m : Int)))) with h1 | h1 | h1
  all_goals
    clear h
    go_enter Tryz.func9, Tryz.ntmps9
    go_wp2
    exact bodyPost_ret (v := ints3 1 0 0) (by simp [results, Tryz.results9, go_sem]) rfl
      ⟨rfl, ((Below.refl _ _).alloc (Nat.le_refl _) _).alloc (by simp) _⟩

set_option maxHeartbeats 1000000 in
theorem rcheck_range (ca : Option Addr) (n cc : Nat) (wa : Option Addr) (m wc : Nat) (lk rg : Int) (h1 : 1 ≤ (n : Int) ∧ (n : Int) ≤ 4) (h2 : (m : Int) ≤ 64) (h : lk < 0 ∨ 4 < lk ∨ rg < 1 ∨ 200 < rg) (w : World) :
    Calls Tryz.prog 9 #[prgV ca n cc wa m wc lk rg] w fun e w' => e = .returned (ints3 3 0 0) ∧ Below w.heap.size w w' := by
  rcases (by omega : lk < 0 ∨ (0 ≤ lk ∧ 4 < lk) ∨ ((0 ≤ lk ∧ lk ≤ 4) ∧ rg < 1) ∨ ((0 ≤ lk ∧ lk ≤ 4) ∧ 1 ≤ rg ∧ 200 < rg)) with h3 | h3 | h3 | h3
  all_goals
    clear h
    go_enter Tryz.func9, Tryz.ntmps9
    go_wp2
    exact bodyPost_ret (v := ints3 3 0 0) (by simp [results, Tryz.results9, go_sem]) rfl
      ⟨rfl, ((Below.refl _ _).alloc (Nat.le_refl _) _).alloc (by simp) _⟩

/-- The kinds by their number. -/
def kj (x y z : Int) (k : Nat) : Int := if k = 0 then x else if k = 1 then y else z

theorem ks_spec {op x y z : Int} (h : kd op = some (x, y, z)) :
     (ks op).size ≤ 3 ∧ (∀ k (hk : k < (ks op).size), (1 ≤ kj x y z k ∧ kj x y z k ≤ 5) ∧ ((ks op)[k].toNat : Int) = letter (kj x y z k)) ∧ ∀ k, (ks op).size ≤ k → k < 3 → kj x y z k = 0 := by
  rcases op_cases op with h1 | rfl | rfl | rfl | rfl | rfl | rfl | rfl | rfl | rfl | rfl | rfl | rfl | rfl | rfl | rfl | rfl | rfl | rfl
  · rw [kd_out h1] at h; cases h
  all_goals
    simp only [kd] at h
    simp at h
    obtain ⟨rfl, rfl, rfl⟩ := h
    refine ⟨by decide, ?_, ?_⟩
    · intro k hk
      have hk' : k < 3 := Nat.lt_of_lt_of_le hk (by decide)
      rcases (by omega : k = 0 ∨ k = 1 ∨ k = 2) with rfl | rfl | rfl <;> first | exact absurd hk (by decide) | exact ⟨⟨by decide, by decide⟩, rfl⟩
    · intro k hk hk3
      rcases (by omega : k = 0 ∨ k = 1 ∨ k = 2) with rfl | rfl | rfl <;> first | exact absurd hk (by decide) | decide
end

end Go.Proofs.YtgofbkgfonlceabGreatDoor
