/-
  Lists of places, by the library: where one is; more behind others, in a list of its own.
  Lists of places, by the library: one list of two.
  All sets of places, handed on by the program.
-/
import Derived.Test.YtelckcpjmekgcadGreatDoorFApp
import Derived.Test.YtelckcpjmekgcadGreatDoorRMay
import Derived.Deep.RegionHeld3
import Derived.Lib.AppendZerosOnto
import Derived.Laws.StructEq
import Derived.Shelf.Abstract
import Derived.Shelf.RegionOpen
import Derived.OwnWalkIn
import Derived.TacticsInMore
import Derived.LoopNIn
import Derived.LoopIn
namespace Go.Proofs.YtelckcpjmekgcadGreatDoor
section
open Go.RowKit

/-- Two places are the same. -/
theorem eqPl (a b c d : Int) (w : World) : (Op.equalIn 10000 33 (.agg #[.int .i64 a, .int .i64 b]) (.agg #[.int .i64 c, .int .i64 d])).run Tryz.prog w = .ok (a == c && b == d) w := by
  have u3 := Tryz.underlying3
  have a3 := Tryz.isAgg3
  have z3 := Tryz.sizeOf3
  rw [show (10000 : Nat) = 9999 + 1 from rfl, Op.equalIn]
  simp only [Sem.run_bind, run_underlying Tryz.underlying33, Result.andThen_ok]
  simp only [Std.Legacy.Range.forIn_eq_forIn_range', Std.Legacy.Range.size, Nat.sub_zero, Nat.add_sub_cancel, Nat.div_one, List.range'_succ, List.range'_zero, List.forIn_cons, List.forIn_nil]
  go_simp
  by_cases h1 : a = c <;> by_cases h2 : b = d <;> simp [h1, h2]
attribute [local go_sem] eqPl
theorem pl_getD {l : List Pl} {k : Nat} {x : Pl} (hk : k < l.length) (h : l.getD k (0, 0) = x) : x ∈ l := by
  have : l.getD k (0, 0) = l[k] := by simp [List.getD, hk]
  rw [← h, this]
  exact List.getElem_mem _
set_option maxRecDepth 100000 in
set_option maxHeartbeats 800000 in
theorem pindex_any (w : World) (qa : Option Addr) (qc : Nat) (l : List Pl) (x : Pl) (hq : PlIn w qa l) (hl : l.length ≤ 100) :
    Calls Tryz.prog 52 #[.slice qa l.length qc, .agg #[.int .i64 (x.1 : Int), .int .i64 (x.2 : Int)]] w fun e w' => (∃ r : Int, e = .returned (.int .i64 r) ∧ (0 ≤ r ↔ x ∈ l)) ∧ Below w.heap.size w w' := by
  obtain ⟨n, hn⟩ : ∃ n, l.length = n := ⟨_, rfl⟩
  have HN : Hid (l.length = n) := hn
  rw [hn] at hl ⊢
  obtain ⟨t, i⟩ := x
  simp only
  have hq' := hq.below ((Below.refl w.heap.size w).alloc (Nat.le_refl _) (.cells #[.int .i64 (t : Int), .int .i64 (i : Int)] 33))
  have HB0 : Hid (∀ W, Below (w.heap.size + 1) (w.alloc (.cells #[.int .i64 (t : Int), .int .i64 (i : Int)] 33)) W → Below w.heap.size w W) := fun W h => ((Below.refl w.heap.size w).alloc (Nat.le_refl _) _).trans (h.mono (by omega))
  have HBX : Hid (∀ W, Below (w.heap.size + 1) (w.alloc (.cells #[.int .i64 (t : Int), .int .i64 (i : Int)] 33)) W → W.cell? ⟨w.heap.size, 0, none⟩ = some (.int .i64 (t : Int)) ∧ W.cell? ⟨w.heap.size, 1, none⟩ = some (.int .i64 (i : Int))) := fun W h => ⟨(h.cell (p := ⟨w.heap.size, 0, none⟩) (by show w.heap.size < _; omega)).trans (World.cell?_alloc_new _ _ _ _), (h.cell (p := ⟨w.heap.size, 1, none⟩) (by show w.heap.size < _; omega)).trans (World.cell?_alloc_new _ _ _ _)⟩
  have HQ : Hid (∀ W, Below (w.heap.size + 1) (w.alloc (.cells #[.int .i64 (t : Int), .int .i64 (i : Int)] 33)) W → PlIn W qa l) := fun W h => hq'.below (by rw [World.size_alloc]; exact h)
  clear hn hq hq'
  go_enter Tryz.func52, Tryz.ntmps52
  go_wp2
  go_loopw [8] (fun i' wr => ∃ k : Nat, k ≤ n ∧ i' = .int .i64 k ∧ Hid (∀ p, p < k → l.getD p (0, 0) ≠ (t, i)) ∧ Below (w.heap.size + 1) (w.alloc (.cells #[.int .i64 (t : Int), .int .i64 (i : Int)] 33)) wr) (fun i' _ => n - (intOf i').toNat)
  case atStart => exact ⟨0, Nat.zero_le _, rfl, fun p hp => absurd hp (Nat.not_lt_zero _), Below.refl _ _⟩
  case round =>
    obtain ⟨k, hk, rfl, HJ, hbr⟩ := hrel
    obtain ⟨d0, d1⟩ := HBX.out _ hbr
    by_cases hlt : k < n
    · obtain ⟨b, o, rfl, c0, c1⟩ := HQ.out _ hbr k (by rw [HN.out]; exact hlt)
      obtain ⟨y, hy⟩ : ∃ y, l.getD k (0, 0) = y := ⟨_, rfl⟩
      have HY : Hid (l.getD k (0, 0) = y) := hy
      rw [hy] at c0 c1
      clear hy
      obtain ⟨t', i'⟩ := y
      simp only at c0 c1
      by_cases he : ((t', i') : Pl) = (t, i)
      · simp only [Prod.mk.injEq] at he
        obtain ⟨rfl, rfl⟩ := he
        go_wp2
        go_region
        all_goals go_wp2
        all_goals go_ret
        all_goals refine ⟨⟨_, rfl, ?_⟩, (HB0.out _ hbr).drew⟩
        all_goals exact ⟨fun _ => pl_getD (by rw [HN.out]; exact hlt) HY.out, fun _ => by omega⟩
      · have HE : Hid (∀ p, p < k + 1 → l.getD p (0, 0) ≠ (t, i)) := fun p hp => by
          rcases (by omega : p < k ∨ p = k) with h | rfl
          · exact HJ.out p h
          · rw [HY.out]; exact he
        by_cases e1 : t = t'
        · subst e1
          have e3 : ¬ i = i' := fun e => he (by rw [e])
          have e4 : ((i : Int) == (i' : Int)) = false := beq_false_of_ne (by omega)
          clear he
          go_wp2
          go_region
          all_goals go_wp2
          all_goals go_roundw
          case rel => exact ⟨k + 1, by omega, by go_num, HE, hbr.drew⟩
          case measure => simp [intOf]; omega
        · clear he
          have e4 : ((t : Int) == (t' : Int)) = false := beq_false_of_ne (by omega)
          go_wp2
          go_region
          all_goals go_wp2
          all_goals go_roundw
          case rel => exact ⟨k + 1, by omega, by go_num, HE, hbr.drew⟩
          case measure => simp [intOf]; omega
    · go_wp2
      go_ret
      refine ⟨⟨_, rfl, ?_⟩, HB0.out _ hbr⟩
      refine ⟨fun h => absurd h (by decide), fun h => ?_⟩
      obtain ⟨p, hp, e⟩ := List.getElem_of_mem h
      have hpk : p < k := by have := HN.out; omega
      exact absurd (by simp [List.getD, List.getElem?_eq_getElem hp, e]) (HJ.out p hpk)

set_option maxRecDepth 100000 in
set_option maxHeartbeats 800000 in
theorem pcontains_any (w : World) (qa : Option Addr) (qc : Nat) (l : List Pl) (t i : Nat) (hq : PlIn w qa l) (hl : l.length ≤ 100) :
    Calls Tryz.prog 31 #[.slice qa l.length qc, .agg #[.int .i64 (t : Int), .int .i64 (i : Int)]] w fun e w' => e = .returned (.bool (decide ((t, i) ∈ l))) ∧ Below w.heap.size w w' := by
  have HI := Hid.out (p := Hid _) (fun W (e : Below w.heap.size w W) => pindex_any W qa qc l (t, i) (hq.below e) hl)
  obtain ⟨b, hb⟩ : ∃ b, decide ((t, i) ∈ l) = b := ⟨_, rfl⟩
  have HBB : Hid (decide ((t, i) ∈ l) = b) := hb
  rw [hb]
  obtain ⟨n, hn⟩ : ∃ n, l.length = n := ⟨_, rfl⟩
  rw [hn] at HI ⊢
  have HB0 : Hid (∀ o, Below w.heap.size w (w.alloc o)) := fun o => (Below.refl _ _).alloc (Nat.le_refl _) _
  clear hq hl hb hn
  go_enter Tryz.func31, Tryz.ntmps31
  go_wp2_with fail
  refine Calls.mono (HI.out _ (by first | exact Below.refl _ _ | exact HB0.out _)) ?_
  rintro e w1 ⟨⟨r, rfl, hr⟩, hb1⟩
  have HR := Hid.out (p := Hid _) hr
  clear hr
  go_wp2
  go_ret
  refine ⟨ret_bool ?_, ?_⟩
  · rw [← HBB.out]
    exact decide_eq_decide.2 HR.out
  · first | exact hb1 | exact (HB0.out _).trans (hb1.mono (by simp))
/-- Room for n places. -/
theorem grow_run (w : World) (n : Nat) (h0 : 0 < n) (hn : n ≤ 1000) : ∃ cap w', (∀ ty, (Builtin.append_ #[26, 3] ty #[.slice none 0 0, .int .i64 (n : Int)]).run Tryz.prog w = .ok (.slice (some ⟨w.heap.size, 0, none⟩) n cap) w') ∧ cap ≤ 9223372036854775807 ∧ OwnP w' w.heap.size (.slice (some ⟨w.heap.size, 0, none⟩) 0 cap) [] ∧ Below w.heap.size w w' := by
  obtain ⟨i, hi, hz0, hz1, hz2⟩ := info_is infoPl
  have hold : (Builtin.firstCells i.size 0 (.slice none 0 0)).run Tryz.prog w.drew = .ok (([] : List Value).toArray) w.drew := run_firstCells_none w.drew i.size 0 0 0
  have hfit : Builtin.nextslicecap (0 + n) 0 * i.bytes ≤ 281474976710656 := growslice_fits (by omega) (by rw [hz2]; omega)
  have h := fun ty => Lib.run_append_grow_zeros (P := Tryz.prog) w 26 3 ty 33 i _ .i64 .i64 Tryz.underlying26 Tryz.underlying3 hi hz0 none 0 0 [] hold n h0 (by rw [hz1]; omega) (by omega) (by omega) (by rw [hz2]; omega) hfit
  simp only [Nat.zero_add] at h
  have hcap := grownCap_le_maxLen w n 0 33 (by unfold maxLen; omega)
  have hge := grownCap_ge w n 0 33
  refine ⟨_, _, h, by unfold maxLen at hcap; omega, ⟨rfl, Or.inr ⟨w.heap.size, _, _, rfl, Nat.le_refl _, heap_alloc_new _ _, Nat.zero_le _, hcap, ?_, by simp [plV]⟩⟩, ?_⟩
  · simp only [Array.size_append, size_zeroCells, List.size_toArray, List.length_nil, Nat.zero_add]
    show n * 2 + (_ - n) * 2 = _ * 2
    omega
  · exact ((Below.refl _ _).drew).alloc (Nat.le_refl _) _
set_option maxRecDepth 100000 in
set_option maxHeartbeats 800000 in
theorem pgrow_any (w : World) (n : Nat) (h0 : 0 < n) (hn : n ≤ 1000) :
    Calls Tryz.prog 66 #[nilV, .int .i64 (n : Int)] w fun e w' => ∃ a cap, e = .returned (.slice a 0 cap) ∧ OwnP w' w.heap.size (.slice a 0 cap) [] ∧ Below w.heap.size w w' := by
  obtain ⟨cap, w', h1, h2, h3, h4⟩ := grow_run w n h0 hn
  have H3 : Hid (OwnP w' w.heap.size (.slice (some ⟨w.heap.size, 0, none⟩) 0 cap) [] ∧ Below w.heap.size w w') := ⟨h3, h4⟩
  have g1 : ¬ ((n : Int) < 0) := by omega
  have g2 : (n : Int) > 0 := by omega
  clear h3 h4
  go_enter Tryz.func66, Tryz.ntmps66
  go_wp2_with (at_builtin; refine Lib.wpList_append_run _ rfl _ _ _ _ rfl _ _ rfl rfl _ _ (h1 _) ?_)
  all_goals go_ret
  all_goals exact ⟨_, _, rfl, H3.out⟩
end

section
open Go.RowKit

/-- What two lists become, so far. -/
def catL (T R : List Pl) (k : Nat) : List Pl := if k = 0 then [] else if k = 1 then T else T ++ R
structure CatI (S : World) (T R : List Pl) (k : Nat) (W : World) (v : Value) : Prop where
  low : Below S.heap.size S W
  own : OwnP W S.heap.size v (catL T R k)
theorem CatI.more {S W : World} {T R : List Pl} {k : Nat} {v : Value} (h : CatI S T R k W v) (hk : k < 2) {sa : Option Addr} {c m : Nat} (hm : m = (if k = 0 then T else R).length) (hs : PlIn W sa (if k = 0 then T else R)) (h1 : T.length ≤ 100) (h2 : R.length ≤ 100) :
    ∃ a' c' w3, (AppS #[26, 26] 26 #[v, .slice sa m c]).run Tryz.prog W = .ok (.slice a' (catL T R (k + 1)).length c') w3 ∧ CatI S T R (k + 1) w3 (.slice a' (catL T R (k + 1)).length c') := by
  have hl : (catL T R k).length + (if k = 0 then T else R).length ≤ 1000000 := by
    unfold catL
    split
    · simp; omega
    · split
      · omega
      · omega
  obtain ⟨v', w3, r1, r2, r3, r4⟩ := app_pls h.own h.low.size sa c _ hs hl
  have e : catL T R k ++ (if k = 0 then T else R) = catL T R (k + 1) := by
    unfold catL
    rcases (by omega : k = 0 ∨ k = 1) with rfl | rfl <;> simp
  rw [e] at r2
  obtain ⟨a', c', rfl⟩ := r2.form
  rw [← hm] at r1
  exact ⟨a', c', w3, r1, (h.low.grown r3 h.low.size (fun q hq => (h.own.lt q hq).1)), r2⟩
attribute [local go_sem ↓] appS_eq in
set_option maxRecDepth 100000 in
set_option maxHeartbeats 1600000 in
theorem pconcat_any (w : World) (vb : Nat) (ta ra : Option Addr) (tc rc : Nat) (T R : List Pl) (h0 : w.cell? ⟨vb, 0, none⟩ = some (.slice ta T.length tc)) (h1 : w.cell? ⟨vb, 1, none⟩ = some (.slice ra R.length rc)) (hT : PlIn w ta T) (hR : PlIn w ra R) (hR0 : 0 < R.length) (hT1 : T.length ≤ 100) (hR1 : R.length ≤ 100) :
    Calls Tryz.prog 51 #[.slice (some ⟨vb, 0, none⟩) 2 2] w fun e w' => ∃ a c, e = .returned (.slice a (T ++ R).length c) ∧ OwnP w' w.heap.size (.slice a (T ++ R).length c) (T ++ R) ∧ Below w.heap.size w w' := by
  have HPL : Hid (PlIn w ta T ∧ PlIn w ra R ∧ T.length ≤ 100 ∧ R.length ≤ 100) := ⟨hT, hR, hT1, hR1⟩
  obtain ⟨m0, hm0⟩ : ∃ m, T.length = m := ⟨_, rfl⟩
  obtain ⟨m1, hm1⟩ : ∃ m, R.length = m := ⟨_, rfl⟩
  have HM : Hid (T.length = m0 ∧ R.length = m1) := ⟨hm0, hm1⟩
  rw [hm0] at h0 hT1
  rw [hm1] at h1 hR0 hR1
  have HG : Hid (Calls Tryz.prog 66 #[nilV, .int .i64 ((m0 : Int) + (m1 : Int))] w fun e w' => ∃ a cap, e = .returned (.slice a 0 cap) ∧ OwnP w' w.heap.size (.slice a 0 cap) [] ∧ Below w.heap.size w w') := by
    have := pgrow_any w (m0 + m1) (by omega) (by omega)
    rw [show ((m0 : Int) + (m1 : Int)) = ((m0 + m1 : Nat) : Int) by omega]
    exact this
  have HC : Hid (∀ V, Below w.heap.size w V → V.cell? ⟨vb, 0, none⟩ = some (.slice ta m0 tc) ∧ V.cell? ⟨vb, 1, none⟩ = some (.slice ra m1 rc)) := fun V hV => ⟨(hV.cell (lt_of_cell h0)).trans h0, (hV.cell (lt_of_cell h1)).trans h1⟩
  have hn0 : ¬ ((m0 : Int) < 0) := by omega
  have hn1 : ¬ ((m0 : Int) + (m1 : Int) < 0) := by omega
  clear hT hR hm0 hm1
  go_enter Tryz.func51, Tryz.ntmps51
  go_wp2
  go_loop [3, 11] (fun s i => (i = .int .i64 0 ∧ s = .int .i64 0) ∨ (i = .int .i64 1 ∧ s = .int .i64 (m0 : Int)) ∨ (i = .int .i64 2 ∧ s = .int .i64 ((m0 : Int) + (m1 : Int)))) (fun _ i => 2 - (intOf i).toNat)
  case atStart => exact .inl ⟨rfl, rfl⟩
  case round =>
    rcases hrel with ⟨rfl, rfl⟩ | ⟨rfl, rfl⟩ | ⟨rfl, rfl⟩
    · go_wp2
      go_round
      case rel => exact .inr (.inl ⟨rfl, rfl⟩)
      case measure => simp [intOf]
    · go_wp2
      go_round
      case rel => exact .inr (.inr ⟨rfl, rfl⟩)
      case measure => simp [intOf]
    · clear h0 h1
      go_wp2_with fail
      refine Calls.mono HG.out ?_
      rintro e w1 ⟨a1, cap1, rfl, ho1, hb1⟩
      have HI : Hid (CatI w T R 0 w1 (.slice a1 0 cap1)) := ⟨hb1, ho1⟩
      clear ho1 hb1 HG
      go_wp2
      go_loopw [6, 27] (fun v i wr => ∃ (k : Nat) (a : Option Addr) (l c : Nat), k ≤ 2 ∧ i = .int .i64 k ∧ v = .slice a l c ∧ Hid (l = (catL T R k).length ∧ CatI w T R k wr (.slice a l c))) (fun _ i _ => 2 - (intOf i).toNat)
      case atStart => exact ⟨0, a1, 0, cap1, by omega, rfl, rfl, rfl, HI.out⟩
      case round =>
        obtain ⟨k, a, l, c, hk, rfl, rfl, HK⟩ := hrel
        obtain ⟨h0, h1⟩ := HC.out wr HK.out.2.low
        have hpt := HPL.out.1.below HK.out.2.low
        have hpr := HPL.out.2.1.below HK.out.2.low
        rcases (by omega : k = 0 ∨ k = 1 ∨ k = 2) with rfl | rfl | rfl
        · obtain ⟨a', c', w3, hrun, hI⟩ := HK.out.2.more (by omega) (sa := ta) (c := tc) (m := m0) (by rw [if_pos rfl]; exact HM.out.1.symm) (by rw [if_pos rfl]; exact hpt) HPL.out.2.2.1 HPL.out.2.2.2
          have HI2 := Hid.out (p := Hid _) hI
          clear hI hpt hpr
          go_wp2
          go_roundw
          case rel => exact ⟨1, _, _, _, by omega, rfl, rfl, rfl, HI2.out⟩
          case measure => simp [intOf]
        · obtain ⟨a', c', w3, hrun, hI⟩ := HK.out.2.more (by omega) (sa := ra) (c := rc) (m := m1) (by rw [if_neg (by omega)]; exact HM.out.2.symm) (by rw [if_neg (by omega)]; exact hpr) HPL.out.2.2.1 HPL.out.2.2.2
          have HI2 := Hid.out (p := Hid _) hI
          clear hI hpt hpr
          go_wp2
          go_roundw
          case rel => exact ⟨2, _, _, _, by omega, rfl, rfl, rfl, HI2.out⟩
          case measure => simp [intOf]
        · clear hpt hpr h0 h1
          go_wp2
          go_ret
          obtain ⟨hl, hI⟩ := HK.out
          subst hl
          exact ⟨a, c, rfl, hI.own, hI.low⟩
end

section
open Go.RowKit Go.Shelf

attribute [local go_sem] Oper.semAt_some

/-- How a call that hands lists on comes back. -/
def ChQ (J : List (List Pl) → World → Prop) (Jx : World → Prop) (Tl : List (List Pl)) (W : World) (e : Ending) (W' : World) : Prop := (e = .returned (.bool true) ∧ J Tl W' ∧ Below W.heap.size W W') ∨ (e = .returned (.bool false) ∧ Jx W')
set_option maxRecDepth 100000 in
set_option maxHeartbeats 1600000 in
theorem choose_zero (B lp : Nat) (J : List (List Pl) → World → Prop) (Jx : World → Prop) (hY : YldOk B lp J Jx) (T : List Pl) (Tl : List (List Pl)) (ta ra : Option Addr) (tc rl rc : Nat) (W : World) (hT : PlIn W ta T) (hfar : ∀ b o, ta = some ⟨b, o, none⟩ → 0 < T.length → B ≤ b) (hJ : J (T :: Tl) W) :
    Calls Tryz.prog 29 #[.slice ta T.length tc, .slice ra rl rc, .int .i64 0, .func (.yield lp) #[] #[]] W (ChQ J Jx Tl W) := by
  obtain ⟨fn, tmps, assign, body, hy, hR⟩ := hY T Tl ta tc W hJ hT hfar
  clear hJ hT hfar
  refine (callsIn_wide (n := 1)).1 ?_
  refine callsIn_of_wp Tryz.func29 rfl trivial ?_ rfl
  simp only [Tryz.ntmps29, List.size_toArray, List.length_cons, List.length_nil, Nat.reduceAdd, Nat.reduceSub, Array.replicate_succ, Array.replicate_zero, List.push_toArray, List.append_toArray, List.nil_append, List.cons_append]
  gi_wp2
  refine hR.mono ?_
  rintro e W3 (⟨rfl, hJ3, hb3⟩ | ⟨rfl, hJx3⟩)
  · gi_wp2
    go_ret
    exact .inl ⟨rfl, hJ3, hb3⟩
  · gi_wp2
    go_ret
    exact .inr ⟨rfl, hJx3⟩
/-- One of the places; those behind it. -/
theorem slice_one (V : World) (rb ro rl rc k : Nat) (h : k < rc) : (Instr.slice 26 (.slice (some ⟨rb, ro, none⟩) rl rc) (some (.int .i64 (k : Int))) (some (.int .i64 ((k : Int) + 1))) none).run Tryz.prog V = .ok (.slice (some ⟨rb, ro + k * 2, none⟩) 1 (rc - k)) V := by
  rw [run_slice_lh (P := Tryz.prog) V 26 (some ⟨rb, ro, none⟩) rl rc (by kernel_rfl) .i64 .i64 (k : Int) ((k : Int) + 1) (by omega) (by omega) (by omega)]
  have e1 : (sizeOf (Tryz.prog.elem 26)).run Tryz.prog V = .ok 2 V := by kernel_rfl
  have e2 : ((k : Int) + 1).toNat = k + 1 := by omega
  have e3 : ¬ rc = k := by omega
  rw [e1]
  simp only [Result.andThen, sliced, Int.toNat_natCast, e2, if_neg e3, Option.map_some, Addr.add]
  simp
theorem slice_rest (V : World) (rb ro rl rc k : Nat) (h : k < rl) (hrc : rl ≤ rc) : ∃ ra2, (∀ V, (Instr.slice 26 (.slice (some ⟨rb, ro, none⟩) rl rc) (some (.int .i64 ((k : Int) + 1))) none none).run Tryz.prog V = .ok (.slice ra2 (rl - (k + 1)) (rc - (k + 1))) V) ∧ ∀ (R : List Pl), R.length = rl → PlIn V (some ⟨rb, ro, none⟩) R → PlIn V ra2 (R.drop (k + 1)) := by
  refine ⟨if rc = k + 1 then some ⟨rb, ro, none⟩ else some ⟨rb, ro + (k + 1) * 2, none⟩, fun V => ?_, fun R hl hR => ?_⟩
  · rw [run_slice_l (P := Tryz.prog) V 26 (some ⟨rb, ro, none⟩) rl rc (by kernel_rfl) .i64 ((k : Int) + 1) (by omega) (by omega)]
    have e1 : (sizeOf (Tryz.prog.elem 26)).run Tryz.prog V = .ok 2 V := by kernel_rfl
    have e2 : ((k : Int) + 1).toNat = k + 1 := by omega
    rw [e1]
    simp only [Result.andThen, sliced, e2, Option.map_some, Addr.add]
    rw [if_neg (by omega : ¬ (k + 1) * 2 = 0)]
  · by_cases e : rc = k + 1
    · have : R.drop (k + 1) = [] := List.drop_eq_nil_of_le (by omega)
      rw [this]
      exact plIn_nil _ _
    · rw [if_neg e]
      intro j hj
      rw [List.length_drop] at hj
      obtain ⟨b, o, e2, c1, c2⟩ := hR (k + 1 + j) (by omega)
      simp only [Option.some.injEq, Addr.mk.injEq, and_true] at e2
      obtain ⟨rfl, rfl⟩ := e2
      have e3 : (R.drop (k + 1)).getD j (0, 0) = R.getD (k + 1 + j) (0, 0) := by simp [List.getD, List.getElem?_drop]
      rw [e3]
      refine ⟨rb, ro + (k + 1) * 2, rfl, ?_, ?_⟩
      · rw [show ro + (k + 1) * 2 + j * 2 = ro + (k + 1 + j) * 2 by omega]; exact c1
      · rw [show ro + (k + 1) * 2 + j * 2 + 1 = ro + (k + 1 + j) * 2 + 1 by omega]; exact c2
set_option maxRecDepth 100000 in
set_option maxHeartbeats 1600000 in
theorem choose_any (B lp : Nat) (J : List (List Pl) → World → Prop) (Jx : World → Prop) (hY : YldOk B lp J Jx) (hM : ∀ Ls V V', J Ls V → Below V.heap.size V V' → J Ls V') : ∀ (n : Nat) (T R : List Pl) (Tl : List (List Pl)) (ta ra : Option Addr) (tc rc : Nat) (W : World), n ≤ 6 → T.length + n ≤ 20 → R.length ≤ 6 → R.length ≤ rc → B ≤ W.heap.size → PlIn W ta T → (∀ b o, ta = some ⟨b, o, none⟩ → 0 < T.length → B ≤ b) → PlIn W ra R → J ((chooseL n R).map (fun s => T ++ s) ++ Tl) W →
    Calls Tryz.prog 29 #[.slice ta T.length tc, .slice ra R.length rc, .int .i64 n, .func (.yield lp) #[] #[]] W (ChQ J Jx Tl W)
  | 0, T, R, Tl, ta, ra, tc, rc, W, _, _, _, _, _, hT, hfar, _, hJ => by
    have hJ' : J (T :: Tl) W := by
      rw [chooseL] at hJ
      simpa using hJ
    exact choose_zero B lp J Jx hY T Tl ta ra tc R.length rc W hT hfar hJ'
  | n + 1, T, R, Tl, ta, ra, tc, rc, W, hn, hTl, hRl, hrc, hBW, hT, _, hR, hJ => by
    have HREC : Hid (∀ V T' R' Tl' ta' ra' tc' rc', T'.length + n ≤ 20 → R'.length ≤ 6 → R'.length ≤ rc' → B ≤ V.heap.size → PlIn V ta' T' → (∀ b o, ta' = some ⟨b, o, none⟩ → 0 < T'.length → B ≤ b) → PlIn V ra' R' → J ((chooseL n R').map (fun s => T' ++ s) ++ Tl') V → Calls Tryz.prog 29 #[.slice ta' T'.length tc', .slice ra' R'.length rc', .int .i64 n, .func (.yield lp) #[] #[]] V (ChQ J Jx Tl' V)) := fun V T' R' Tl' ta' ra' tc' rc' h1 h2 h3 => choose_any B lp J Jx hY hM n T' R' Tl' ta' ra' tc' rc' V (by omega) h1 h2 h3
    obtain ⟨tl, htl⟩ : ∃ k, T.length = k := ⟨_, rfl⟩
    obtain ⟨rl, hrl⟩ : ∃ k, R.length = k := ⟨_, rfl⟩
    have HT : Hid (PlIn W ta T ∧ PlIn W ra R ∧ T.length = tl ∧ R.length = rl) := ⟨hT, hR, htl, hrl⟩
    have HJ := Hid.out (p := Hid _) hJ
    have HM := Hid.out (p := Hid _) hM
    rw [htl] at hTl
    rw [hrl] at hRl hrc
    rw [htl, hrl]
    obtain ⟨m, hm⟩ : ∃ m : Int, ((n + 1 : Nat) : Int) = m := ⟨_, rfl⟩
    have hm0 : (m == 0) = false := beq_false_of_ne (by omega)
    have hm1 : IntKind.i64.wrap (m - 1) = (n : Int) := by rw [IntKind.wrap_i64]; omega
    rw [hm]
    clear hT hR htl hrl hJ hY hM hm
    go_enter Tryz.func29, Tryz.ntmps29
    go_wp2
    go_loopw [17] (fun i wr => ∃ k : Nat, k ≤ rl ∧ i = .int .i64 k ∧ Hid (J ((chooseL (n + 1) (R.drop k)).map (fun s => T ++ s) ++ Tl) wr ∧ Below W.heap.size W wr)) (fun i _ => rl - (intOf i).toNat)
    case atStart => exact ⟨0, Nat.zero_le _, rfl, HJ.out, Below.refl _ _⟩
    case round =>
      obtain ⟨k, hk, rfl, HK⟩ := hrel
      by_cases hlt : k < rl
      · obtain ⟨rb, ro, rfl, cx, cy⟩ := HT.out.2.1 k (by rw [HT.out.2.2.2]; exact hlt)
        have HX := Hid.out (p := Hid _) (And.intro cx cy)
        clear cx cy
        go_wp2
        have hs1 := fun V => slice_one V rb ro rl rc k (by omega)
        obtain ⟨ra2, hs2, hpl2⟩ := slice_rest W rb ro rl rc k hlt hrc
        have hw1 : IntKind.i64.wrap ((k : Int) + 1) = (k : Int) + 1 := by rw [IntKind.wrap_i64]; omega
        obtain ⟨x, hx⟩ : ∃ x, R.getD k (0, 0) = x := ⟨_, rfl⟩
        have hdrop : R.drop k = x :: R.drop (k + 1) := by
          have hk' : k < R.length := by rw [HT.out.2.2.2]; exact hlt
          rw [List.drop_eq_getElem_cons hk']
          congr 1
          rw [← hx, List.getD_eq_getElem?_getD, List.getElem?_eq_getElem hk']
          rfl
        have HCAT : Hid (Calls Tryz.prog 51 #[.slice (some ⟨wr.heap.size, 0, none⟩) 2 2] (wr.alloc (.cells #[.slice ta tl tc, .slice (some ⟨rb, ro + k * 2, none⟩) 1 (rc - k)] 26)).drew fun e w' => ∃ a c, e = .returned (.slice a (tl + 1) c) ∧ Hid (PlIn w' a (T ++ [x]) ∧ Below wr.heap.size wr w' ∧ ∀ b o, a = some ⟨b, o, none⟩ → B ≤ b)) := by
          have hbA : Below wr.heap.size wr (wr.alloc (.cells #[.slice ta tl tc, .slice (some ⟨rb, ro + k * 2, none⟩) 1 (rc - k)] 26)).drew := ((Below.refl _ _).alloc (Nat.le_refl _) _).drew
          have hbW := HK.out.2.trans (hbA.mono HK.out.2.size)
          have h0 : (wr.alloc (.cells #[.slice ta tl tc, .slice (some ⟨rb, ro + k * 2, none⟩) 1 (rc - k)] 26)).drew.heap[wr.heap.size]? = some (.cells #[.slice ta tl tc, .slice (some ⟨rb, ro + k * 2, none⟩) 1 (rc - k)] 26) := heap_alloc_new _ _
          have hR1 : PlIn (wr.alloc (.cells #[.slice ta tl tc, .slice (some ⟨rb, ro + k * 2, none⟩) 1 (rc - k)] 26)).drew (some ⟨rb, ro + k * 2, none⟩) [x] := fun q hq => by
            obtain rfl : q = 0 := by simp at hq; omega
            have c1 := (hbW.cell (lt_of_cell HX.out.1)).trans HX.out.1
            have c2 := (hbW.cell (lt_of_cell HX.out.2)).trans HX.out.2
            rw [hx] at c1 c2
            exact ⟨rb, ro + k * 2, rfl, c1, c2⟩
          have hcat := pconcat_any _ wr.heap.size ta (some ⟨rb, ro + k * 2, none⟩) tc (rc - k) T [x] (by rw [HT.out.2.2.1]; exact box_cell h0 rfl) (box_cell h0 rfl) (HT.out.1.below hbW) hR1 (by simp) (by rw [HT.out.2.2.1]; omega) (by simp)
          refine Calls.mono hcat ?_
          rintro e w' ⟨a, c, rfl, ho, hb⟩
          have hlen : (T ++ [x]).length = tl + 1 := by rw [List.length_append, HT.out.2.2.1]; rfl
          rw [hlen] at ho
          refine ⟨a, c, by rw [hlen], ?_, hbA.trans (hb.mono hbA.size), fun b o e => ?_⟩
          · rw [← hlen] at ho
            exact ho.pl
          · have h1 := (ho.lt b (by rw [e]; rfl)).1
            have h2 := hbW.size
            have h3 : wr.heap.size ≤ (wr.alloc (.cells #[.slice ta tl tc, .slice (some ⟨rb, ro + k * 2, none⟩) 1 (rc - k)] 26)).drew.heap.size := hbA.size
            omega
        have HCH : Hid (∀ w1 a c, Hid (PlIn w1 a (T ++ [x]) ∧ Below wr.heap.size wr w1 ∧ ∀ b o, a = some ⟨b, o, none⟩ → B ≤ b) → Calls Tryz.prog 29 #[.slice a (tl + 1) c, .slice ra2 (rl - (k + 1)) (rc - (k + 1)), .int .i64 n, .func (.yield lp) #[] #[]] w1 fun e w' => ∃ b : Bool, e = .returned (.bool b) ∧ Hid ((b = true → J ((chooseL (n + 1) (R.drop (k + 1))).map (fun s => T ++ s) ++ Tl) w' ∧ Below W.heap.size W w') ∧ (b = false → Jx w'))) := fun w1 a c h1 => by
          have hbW := HK.out.2.trans (h1.out.2.1.mono HK.out.2.size)
          have hlen : (T ++ [x]).length = tl + 1 := by rw [List.length_append, HT.out.2.2.1]; rfl
          have hlen2 : (R.drop (k + 1)).length = rl - (k + 1) := by rw [List.length_drop, HT.out.2.2.2]
          have hJ1 := HM.out _ _ _ HK.out.1 h1.out.2.1
          rw [hdrop, chooseL] at hJ1
          have h := HREC.out w1 (T ++ [x]) (R.drop (k + 1)) ((chooseL (n + 1) (R.drop (k + 1))).map (fun s => T ++ s) ++ Tl) a ra2 c (rc - (k + 1)) (by rw [hlen]; omega) (by rw [hlen2]; omega) (by rw [hlen2]; omega) (by have := hbW.size; omega) h1.out.1 (fun b o e _ => h1.out.2.2 b o e) ((hpl2 R HT.out.2.2.2 HT.out.2.1).below hbW) (by simpa [List.map_append, List.append_assoc, Function.comp_def] using hJ1)
          rw [hlen, hlen2] at h
          refine Calls.mono h ?_
          rintro e w' (⟨rfl, g1, g2⟩ | ⟨rfl, g1⟩)
          · exact ⟨true, rfl, fun _ => ⟨g1, hbW.trans (g2.mono hbW.size)⟩, fun h => by cases h⟩
          · exact ⟨false, rfl, fun h => (by cases h), fun _ => g1⟩
        clear hx hdrop hpl2 HREC HX
        go_region_with (first | (go_at_call 51; refine Calls.mono HCAT.out ?_; rintro e w1 ⟨a1, c1, rfl, H1⟩) | (go_at_call 29; refine Calls.mono (HCH.out _ _ _ H1) ?_; rintro e w2 ⟨b2, rfl, H2⟩))
        all_goals cases b2 with
          | true =>
            have HG : Hid (J ((chooseL (n + 1) (R.drop (k + 1))).map (fun s => T ++ s) ++ Tl) w2 ∧ Below W.heap.size W w2) := H2.out.1 rfl
            clear H2 HCH HCAT HK HT HJ HM
            go_wp2
            go_roundw
            case rel => exact ⟨k + 1, by omega, by go_num, HG⟩
            case measure => simp [intOf]; omega
          | false =>
            have HG : Hid (Jx w2) := H2.out.2 rfl
            clear H2 HCH HCAT HK HT HJ HM
            go_wp2
            go_ret
            exact .inr ⟨rfl, HG.out⟩
      · go_wp2
        go_ret
        have e : k = rl := by omega
        have hd : R.drop k = [] := List.drop_eq_nil_of_le (by rw [HT.out.2.2.2]; omega)
        have h2 := HK.out.1
        rw [hd, chooseL] at h2
        exact .inl ⟨rfl, h2, HK.out.2⟩
set_option maxRecDepth 100000 in
set_option maxHeartbeats 1600000 in
/-- All sets of places are handed on. -/
theorem sets1_any (w : World) (B : Nat) (pa : Option Addr) (pc : Nat) (P : List Pl) (hB : w.cell? ⟨B, 0, none⟩ = some (.slice pa P.length pc)) (hP : PlIn w pa P) (hl : P.length ≤ 6) (hc : P.length ≤ pc) :
    SetsOk 28 #[.pointer (some ⟨B, 0, none⟩)] (setsL P) w := fun lp J Jx W hW hM hY h0 => by
  obtain ⟨pl, hpl⟩ : ∃ k, P.length = k := ⟨_, rfl⟩
  have HCH : Hid (∀ V k, k ≤ pl → Below w.heap.size w V → J (setsF P (pl + 1 - k) k) V → Calls Tryz.prog 29 #[nilV, .slice pa pl pc, .int .i64 k, .func (.yield lp) #[] #[]] V fun e w' => ∃ b : Bool, e = .returned (.bool b) ∧ Hid ((b = true → J (setsF P (pl + 1 - (k + 1)) (k + 1)) w' ∧ Below w.heap.size w w') ∧ (b = false → Jx w'))) := fun V k hk hb hJ => by
    rw [show pl + 1 - k = (pl - k) + 1 by omega, setsF] at hJ
    have h := choose_any w.heap.size lp J Jx hY hM k [] P (setsF P (pl - k) (k + 1)) none pa 0 pc V (by omega) (by simp; omega) hl hc hb.size (plIn_nil _ _) (fun b o e => by cases e) (hP.below hb) (by simpa using hJ)
    rw [hpl] at h
    refine Calls.mono h ?_
    rintro e w' (⟨rfl, g1, g2⟩ | ⟨rfl, g1⟩)
    · exact ⟨true, rfl, fun _ => ⟨by rw [show pl + 1 - (k + 1) = pl - k by omega]; exact g1, hb.trans (g2.mono hb.size)⟩, fun h => by cases h⟩
    · exact ⟨false, rfl, fun h => (by cases h), fun _ => g1⟩
  have HJ0 : Hid (J (setsF P (pl + 1 - 0) 0) W ∧ Below w.heap.size w W) := ⟨by rw [← hpl]; exact h0, hW⟩
  have HB : Hid (∀ V, Below w.heap.size w V → V.cell? ⟨B, 0, none⟩ = some (.slice pa pl pc)) := fun V hV => by
    rw [← hpl]
    exact (hV.cell (lt_of_cell hB)).trans hB
  have hb0 := HB.out W hW
  rw [hpl] at hl
  clear hB hP hc hW hM hY h0 hpl
  go_enter Tryz.func28, Tryz.ntmps28
  go_wp2
  clear hb0
  go_loopw [7] (fun i wr => ∃ k : Nat, k ≤ pl + 1 ∧ i = .int .i64 k ∧ Hid (J (setsF P (pl + 1 - k) k) wr ∧ Below w.heap.size w wr)) (fun i _ => pl + 1 - (intOf i).toNat)
  case atStart => exact ⟨0, Nat.zero_le _, rfl, HJ0⟩
  case round =>
    obtain ⟨k, hk, rfl, HK⟩ := hrel
    by_cases hlt : k < pl + 1
    · have hb0 := HB.out wr HK.out.2
      go_wp2_with fail
      refine Calls.mono (HCH.out _ k (by omega) HK.out.2 HK.out.1) ?_
      rintro e w2 ⟨b2, rfl, H2⟩
      clear hb0
      cases b2 with
      | true =>
        have HG : Hid (J (setsF P (pl + 1 - (k + 1)) (k + 1)) w2 ∧ Below w.heap.size w w2) := H2.out.1 rfl
        clear H2 HCH HK HJ0
        go_wp2
        go_roundw
        case rel => exact ⟨k + 1, by omega, by go_num, HG⟩
        case measure => simp [intOf]; omega
      | false =>
        have HG : Hid (Jx w2) := H2.out.2 rfl
        clear H2 HCH HK HJ0
        go_wp2
        refine bodyPost_ret (results_none rfl _ _ _) rfl ?_
        exact ⟨⟨_, rfl⟩, .inr HG.out⟩
    · have e : k = pl + 1 := by omega
      have HG : Hid (J [] wr) := by
        have := HK.out.1
        rw [e, Nat.sub_self, setsF] at this
        exact this
      go_wp2
      go_end0
      exact ⟨⟨_, rfl⟩, .inl HG.out⟩
set_option maxRecDepth 100000 in
theorem sets_any (w : World) (pa : Option Addr) (pl pc : Nat) : Calls Tryz.prog 14 #[.slice pa pl pc] w fun e w' => e = .returned (.func (.func 28) #[] #[.pointer (some ⟨w.heap.size, 0, none⟩)]) ∧ w' = w.alloc (.cells #[.slice pa pl pc] 26) := by
  go_enter Tryz.func14, Tryz.ntmps14
  go_wp2
  go_ret
  exact ⟨rfl, rfl⟩
end

end Go.Proofs.YtelckcpjmekgcadGreatDoor
