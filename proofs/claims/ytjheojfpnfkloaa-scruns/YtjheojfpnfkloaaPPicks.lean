/-
  What can be picked in the program's run.
-/
import Derived.Test.YtjheojfpnfkloaaPPlayA
import Derived.Deep.RegionHeld3
namespace Go.Proofs.Ytjheojfpnfkloaa
open Go.RowKit

def pickV (ts : List Nat) : List Value := ts.flatMap fun (t : Nat) => [Value.int .i64 (t : Int), .int .i64 (-1)]
theorem pickV_len (ts : List Nat) : (pickV ts).length = ts.length * 2 := by
  induction ts with
  | nil => rfl
  | cons a r ih => simp [pickV] at ih ⊢; omega
theorem pickV_at : ∀ {ts : List Nat} {i : Nat}, i < ts.length → (pickV ts)[i * 2]? = some (.int .i64 (ts.getD i 0 : Nat)) ∧ (pickV ts)[i * 2 + 1]? = some (.int .i64 (-1))
  | [], i, h => absurd h (Nat.not_lt_zero _)
  | a :: r, 0, _ => ⟨rfl, rfl⟩
  | a :: r, i + 1, h => by
    have := pickV_at (ts := r) (i := i) (by simpa using h)
    rw [show (i + 1) * 2 = i * 2 + 1 + 1 by omega]
    have e : pickV (a :: r) = .int .i64 (a : Int) :: .int .i64 (-1) :: pickV r := rfl
    rw [e, List.getElem?_cons_succ, List.getElem?_cons_succ, List.getElem?_cons_succ, List.getElem?_cons_succ]
    simpa using this
/-- A list of picks that is being made. -/
structure IsP (w : World) (B : Nat) (a : Option Addr) (len c : Nat) (ts : List Nat) : Prop where
  is : ts.length = len
  own : w.ownsRow B 88 2 (.slice a len c) len (pickV ts)
theorem IsP.nil (w : World) (B : Nat) : IsP w B none 0 0 [] := ⟨rfl, World.ownsRow_nil _ _ _ _⟩
theorem IsP.below {w w1 : World} {B : Nat} {a : Option Addr} {len c : Nat} {xs : List Nat} (h : IsP w B a len c xs) (hb : Below w.heap.size w w1) : IsP w1 B a len c xs := ⟨h.is, fam_keeps h.own (fun g hg => hb.block g (h.own.lt g hg).2)⟩
theorem infoPick : (Try.prog.info? 88).map (fun i => (i.zero, i.size, i.bytes)) = some (some (.agg #[.int .i64 0, .int .i64 0]), 2, 16) := by kernel_rfl
theorem cell_drewN {w : World} {a : Addr} {v : Value} {k : Nat} (h : w.cell? a = some v) : (w.drewN k).cell? a = some v := h

theorem frozen_set (w : World) (b o : Nat) (x : Value) : (w.setCell ⟨b, o, none⟩ x).frozen? ⟨b, o, none⟩ = w.frozen? ⟨b, o, none⟩ := by
  unfold World.frozen? World.setCell
  simp only [Array.getElem?_modify, if_true]
  cases h : w.heap[b]? with
  | none => simp
  | some ob => cases ob <;> simp
/-- One pick more. -/
theorem IsP.push {w W : World} {B : Nat} {a : Option Addr} {len c : Nat} {ts : List Nat} (h : IsP w B a len c ts) (hb : Below w.heap.size w W) (hB : B ≤ w.heap.size) (hlen : len ≤ 1000) (t : Nat) :
    ∃ g cap w3, (AppS #[84, 84] 84 #[.slice a len c, .slice (some ⟨W.heap.size, 0, none⟩) 1 1]).run Try.prog (W.alloc (.cells #[.int .i64 (t : Int), .int .i64 (-1)] 88)) = .ok (.slice (some ⟨g, 0, none⟩) (len + 1) cap) w3 ∧ IsP w3 B (some ⟨g, 0, none⟩) (len + 1) cap (ts ++ [t]) ∧ (W.alloc (.cells #[.int .i64 (t : Int), .int .i64 (-1)] 88)).grownBy w3 (Value.slice a len c).ownBlock := by
  obtain ⟨g, cap, w3, r1, r2, r3, _⟩ := app_row (T := 84) Try.underlying84 infoPick rfl (by omega) h.own hb hB 1 #[.int .i64 (t : Int), .int .i64 (-1)] rfl (by simp [Value.oneCell']) (by omega) (by omega) (by omega)
  refine ⟨g, cap, w3, r1, ⟨by simp [h.is], ?_⟩, r3⟩
  have e : pickV ts ++ #[Value.int .i64 (t : Int), .int .i64 (-1)].toList = pickV (ts ++ [t]) := by simp [pickV]
  rw [← e]
  exact r2

/-- The threads below j that are able. -/
def ables (L : Nat → Nat) (X : Nat → Nat → Nat → Int) (s : Sx) (j : Nat) : List Nat := (List.range j).filter fun t => ableT L X s t
theorem ables_yes {L : Nat → Nat} {X : Nat → Nat → Nat → Int} {s : Sx} {j : Nat} (h : ableT L X s j = true) : ables L X s (j + 1) = ables L X s j ++ [j] := by
  unfold ables; rw [List.range_succ, List.filter_append]; simp [h]
theorem ables_no {L : Nat → Nat} {X : Nat → Nat → Nat → Int} {s : Sx} {j : Nat} (h : ableT L X s j = false) : ables L X s (j + 1) = ables L X s j := by
  unfold ables; rw [List.range_succ, List.filter_append]; simp [h]
theorem ables_len (L : Nat → Nat) (X : Nat → Nat → Nat → Int) (s : Sx) (j : Nat) : (ables L X s j).length ≤ j := by
  unfold ables
  have := List.length_filter_le (fun t => ableT L X s t) (List.range j)
  simpa using this
theorem moves_bare {L : Nat → Nat} {X : Nat → Nat → Nat → Int} {s : Sx} (h : ∀ t, t < s.ths.length → (thOf s t).wait = []) : movesX L X 0 s = (ables L X s s.ths.length).map fun (t : Nat) => 8 * (t : Int) := by
  have key : ∀ j, j ≤ s.ths.length → (List.range j).flatMap (movesT L X 0 s) = (ables L X s j).map fun (t : Nat) => 8 * (t : Int) := fun j => by
    induction j with
    | zero => intro _; rfl
    | succ j ih =>
      intro hj
      rw [List.range_succ, List.flatMap_append, ih (by omega)]
      have hw := h j (by omega)
      cases ha : ableT L X s j with
      | true => rw [ables_yes ha]; simp [movesT, hw, ha]
      | false => rw [ables_no ha]; simp [movesT, hw, ha]
  exact key _ (Nat.le_refl _)

attribute [local go_sem ↓] appS_eq
set_option maxRecDepth 100000 in
set_option maxHeartbeats 6400000 in
theorem picks_any (w : World) (B : Nat) (Q : Cd) (sb mb : Nat) (v : Rp → Value) (s : Sx) (ca : Option Addr) (X : Nat → Nat → Nat → Int) (n m lk rg : Nat) (h0 : 0 < n) (hs : QSt w B Q sb mb v s) (ho : SOk n Q.L m lk rg 0 s) (hc : COk n Q.L X m lk rg) (hp : PIn w ca n Q.A Q.L Q.C X) :
    Calls Try.prog 34 #[.pointer (some ⟨sb, 0, none⟩)] w fun e w' => ∃ a len c, e = .returned (.slice a len c) ∧ IsP w' w.heap.size a len c (ables Q.L X s n) ∧ Below w.heap.size w w' := by
  have hl := ho.ths
  have hN := hc.n4
  obtain ⟨tb, tc, hth, htb, _⟩ := hs.blk .thr (by show 0 < s.ths.length; omega)
  have c1 := hs.c1
  rw [hth] at c1
  change w.cell? ⟨sb, 1, none⟩ = some (.slice (some ⟨tb, 0, none⟩) s.ths.length tc) at c1
  rw [hl] at c1
  have c0 := hs.c0
  have mA := meth_able
  have mW := meth_waiting
  have c1u := cell_up c1
  go_enter Try.func34, Try.ntmps34
  go_wp2
  go_loopw [11] (fun i wr => ∃ (j : Nat) (a : Option Addr) (len c : Nat), j ≤ n ∧ i = .int .i64 j ∧ wr.cell? ⟨w.heap.size, 0, none⟩ = some (.slice a len c) ∧ wr.frozen? ⟨w.heap.size, 0, none⟩ = false ∧ Hid (IsP wr (w.heap.size + 1) a len c (ables Q.L X s j)) ∧ Below w.heap.size w wr ∧ w.heap.size < wr.heap.size) (fun i _ => n - (intOf i).toNat)
  case atStart => exact ⟨0, none, 0, 0, Nat.zero_le _, rfl, by go_simp, by go_simp, IsP.nil _ _, (Below.refl _ _).alloc (Nat.le_refl _) _, by simp⟩
  case round =>
    obtain ⟨j, a, len, c, hj, rfl, kl, kf, HI, hbr, hsz⟩ := hrel
    have c1r := (hbr.cell (lt_of_cell c1)).trans c1
    have c0r := (hbr.cell (lt_of_cell c0)).trans c0
    by_cases hlt : j < n
    · have hs1 := hs.below hbr
      have lsb : sb < wr.heap.size := lt_of_cell c1r
      have kb := cell_up c1r
      have kb0 := cell_up c0r
      have klu := cell_up kl
      have htl : j < s.ths.length := by omega
      have dc := hs1.code htb htl
      have dp := hs1.pc htb htl
      have dcu := cell_up dc
      have dpu := cell_up dp
      obtain ⟨W1, hW1⟩ : ∃ W : World, W = wr.alloc (.cells #[.int .i64 (j : Int)] 3) := ⟨_, rfl⟩
      have hsW := hs1.alloc (.cells #[.int .i64 (j : Int)] 3)
      have hbW : Below w.heap.size w (wr.alloc (.cells #[.int .i64 (j : Int)] 3)) := hbr.alloc (by omega) _
      have HTE : Hid (∀ W, W.heap = (wr.alloc (.cells #[.int .i64 (j : Int)] 3)).heap → Calls Try.prog 48 #[.pointer (some ⟨tb, j * 3, none⟩)] W fun e w' => e = .returned (.bool (endedT Q.L s j)) ∧ ∃ k, w' = W.drewN k) := fun W e =>
        tended_any W B Q sb mb v s tb j (hsW.same e) htb htl (by omega) (hc.L4 j hlt) (ho.pc j hlt)
      have HMET : Hid (∀ W (f : Value), Calls Try.prog 81 #[.pointer (some ⟨mb, 0, none⟩), .int .i64 (j : Int), f] W fun e w' => e = .returned (.tuple #[]) ∧ W = w') := fun W f => waiting_any mb _ f W
      rcases Nat.lt_or_ge (thOf s j).pc (Q.L j) with hmore | hend
      · obtain ⟨ob, oo, hA, x0, x1, x2, x3⟩ := hp.ord j (thOf s j).pc hlt hmore
        have hord := hc.ord j (thOf s j).pc hlt hmore
        rw [hA] at dc dcu
        have y0 := (hbr.cell (lt_of_cell x0)).trans x0
        have y1 := (hbr.cell (lt_of_cell x1)).trans x1
        have y2 := (hbr.cell (lt_of_cell x2)).trans x2
        have y3 := (hbr.cell (lt_of_cell x3)).trans x3
        have hEE : endedT Q.L s j = false := by unfold endedT; exact decide_eq_false (by omega)
        have HTE' : Hid (∀ W, W.heap = (wr.alloc (.cells #[.int .i64 (j : Int)] 3)).heap → Calls Try.prog 48 #[.pointer (some ⟨tb, j * 3, none⟩)] W fun e w' => e = .returned (.bool false) ∧ ∃ k, w' = W.drewN k) := fun W e => by
          have := HTE.out W e
          rwa [hEE] at this
        have hwt : (thOf s j).wait.length = 0 := by rw [ho.bare rfl j hlt]; rfl
        have hab := ableT_more (X := X) hmore
        rw [hwt] at hab
        have HAB : Hid (∀ W, W.heap = (wr.alloc (.cells #[.int .i64 (j : Int)] 3)).heap → Calls Try.prog 73 #[.pointer (some ⟨mb, 0, none⟩), .int .i64 (j : Int), ints4 (opT X s j 0) (opT X s j 1) (opT X s j 2) (opT X s j 3)] W fun e w' => e = .returned (.bool (ableT Q.L X s j)) ∧ Below W.heap.size W w') := fun W e => by
          have := pable_any W B Q sb mb v s (j : Int) (opT X s j 0) (opT X s j 1) (opT X s j 2) (opT X s j 3) (hsW.same e) (by rw [ho.own]; exact hc.lk4) (fun h17 => by
            have h18 : ordE rg m lk (Q.L j) (opT X s j 0) (opT X s j 1) (opT X s j 2) (opT X s j 3) = 0 := hord
            have := ok_lock (Or.inl h17) h18
            rw [ho.own]; exact this)
          rwa [← hab] at this
        obtain ⟨op, eop⟩ : ∃ x, opT X s j 0 = x := ⟨_, rfl⟩
        obtain ⟨na, ena⟩ : ∃ x, opT X s j 1 = x := ⟨_, rfl⟩
        obtain ⟨nb, enb⟩ : ∃ x, opT X s j 2 = x := ⟨_, rfl⟩
        obtain ⟨nc, enc⟩ : ∃ x, opT X s j 3 = x := ⟨_, rfl⟩
        rw [eop, ena, enb, enc] at HAB
        change wr.cell? ⟨ob, oo + (thOf s j).pc * 4, none⟩ = some (.int .i64 (opT X s j 0)) at y0
        change wr.cell? ⟨ob, oo + (thOf s j).pc * 4 + 1, none⟩ = some (.int .i64 (opT X s j 1)) at y1
        change wr.cell? ⟨ob, oo + (thOf s j).pc * 4 + 2, none⟩ = some (.int .i64 (opT X s j 2)) at y2
        change wr.cell? ⟨ob, oo + (thOf s j).pc * 4 + 3, none⟩ = some (.int .i64 (opT X s j 3)) at y3
        rw [eop] at y0
        rw [ena] at y1
        rw [enb] at y2
        rw [enc] at y3
        have hpcl : (thOf s j).pc < Q.L j := hmore
        have hL4 := hc.L4 j hlt
        obtain ⟨pc, epc⟩ : ∃ x, (thOf s j).pc = x := ⟨_, rfl⟩
        obtain ⟨LJ, elj⟩ : ∃ x, Q.L j = x := ⟨_, rfl⟩
        rw [epc] at y0 y1 y2 y3 dpu hpcl
        rw [elj] at dcu hpcl hL4
        have y0u := cell_up y0
        have y1u := cell_up y1
        have y2u := cell_up y2
        have y3u := cell_up y3
        have ki : (wr.alloc (.cells #[.int .i64 (j : Int)] 3)).cell? ⟨wr.heap.size, 0, none⟩ = some (.int .i64 (j : Int)) := by go_simp
        obtain ⟨CJ, ecj⟩ : ∃ x, Q.C j = x := ⟨_, rfl⟩
        rw [ecj] at dcu
        have kfu := frozen_up (a := ⟨w.heap.size, 0, none⟩) (by show w.heap.size < _; omega) kf
        have hlsb : sb < w.heap.size := lt_of_cell c1
        have HBW := Hid.out (p := Hid _) hbW
        obtain ⟨ab, eab⟩ : ∃ x, ableT Q.L X s j = x := ⟨_, rfl⟩
        have HEAB : Hid (ableT Q.L X s j = ab) := eab
        rw [eab] at HAB
        have hlenj : len ≤ 10 := by have h1 := HI.out.is; have h2 := ables_len Q.L X s j; omega
        clear hs1 hsW hW1 HTE hEE hab hbW hord x0 x1 x2 x3 eop ena enb enc epc elj ecj hA dc dp hwt eab hmore y0 y1 y2 y3
        go_wp2
        go_quiet (fail)
        go_wp2_with fail
        go_region_held3 (fun w' => w'.cell? ⟨sb, 0, none⟩ = some (.iface 56 (.pointer (some ⟨mb, 0, none⟩))) ∧ w'.cell? ⟨wr.heap.size, 0, none⟩ = some (.int .i64 (j : Int)) ∧ w'.cell? ⟨tb, j * 3, none⟩ = some (.slice (some ⟨ob, oo, none⟩) LJ CJ) ∧ w'.cell? ⟨tb, j * 3 + 1, none⟩ = some (.int .i64 (pc : Int)) ∧ w'.cell? ⟨ob, oo + pc * 4, none⟩ = some (.int .i64 op) ∧ w'.cell? ⟨ob, oo + pc * 4 + 1, none⟩ = some (.int .i64 na) ∧ w'.cell? ⟨ob, oo + pc * 4 + 2, none⟩ = some (.int .i64 nb) ∧ w'.cell? ⟨ob, oo + pc * 4 + 3, none⟩ = some (.int .i64 nc)) (refine ⟨?_, ?_, ?_, ?_, ?_, ?_, ?_, ?_⟩ <;> (first | assumption | exact kb0 _ | exact ki | exact dcu _ | exact dpu _ | exact y0u _ | exact y1u _ | exact y2u _ | exact y3u _)) (first | (go_at_call 48; refine Calls.mono (HTE'.out _ rfl) ?_; rintro e w' ⟨rfl, kk, rfl⟩) | (go_at_call 73; refine Calls.mono (HAB.out _ rfl) ?_; rintro e w4 ⟨rfl, hb4⟩; have z0 := (hb4.cell (p := ⟨sb, 0, none⟩) (lt_of_cell (kb0 _))).trans (kb0 _); have z1 := (hb4.cell (p := ⟨wr.heap.size, 0, none⟩) (lt_of_cell ki)).trans ki; have z2 := (hb4.cell (p := ⟨tb, j * 3, none⟩) (lt_of_cell (dcu _))).trans (dcu _); have z3 := (hb4.cell (p := ⟨tb, j * 3 + 1, none⟩) (lt_of_cell (dpu _))).trans (dpu _); have z4 := (hb4.cell (p := ⟨ob, oo + pc * 4, none⟩) (lt_of_cell (y0u _))).trans (y0u _); have z5 := (hb4.cell (p := ⟨ob, oo + pc * 4 + 1, none⟩) (lt_of_cell (y1u _))).trans (y1u _); have z6 := (hb4.cell (p := ⟨ob, oo + pc * 4 + 2, none⟩) (lt_of_cell (y2u _))).trans (y2u _); have z7 := (hb4.cell (p := ⟨ob, oo + pc * 4 + 3, none⟩) (lt_of_cell (y3u _))).trans (y3u _); have zl := (hb4.cell (p := ⟨w.heap.size, 0, none⟩) (lt_of_cell (klu _))).trans (klu _); have zf := (hb4.frozen (p := ⟨w.heap.size, 0, none⟩) (lt_of_cell (klu _))).trans (kfu _); have hB4 : Below w.heap.size w w4 := ⟨hb4.os.trans HBW.out.os, hb4.tape.trans HBW.out.tape, hb4.output.trans HBW.out.output, Nat.le_trans HBW.out.size hb4.size, fun k hk => (hb4.block k (Nat.lt_of_lt_of_le hk HBW.out.size)).trans (HBW.out.block k hk)⟩; have HI4 := Hid.out (p := Hid _) (HI.out.below (Below.trans (b := (wr.alloc (.cells #[.int .i64 (j : Int)] 3)).drew) (((Below.refl _ _).alloc (Nat.le_refl _) _).drew) (show Below wr.heap.size _ w4 from ⟨hb4.os, hb4.tape, hb4.output, hb4.size, fun k hk => hb4.block k (by show k < (wr.alloc (.cells #[.int .i64 (j : Int)] 3)).heap.size; simp; omega)⟩))); have l4 : wr.heap.size < w4.heap.size := lt_of_cell z1))
        all_goals clear hb4
        all_goals cases ab with
        | false =>
          have HN : Hid (ables Q.L X s (j + 1) = ables Q.L X s j) := ables_no HEAB.out
          go_wp2
          refine region_tail 6 (by kernel_rfl) (by kernel_rfl) ?_
          simp only [List.take_succ_cons, List.take_zero, List.drop_succ_cons, List.drop_zero]
          repeat still_step
          refine wpStill_nil ?_
          go_wp2_with fail
          refine Calls.mono (HMET.out _ _) ?_
          rintro e w7 ⟨rfl, rfl⟩
          go_wp2_with fail
          go_roundw
          case rel => exact ⟨j + 1, a, len, c, by omega, by go_num, zl, zf, by show IsP _ _ _ _ _ _; rw [HN.out]; exact HI4.out.below ((Below.refl _ _).drew), hB4.drew, by show _ < w4.heap.size; omega⟩
          case measure => simp [intOf]; omega
        | true =>
          have HN : Hid (ables Q.L X s (j + 1) = ables Q.L X s j ++ [j]) := ables_yes HEAB.out
          obtain ⟨g, cap, w5, hrun, hI5, hg5⟩ := HI4.out.push (Below.refl _ _) (by omega) (by omega) j
          have hown : ∀ k, (Value.slice a len c).ownBlock = some k → w.heap.size + 1 ≤ k ∧ k < wr.heap.size := fun k hk => HI.out.own.lt k hk
          have u0 := hg5.cell (cell_up z0 (.cells #[.int .i64 (j : Int), .int .i64 (-1)] 88)) (fun e => by have := hown sb e.symm; omega)
          have u1 := hg5.cell (cell_up z1 (.cells #[.int .i64 (j : Int), .int .i64 (-1)] 88)) (fun e => by have := hown wr.heap.size e.symm; omega)
          have ul := hg5.cell (cell_up zl (.cells #[.int .i64 (j : Int), .int .i64 (-1)] 88)) (fun e => by have := hown w.heap.size e.symm; omega)
          have uf : w5.frozen? ⟨w.heap.size, 0, none⟩ = false := (hg5.frozen_far ⟨w.heap.size, 0, none⟩ (by show w.heap.size < _; simp; omega) (fun e => by have := hown w.heap.size e.symm; omega)).trans (frozen_up (by show w.heap.size < _; omega) zf _)
          have z1u := cell_up z1
          have zlu := cell_up zl
          have hB5 : Below w.heap.size w w5 := (hB4.alloc (by have := hB4.size; omega) _).grown hg5 (by simp; omega) (fun k hk => by have := hown k hk; omega)
          have hl5 : w.heap.size < w5.heap.size := lt_of_cell ul
          have n1 : ¬ sb = w.heap.size := by omega
          have n2 : ¬ w.heap.size = sb := by omega
          have n3 : ¬ wr.heap.size = w.heap.size := by omega
          have n4 : ¬ w.heap.size = wr.heap.size := by omega
          have HI5 := Hid.out (p := Hid _) hI5
          have gne : Hid (∀ k, (Value.slice (some ⟨g, 0, none⟩) (len + 1) cap).ownBlock = some k → k ≠ w.heap.size) := fun k hk => by have := (hI5.own.lt k hk).1; omega
          clear hI5 hg5 hown
          go_wp2
          refine region_tail 6 (by kernel_rfl) (by kernel_rfl) ?_
          simp only [List.take_succ_cons, List.take_zero, List.drop_succ_cons, List.drop_zero]
          repeat still_step
          refine wpStill_nil ?_
          go_wp2_with fail
          refine Calls.mono (HMET.out _ _) ?_
          rintro e w7 ⟨rfl, rfl⟩
          go_wp2_with fail
          go_roundw
          case rel =>
            refine ⟨j + 1, some ⟨g, 0, none⟩, len + 1, cap, by omega, by go_num, ?_, ?_, ?_, (hB5.setCell (by show w.heap.size ≤ w.heap.size; omega) _).drew, ?_⟩
            · show (w5.setCell ⟨w.heap.size, 0, none⟩ (.slice (some ⟨g, 0, none⟩) (len + 1) cap)).cell? ⟨w.heap.size, 0, none⟩ = _
              rw [cell_set, ul]; rfl
            · show (w5.setCell ⟨w.heap.size, 0, none⟩ (.slice (some ⟨g, 0, none⟩) (len + 1) cap)).frozen? ⟨w.heap.size, 0, none⟩ = false
              rw [frozen_set]; exact uf
            · show IsP _ _ _ _ _ _
              rw [HN.out]
              exact ⟨HI5.out.is, fam_keeps HI5.out.own (fun k hk => Below.heap_setCell _ _ _ _ (gne.out k hk))⟩
            · show _ < (w5.setCell _ _).heap.size
              simp [World.setCell]; omega
          case measure => simp [intOf]; omega
      · have hab : ableT Q.L X s j = false := ableT_ended hend
        have hEE : endedT Q.L s j = true := by unfold endedT; exact decide_eq_true hend
        have HN : Hid (ables Q.L X s (j + 1) = ables Q.L X s j) := ables_no hab
        have HTE' : Hid (∀ W, W.heap = (wr.alloc (.cells #[.int .i64 (j : Int)] 3)).heap → Calls Try.prog 48 #[.pointer (some ⟨tb, j * 3, none⟩)] W fun e w' => e = .returned (.bool true) ∧ ∃ k, w' = W.drewN k) := fun W e => by
          have := HTE.out W e
          rwa [hEE] at this
        have HBW := Hid.out (p := Hid _) hbW
        clear hs1 hsW hW1 HTE hEE hab hend hbW
        go_wp2
        go_quiet (fail)
        go_wp2
        go_quiet ((go_at_call 48; refine Calls.mono (HTE'.out _ rfl) ?_; rintro e w' ⟨rfl, k, rfl⟩; exact ⟨rfl, _, by rw [World.drewN_drewN, Nat.add_assoc]⟩))
        go_wp2
        refine region_tail 6 (by kernel_rfl) (by kernel_rfl) ?_
        simp only [List.take_succ_cons, List.take_zero, List.drop_succ_cons, List.drop_zero]
        repeat still_step
        refine wpStill_nil ?_
        go_wp2_with fail
        refine Calls.mono (HMET.out _ _) ?_
        rintro e w3 ⟨rfl, rfl⟩
        go_wp2_with fail
        go_roundw
        case rel => exact ⟨j + 1, a, len, c, by omega, by go_num, klu _, (frozen_up (by show w.heap.size < _; omega) kf _), by show IsP _ _ _ _ _ _; rw [HN.out]; exact HI.out.below (below_drewN ((Below.refl _ _).alloc (Nat.le_refl _) _)).drew, (below_drewN HBW.out).drew, by show _ < _; simp; omega⟩
        case measure => simp [intOf]; omega
    · obtain rfl : j = n := by omega
      go_wp2
      go_ret
      exact ⟨a, len, c, rfl, ⟨HI.out.is, own_low HI.out.own (by omega)⟩, hbr⟩

end Go.Proofs.Ytjheojfpnfkloaa
