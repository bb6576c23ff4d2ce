/-
  What can be picked in the program's run.
-/
import Derived.Test.YtefnmbnakphhfadGreatDoorRwW
import Derived.Deep.RegionHeld3
namespace Go.Proofs.YtefnmbnakphhfadGreatDoor
open Go.RowKit

def pickV (ms : List Int) : List Value := ms.flatMap fun (m : Int) => [Value.int .i64 (m / 8), .int .i64 (m % 8 - 1)]
theorem pickV_at : ∀ {ms : List Int} {i : Nat}, i < ms.length → (pickV ms)[i * 2]? = some (.int .i64 (ms.getD i 0 / 8)) ∧ (pickV ms)[i * 2 + 1]? = some (.int .i64 (ms.getD i 0 % 8 - 1))
  | [], i, h => absurd h (Nat.not_lt_zero _)
  | a :: r, 0, _ => ⟨rfl, rfl⟩
  | a :: r, i + 1, h => by
    have := pickV_at (ms := r) (i := i) (by simpa using h)
    rw [show (i + 1) * 2 = i * 2 + 1 + 1 by omega]
    have e : pickV (a :: r) = .int .i64 (a / 8) :: .int .i64 (a % 8 - 1) :: pickV r := rfl
    rw [e, List.getElem?_cons_succ, List.getElem?_cons_succ, List.getElem?_cons_succ, List.getElem?_cons_succ]
    simpa using this
/-- A list of picks that is being made. -/
structure IsP (w : World) (B : Nat) (a : Option Addr) (len c : Nat) (ms : List Int) : Prop where
  is : ms.length = len
  own : w.ownsRow B 118 2 (.slice a len c) len (pickV ms)
theorem IsP.nil (w : World) (B : Nat) : IsP w B none 0 0 [] := ⟨rfl, World.ownsRow_nil _ _ _ _⟩
theorem IsP.below {w w1 : World} {B : Nat} {a : Option Addr} {len c : Nat} {xs : List Int} (h : IsP w B a len c xs) (hb : Below w.heap.size w w1) : IsP w1 B a len c xs := ⟨h.is, fam_keeps h.own (fun g hg => hb.block g (h.own.lt g hg).2)⟩
theorem infoPick : (Tryz.prog.info? 118).map (fun i => (i.zero, i.size, i.bytes)) = some (some (.agg #[.int .i64 0, .int .i64 0]), 2, 16) := by kernel_rfl
theorem frozen_set (w : World) (b o : Nat) (x : Value) : (w.setCell ⟨b, o, none⟩ x).frozen? ⟨b, o, none⟩ = w.frozen? ⟨b, o, none⟩ := by
  unfold World.frozen? World.setCell
  simp only [Array.getElem?_modify, if_true]
  cases h : w.heap[b]? with
  | none => simp
  | some ob => cases ob <;> simp
/-- One pick more. -/
theorem IsP.push {w W : World} {B : Nat} {a : Option Addr} {len c : Nat} {ms : List Int} (h : IsP w B a len c ms) (hb : Below w.heap.size w W) (hB : B ≤ w.heap.size) (hlen : len ≤ 1000) (m x y : Int) (hx : m / 8 = x) (hy : m % 8 - 1 = y) :
    ∃ g cap w3, (AppS #[86, 86] 86 #[.slice a len c, .slice (some ⟨W.heap.size, 0, none⟩) 1 1]).run Tryz.prog (W.alloc (.cells #[.int .i64 x, .int .i64 y] 118)) = .ok (.slice (some ⟨g, 0, none⟩) (len + 1) cap) w3 ∧ IsP w3 B (some ⟨g, 0, none⟩) (len + 1) cap (ms ++ [m]) ∧ (W.alloc (.cells #[.int .i64 x, .int .i64 y] 118)).grownBy w3 (Value.slice a len c).ownBlock ∧ ((Value.slice a len c).ownBlock = some g ∨ W.heap.size < g) := by
  obtain ⟨g, cap, w3, r1, r2, r3, r4⟩ := app_row (T := 86) Tryz.underlying86 infoPick rfl (by omega) h.own hb hB 1 #[.int .i64 x, .int .i64 y] rfl (by simp [Value.oneCell']) (by omega) (by omega) (by omega)
  refine ⟨g, cap, w3, r1, ⟨by simp [h.is], ?_⟩, r3, r4.imp_right (fun e => by omega)⟩
  have e : pickV ms ++ #[Value.int .i64 x, .int .i64 y].toList = pickV (ms ++ [m]) := by simp [pickV, hx, hy]
  rw [← e]
  exact r2

attribute [local go_sem ↓] appS_eq
set_option maxRecDepth 100000 in
set_option maxHeartbeats 1600000 in
/-- What waits is told: one pick more. -/
theorem picks1_any (w : World) (B lb ib t place : Nat) (a : Option Addr) (len c : Nat) (ms : List Int) (hl : w.cell? ⟨lb, 0, none⟩ = some (.slice a len c)) (hf : w.frozen? ⟨lb, 0, none⟩ = false) (hi : w.cell? ⟨ib, 0, none⟩ = some (.int .i64 (t : Int))) (hI : IsP w B a len c ms) (hlb : lb < B) (hB : B ≤ w.heap.size) (hlen : len ≤ 100) (hp : place ≤ 6) (hio : (Value.slice a len c).ownBlock ≠ some ib) (hne : ib ≠ lb) :
    Calls Tryz.prog 65 #[.int .i64 (place : Int), .pointer (some ⟨lb, 0, none⟩), .pointer (some ⟨ib, 0, none⟩)] w fun e w' => e = .returned (.tuple #[]) ∧ ∃ a' len' c', w'.cell? ⟨lb, 0, none⟩ = some (.slice a' len' c') ∧ w'.frozen? ⟨lb, 0, none⟩ = false ∧ IsP w' B a' len' c' (ms ++ [8 * (t : Int) + (place : Int) + 1]) ∧ Below lb w w' ∧ w'.cell? ⟨ib, 0, none⟩ = some (.int .i64 (t : Int)) ∧ (Value.slice a' len' c').ownBlock ≠ some ib := by
  obtain ⟨g, cap, w3, hrun, hI3, hg3, hat⟩ := hI.push (W := w) (Below.refl _ _) hB (by omega) (8 * (t : Int) + (place : Int) + 1) (t : Int) (place : Int) (by omega) (by omega)
  have hown : ∀ k, (Value.slice a len c).ownBlock = some k → B ≤ k ∧ k < w.heap.size := fun k hk => hI.own.lt k hk
  have ll := lt_of_cell hl
  have li := lt_of_cell hi
  simp only at ll li
  have ul := hg3.cell (cell_up hl (.cells #[.int .i64 (t : Int), .int .i64 (place : Int)] 118)) (fun e => by have := hown lb e.symm; omega)
  have ui := hg3.cell (cell_up hi (.cells #[.int .i64 (t : Int), .int .i64 (place : Int)] 118)) (fun e => hio e.symm)
  have uf : w3.frozen? ⟨lb, 0, none⟩ = false := (hg3.frozen_far ⟨lb, 0, none⟩ (by show lb < _; simp; omega) (fun e => by have := hown lb e.symm; omega)).trans (frozen_up (by show lb < _; omega) hf _)
  have hlu := cell_up hl
  have hiu := cell_up hi
  have hB3 : Below lb w w3 := (((Below.refl lb w).alloc (by omega) (.cells #[.int .i64 (t : Int), .int .i64 (place : Int)] 118)).grown hg3 (by simp; omega) (fun k hk => by have := hown k hk; omega))
  have hgl : g ≠ lb := by
    rcases hat with h | h
    · have := hown g h; omega
    · omega
  have hgi : g ≠ ib := by
    rcases hat with h | h
    · exact fun e => hio (by rw [h, e])
    · omega
  have HF : Hid (IsP w3 B (some ⟨g, 0, none⟩) (len + 1) cap (ms ++ [8 * (t : Int) + (place : Int) + 1]) ∧ Below lb w w3) := ⟨hI3, hB3⟩
  have nli : ¬ lb = ib := fun e => hne e.symm
  clear hI hI3 hB3 hg3 hown hat hio
  go_enter Tryz.func65, Tryz.ntmps65
  go_wp2
  all_goals go_end0
  all_goals refine ⟨rfl, some ⟨g, 0, none⟩, len + 1, cap, ?_, ?_, ?_, ?_, ?_, ?_⟩
  all_goals first
    | (show (w3.setCell ⟨lb, 0, none⟩ (.slice (some ⟨g, 0, none⟩) (len + 1) cap)).cell? ⟨lb, 0, none⟩ = _; rw [cell_set, ul]; rfl)
    | (show (w3.setCell ⟨lb, 0, none⟩ (.slice (some ⟨g, 0, none⟩) (len + 1) cap)).frozen? ⟨lb, 0, none⟩ = false; rw [frozen_set]; exact uf)
    | (show IsP (w3.setCell ⟨lb, 0, none⟩ (.slice (some ⟨g, 0, none⟩) (len + 1) cap)) _ _ _ _ _; exact ⟨HF.out.1.is, fam_keeps HF.out.1.own (fun k hk => Below.heap_setCell _ _ _ _ (by have : g = k := (by simpa [Value.ownBlock] using hk); show k ≠ lb; omega))⟩)
    | (show Below lb w (w3.setCell ⟨lb, 0, none⟩ (.slice (some ⟨g, 0, none⟩) (len + 1) cap)); exact HF.out.2.setCell (Nat.le_refl _) _)
    | (show (w3.setCell ⟨lb, 0, none⟩ (.slice (some ⟨g, 0, none⟩) (len + 1) cap)).cell? ⟨ib, 0, none⟩ = _; rw [World.cell?_of_block (w := w3) (Below.heap_setCell _ _ _ _ hne)]; exact ui)
    | (intro e; exact hgi (by simpa [Value.ownBlock] using e))

theorem mvsT_places {L : Nat → Nat} {X : Nat → Nat → Nat → Int} {mode : Int} {s : Sx} (t : Nat) : mvsT L X mode s (t + 1) = mvsK L X mode s t 0 ++ (placesW mode (thOf s t).wait).map fun (k : Nat) => 8 * (t : Int) + (k : Int) + 1 := by
  rw [mvsT_succ]
  unfold mvsK placesW
  simp [List.append_assoc]
/-- What a memory tells of what waits is put behind the picks. -/
theorem wait_any (w W : World) (B : Nat) (Q : Cd) (sb mb : Nat) (v : Rp → Value) (s : Sx) (t : Nat) (hM : MLaw Q.K) (hmp : MPre w B Q sb mb v s t) (ib : Nat) (a : Option Addr) (len c : Nat) (ms : List Int) (hl : W.cell? ⟨w.heap.size, 0, none⟩ = some (.slice a len c)) (hf : W.frozen? ⟨w.heap.size, 0, none⟩ = false) (hI : IsP W (w.heap.size + 1) a len c ms) (hb : Below w.heap.size w W) (hi : W.cell? ⟨ib, 0, none⟩ = some (.int .i64 (t : Int))) (hio : (Value.slice a len c).ownBlock ≠ some ib) (hne : ib ≠ w.heap.size) (hms : ms.length ≤ 50) :
    Calls Tryz.prog Q.K.waiting #[.pointer (some ⟨Q.top mb, 0, none⟩), .int .i64 (t : Int), .func (.func 65) #[] #[.pointer (some ⟨w.heap.size, 0, none⟩), .pointer (some ⟨ib, 0, none⟩)]] W fun e w' => e = .returned (.tuple #[]) ∧ ∃ a' len' c', w'.cell? ⟨w.heap.size, 0, none⟩ = some (.slice a' len' c') ∧ w'.frozen? ⟨w.heap.size, 0, none⟩ = false ∧ IsP w' (w.heap.size + 1) a' len' c' (ms ++ (placesW Q.K.mode (thOf s t).wait).map fun (k : Nat) => 8 * (t : Int) + (k : Int) + 1) ∧ Below w.heap.size w w' := by
  obtain ⟨ps, hps⟩ : ∃ ps, placesW Q.K.mode (thOf s t).wait = ps := ⟨_, rfl⟩
  have hpl : ∀ k, k ∈ ps → k < 3 := fun k hk => by
    rw [← hps] at hk
    unfold placesW at hk
    rw [List.mem_filter] at hk
    have := hk.1
    have h3 := hmp.hw
    simp at this
    omega
  have hpn : ps.length ≤ 3 := by
    rw [← hps]
    unfold placesW
    have := List.length_filter_le (fun k => mayW Q.K.mode (thOf s t).wait k) (List.range (thOf s t).wait.length)
    have h3 := hmp.hw
    simp at this
    omega
  have key := hM.waiting W B Q sb mb v s t 65 #[.pointer (some ⟨w.heap.size, 0, none⟩), .pointer (some ⟨ib, 0, none⟩)] (fun j V => ∃ a len c, V.cell? ⟨w.heap.size, 0, none⟩ = some (.slice a len c) ∧ V.frozen? ⟨w.heap.size, 0, none⟩ = false ∧ IsP V (w.heap.size + 1) a len c (ms ++ (ps.take j).map fun (k : Nat) => 8 * (t : Int) + (k : Int) + 1) ∧ Below w.heap.size w V ∧ V.cell? ⟨ib, 0, none⟩ = some (.int .i64 (t : Int)) ∧ (Value.slice a len c).ownBlock ≠ some ib)
    rfl (fun xs V => by kernel_rfl) (fun j V ⟨_, _, _, _, _, _, h4, _⟩ => hmp.below h4) (fun j V k ⟨a, len, c, h1, h2, h3, h4, h5, h6⟩ => ⟨a, len, c, h1, h2, ⟨h3.is, h3.own⟩, below_drewN h4, h5, h6⟩) ⟨a, len, c, hl, hf, by simpa using hI, hb, hi, hio⟩
    (fun j V hj ⟨a, len, c, h1, h2, h3, h4, h5, h6⟩ => by
      rw [hps] at hj
      have hlen : len ≤ 100 := by
        have := h3.is
        simp at this
        omega
      have hmem : ps.getD j 0 < 3 := hpl _ (by simp [List.getD, hj])
      have hp := picks1_any V (w.heap.size + 1) w.heap.size ib t (ps.getD j 0) a len c _ h1 h2 h5 h3 (by omega) (lt_of_cell h1) hlen (by omega) h6 hne
      rw [hps]
      refine hp.mono fun e V' ⟨g1, a', len', c', g2, g3, g4, g5, g6, g7⟩ => ⟨g1, a', len', c', g2, g3, ?_, h4.trans g5, g6, g7⟩
      have e1 : ps.take (j + 1) = ps.take j ++ [ps.getD j 0] := by rw [List.take_add_one]; simp [List.getD, hj]
      rw [e1, List.map_append, ← List.append_assoc]
      exact g4)
  rw [hps, List.take_length] at key
  rw [hps]
  exact key.mono fun e w' ⟨g1, a', len', c', g2, g3, g4, g5, _, _⟩ => ⟨g1, a', len', c', g2, g3, g4, g5⟩

set_option maxRecDepth 100000 in
set_option maxHeartbeats 3200000 in
/-- Is a thread able? -/
theorem sable_any (w : World) (B : Nat) (Q : Cd) (sb mb : Nat) (v : Rp → Value) (s : Sx) (ca : Option Addr) (X : Nat → Nat → Nat → Int) (n m lk rg j : Nat) (hlt : j < n) (hs : QSt w B Q sb mb v s) (hM : MLaw Q.K) (hB : B ≤ w.heap.size) (hnt : Q.nt = n) (ho : SOk n Q.L m lk rg Q.K.mode s) (hc : COk n Q.L X m lk rg) (hp : PIn w ca n Q.A Q.L Q.C X) :
    Calls Tryz.prog 64 #[.pointer (some ⟨sb, 0, none⟩), .int .i64 (j : Int)] w fun e w' => e = .returned (.bool (ableT Q.L X s j)) ∧ Below w.heap.size w w' := by
  have hl := ho.ths
  have hN := hc.n4
  obtain ⟨tb, tc, hth, htb, _⟩ := hs.blk .thr (by show 0 < s.ths.length; omega)
  have c1 := hs.c1
  rw [hth] at c1
  change w.cell? ⟨sb, 1, none⟩ = some (.slice (some ⟨tb, 0, none⟩) s.ths.length tc) at c1
  rw [hl] at c1
  have c0 := hs.c0
  have mA := hM.mAble
  have kmA := hM.cAble
  have htl : j < s.ths.length := by omega
  have dc := hs.code htb htl
  have dp := hs.pc htb htl
  have HTE : Hid (∀ W, W.heap = w.heap → Calls Tryz.prog 66 #[.pointer (some ⟨tb, j * 3, none⟩)] W fun e w' => e = .returned (.bool (endedT Q.L s j)) ∧ ∃ k, w' = W.drewN k) := fun W e =>
    tended_any W B Q sb mb v s tb j (hs.same e) htb htl (by omega) (hc.L4 j hlt) (ho.pc j hlt)
  have hmp : MPre w B Q sb mb v s j := ⟨hs, hB, by rw [hl]; exact hnt, by omega, htl, by rw [ho.words]; exact hc.m64, by rw [ho.own]; exact hc.lk4, ho.wlen j hlt, fun x hx => by rw [ho.own, ho.words]; exact ho.wok j hlt x hx, fun hb => ho.bare (hM.mode0 hb) j hlt⟩
  rcases Nat.lt_or_ge (thOf s j).pc (Q.L j) with hmore | hend
  · obtain ⟨ob, oo, hA, y0, y1, y2, y3⟩ := hp.ord j (thOf s j).pc hlt hmore
    have hord := hc.ord j (thOf s j).pc hlt hmore
    rw [hA] at dc
    have hEE : endedT Q.L s j = false := by unfold endedT; exact decide_eq_false (by omega)
    have HTE' : Hid (∀ W, W.heap = w.heap → Calls Tryz.prog 66 #[.pointer (some ⟨tb, j * 3, none⟩)] W fun e w' => e = .returned (.bool false) ∧ ∃ k, w' = W.drewN k) := fun W e => by
      have := HTE.out W e
      rwa [hEE] at this
    have hab := ableT_more (X := X) hmore
    have HAB : Hid (∀ W, W.heap = w.heap → Calls Tryz.prog Q.K.able #[.pointer (some ⟨Q.top mb, 0, none⟩), .int .i64 (j : Int), ints4 (opT X s j 0) (opT X s j 1) (opT X s j 2) (opT X s j 3)] W fun e w' => e = .returned (.bool (ableT Q.L X s j)) ∧ Below W.heap.size W w') := fun W e => by
      have := hM.able W B Q sb mb v s j (opT X s j 0) (opT X s j 1) (opT X s j 2) (opT X s j 3) rfl (hmp.same e) (fun h17 => by
        have h18 : ordE rg m lk (Q.L j) (opT X s j 0) (opT X s j 1) (opT X s j 2) (opT X s j 3) = 0 := hord
        have := ok_lock (Or.inl h17) h18
        rw [ho.own]; exact this)
      rwa [← hab] at this
    obtain ⟨op, eop⟩ : ∃ x, opT X s j 0 = x := ⟨_, rfl⟩
    obtain ⟨na, ena⟩ : ∃ x, opT X s j 1 = x := ⟨_, rfl⟩
    obtain ⟨nb, enb⟩ : ∃ x, opT X s j 2 = x := ⟨_, rfl⟩
    obtain ⟨nc, enc⟩ : ∃ x, opT X s j 3 = x := ⟨_, rfl⟩
    rw [eop, ena, enb, enc] at HAB
    change w.cell? ⟨ob, oo + (thOf s j).pc * 4, none⟩ = some (.int .i64 (opT X s j 0)) at y0
    change w.cell? ⟨ob, oo + (thOf s j).pc * 4 + 1, none⟩ = some (.int .i64 (opT X s j 1)) at y1
    change w.cell? ⟨ob, oo + (thOf s j).pc * 4 + 2, none⟩ = some (.int .i64 (opT X s j 2)) at y2
    change w.cell? ⟨ob, oo + (thOf s j).pc * 4 + 3, none⟩ = some (.int .i64 (opT X s j 3)) at y3
    rw [eop] at y0
    rw [ena] at y1
    rw [enb] at y2
    rw [enc] at y3
    have hpcl : (thOf s j).pc < Q.L j := hmore
    have hL4 := hc.L4 j hlt
    obtain ⟨pc, epc⟩ : ∃ x, (thOf s j).pc = x := ⟨_, rfl⟩
    obtain ⟨LJ, elj⟩ : ∃ x, Q.L j = x := ⟨_, rfl⟩
    obtain ⟨CJ, ecj⟩ : ∃ x, Q.C j = x := ⟨_, rfl⟩
    rw [epc] at y0 y1 y2 y3 dp hpcl
    rw [elj] at dc hpcl hL4
    rw [ecj] at dc
    obtain ⟨ab, eab⟩ : ∃ x, ableT Q.L X s j = x := ⟨_, rfl⟩
    rw [eab] at HAB ⊢
    clear hs HTE hEE hab hord eop ena enb enc epc elj ecj hA eab hmore hmp hp ho hc hth htb hnt
    go_enter Tryz.func64, Tryz.ntmps64
    go_wp2_with fail
    go_region_held3 (fun w' => w'.cell? ⟨sb, 0, none⟩ = some (.iface Q.K.tid (.pointer (some ⟨Q.top mb, 0, none⟩))) ∧ w'.cell? ⟨tb, j * 3, none⟩ = some (.slice (some ⟨ob, oo, none⟩) LJ CJ) ∧ w'.cell? ⟨tb, j * 3 + 1, none⟩ = some (.int .i64 (pc : Int)) ∧ w'.cell? ⟨ob, oo + pc * 4, none⟩ = some (.int .i64 op) ∧ w'.cell? ⟨ob, oo + pc * 4 + 1, none⟩ = some (.int .i64 na) ∧ w'.cell? ⟨ob, oo + pc * 4 + 2, none⟩ = some (.int .i64 nb) ∧ w'.cell? ⟨ob, oo + pc * 4 + 3, none⟩ = some (.int .i64 nc)) (refine ⟨?_, ?_, ?_, ?_, ?_, ?_, ?_⟩ <;> assumption) (first | (go_at_call 66; refine Calls.mono (HTE'.out _ rfl) ?_; rintro e w' ⟨rfl, kk, rfl⟩) | ((with_reducible show Calls _ Q.K.able _ _ _); refine Calls.mono (HAB.out _ rfl) ?_; rintro e w4 ⟨rfl, hb4⟩; have z0 := (hb4.cell (p := ⟨sb, 0, none⟩) (lt_of_cell c0)).trans c0; have z2 := (hb4.cell (p := ⟨tb, j * 3, none⟩) (lt_of_cell dc)).trans dc; have z3 := (hb4.cell (p := ⟨tb, j * 3 + 1, none⟩) (lt_of_cell dp)).trans dp; have z4 := (hb4.cell (p := ⟨ob, oo + pc * 4, none⟩) (lt_of_cell y0)).trans y0; have z5 := (hb4.cell (p := ⟨ob, oo + pc * 4 + 1, none⟩) (lt_of_cell y1)).trans y1; have z6 := (hb4.cell (p := ⟨ob, oo + pc * 4 + 2, none⟩) (lt_of_cell y2)).trans y2; have z7 := (hb4.cell (p := ⟨ob, oo + pc * 4 + 3, none⟩) (lt_of_cell y3)).trans y3; have hB4 : Below w.heap.size w w4 := ⟨hb4.os, hb4.tape, hb4.output, hb4.size, fun k hk => hb4.block k hk⟩; clear hb4))
    all_goals go_wp2
    all_goals go_ret
    all_goals exact ⟨rfl, hB4⟩
  · have hab : ableT Q.L X s j = false := ableT_ended hend
    have hEE : endedT Q.L s j = true := by unfold endedT; exact decide_eq_true hend
    have HTE' : Hid (∀ W, W.heap = w.heap → Calls Tryz.prog 66 #[.pointer (some ⟨tb, j * 3, none⟩)] W fun e w' => e = .returned (.bool true) ∧ ∃ k, w' = W.drewN k) := fun W e => by
      have := HTE.out W e
      rwa [hEE] at this
    rw [hab]
    clear hs HTE hEE hab hend hmp hp ho hc hth htb hnt
    go_enter Tryz.func64, Tryz.ntmps64
    go_wp2
    go_quiet ((go_at_call 66; refine Calls.mono (HTE'.out _ rfl) ?_; rintro e w' ⟨rfl, k, rfl⟩; first | exact ⟨rfl, _, rfl⟩ | exact ⟨rfl, _, by rw [World.drewN_drewN, Nat.add_assoc]⟩ | exact ⟨rfl, _, by rw [World.drewN_drewN]⟩))
    go_wp2
    go_ret
    exact ⟨rfl, below_drewN (Below.refl _ _)⟩

attribute [local go_sem ↓] appS_eq
set_option maxRecDepth 100000 in
set_option maxHeartbeats 6400000 in
theorem picks_any (w : World) (B : Nat) (Q : Cd) (sb mb : Nat) (v : Rp → Value) (s : Sx) (ca : Option Addr) (X : Nat → Nat → Nat → Int) (n m lk rg : Nat) (h0 : 0 < n) (hs : QSt w B Q sb mb v s) (hM : MLaw Q.K) (hB : B ≤ w.heap.size) (hnt : Q.nt = n) (ho : SOk n Q.L m lk rg Q.K.mode s) (hc : COk n Q.L X m lk rg) (hp : PIn w ca n Q.A Q.L Q.C X) :
    Calls Tryz.prog 49 #[.pointer (some ⟨sb, 0, none⟩)] w fun e w' => ∃ a len c, e = .returned (.slice a len c) ∧ IsP w' w.heap.size a len c (movesX Q.L X Q.K.mode s) ∧ Below w.heap.size w w' := by
  have hl := ho.ths
  have hN := hc.n4
  obtain ⟨tb, tc, hth, htb, _⟩ := hs.blk .thr (by show 0 < s.ths.length; omega)
  have c1 := hs.c1
  rw [hth] at c1
  change w.cell? ⟨sb, 1, none⟩ = some (.slice (some ⟨tb, 0, none⟩) s.ths.length tc) at c1
  rw [hl] at c1
  have c0 := hs.c0
  have mW := hM.mWaiting
  have kmW := hM.cWaiting
  have c1u := cell_up c1
  go_enter Tryz.func49, Tryz.ntmps49
  go_wp2
  go_loopw [10] (fun i wr => ∃ (j : Nat) (a : Option Addr) (len c : Nat), j ≤ n ∧ i = .int .i64 j ∧ wr.cell? ⟨w.heap.size, 0, none⟩ = some (.slice a len c) ∧ wr.frozen? ⟨w.heap.size, 0, none⟩ = false ∧ Hid (IsP wr (w.heap.size + 1) a len c (mvsT Q.L X Q.K.mode s j)) ∧ Below w.heap.size w wr ∧ w.heap.size < wr.heap.size) (fun i _ => n - (intOf i).toNat)
  case atStart => exact ⟨0, none, 0, 0, Nat.zero_le _, rfl, by go_simp, by go_simp, IsP.nil _ _, (Below.refl _ _).alloc (Nat.le_refl _) _, by simp⟩
  case round =>
    obtain ⟨j, a, len, c, hj, rfl, kl, kf, HI, hbr, hsz⟩ := hrel
    have c0r := (hbr.cell (lt_of_cell c0)).trans c0
    by_cases hlt : j < n
    · have lsb : sb < wr.heap.size := lt_of_cell c0r
      have klu := cell_up kl
      have htl : j < s.ths.length := by omega
      have hbW : Below w.heap.size w (wr.alloc (.cells #[.int .i64 (j : Int)] 3)) := hbr.alloc (by omega) _
      have hmp : MPre w B Q sb mb v s j := ⟨hs, hB, by rw [hl]; exact hnt, by omega, htl, by rw [ho.words]; exact hc.m64, by rw [ho.own]; exact hc.lk4, ho.wlen j hlt, fun x hx => by rw [ho.own, ho.words]; exact ho.wok j hlt x hx, fun hb => ho.bare (hM.mode0 hb) j hlt⟩
      have hmsl : (mvsT Q.L X Q.K.mode s j).length ≤ 20 := by
        have := mvsT_len Q.L X Q.K.mode s (fun t ht => ho.wlen t (by omega)) j (by omega)
        omega
      have HWT : Hid (∀ (W : World) (a : Option Addr) (len c : Nat) (ms : List Int), W.cell? ⟨w.heap.size, 0, none⟩ = some (.slice a len c) → W.frozen? ⟨w.heap.size, 0, none⟩ = false → Hid (IsP W (w.heap.size + 1) a len c ms) → Below w.heap.size w W → W.cell? ⟨wr.heap.size, 0, none⟩ = some (.int .i64 (j : Int)) → (Value.slice a len c).ownBlock ≠ some wr.heap.size → ms = mvsK Q.L X Q.K.mode s j 0 →
          Calls Tryz.prog Q.K.waiting #[.pointer (some ⟨Q.top mb, 0, none⟩), .int .i64 (j : Int), .func (.func 65) #[] #[.pointer (some ⟨w.heap.size, 0, none⟩), .pointer (some ⟨wr.heap.size, 0, none⟩)]] W fun e w' => e = .returned (.tuple #[]) ∧ ∃ a' len' c', w'.cell? ⟨w.heap.size, 0, none⟩ = some (.slice a' len' c') ∧ w'.frozen? ⟨w.heap.size, 0, none⟩ = false ∧ Hid (IsP w' (w.heap.size + 1) a' len' c' (mvsT Q.L X Q.K.mode s (j + 1))) ∧ Below w.heap.size w w' ∧ w.heap.size < w'.heap.size) := fun W a len c ms g1 g2 g3 g4 g5 g6 g7 => by
        have hml : ms.length ≤ 50 := by
          have := mvsK_len Q.L X Q.K.mode s j 0
          rw [g7]; omega
        refine (wait_any w W B Q sb mb v s j hM hmp wr.heap.size a len c ms g1 g2 g3.out g4 g5 g6 (by omega) hml).mono fun e w' ⟨h1, a', len', c', h2, h3, h4, h5⟩ => ⟨h1, a', len', c', h2, h3, ?_, h5, lt_of_cell h2⟩
        show IsP _ _ _ _ _ _
        rw [mvsT_places, ← g7]
        exact h4
      have HAB : Hid (Calls Tryz.prog 64 #[.pointer (some ⟨sb, 0, none⟩), .int .i64 (j : Int)] (wr.alloc (.cells #[.int .i64 (j : Int)] 3)) fun e w' => e = .returned (.bool (ableT Q.L X s j)) ∧ Below (wr.alloc (.cells #[.int .i64 (j : Int)] 3)).heap.size (wr.alloc (.cells #[.int .i64 (j : Int)] 3)) w') :=
        sable_any _ B Q sb mb v s ca X n m lk rg j hlt (hs.below hbW) hM (Nat.le_trans hB hbW.size) hnt ho hc (hp.below hbW)
      have hlsb : sb < w.heap.size := lt_of_cell c0
      have ki : (wr.alloc (.cells #[.int .i64 (j : Int)] 3)).cell? ⟨wr.heap.size, 0, none⟩ = some (.int .i64 (j : Int)) := by go_simp
      have HBW := Hid.out (p := Hid _) hbW
      have hlenj : len ≤ 20 := by have h1 := HI.out.is; omega
      obtain ⟨ab, eab⟩ : ∃ x, ableT Q.L X s j = x := ⟨_, rfl⟩
      have HEAB : Hid (ableT Q.L X s j = ab) := eab
      rw [eab] at HAB
      clear hbW eab hmp
      go_wp2_with fail
      refine Calls.mono HAB.out ?_
      rintro e w4 ⟨rfl, hb4⟩
      have z0 := (hb4.cell (p := ⟨sb, 0, none⟩) (lt_of_cell (cell_up c0r _))).trans (cell_up c0r _)
      have z1 := (hb4.cell (p := ⟨wr.heap.size, 0, none⟩) (lt_of_cell ki)).trans ki
      have zl := (hb4.cell (p := ⟨w.heap.size, 0, none⟩) (lt_of_cell (klu _))).trans (klu _)
      have zf := (hb4.frozen (p := ⟨w.heap.size, 0, none⟩) (lt_of_cell (klu _))).trans (frozen_up (a := ⟨w.heap.size, 0, none⟩) (by show w.heap.size < _; omega) kf _)
      have hB4 : Below w.heap.size w w4 := HBW.out.trans (hb4.mono HBW.out.size)
      have l4 : wr.heap.size < w4.heap.size := lt_of_cell z1
      have HI4 := Hid.out (p := Hid _) (HI.out.below (((Below.refl wr.heap.size wr).alloc (Nat.le_refl _) (.cells #[.int .i64 (j : Int)] 3)).trans (hb4.mono (by simp))))
      have hown4 : (Value.slice a len c).ownBlock ≠ some wr.heap.size := fun e => by have := (HI.out.own.lt _ e).2; omega
      clear hb4 HAB ki klu
      cases ab with
      | false =>
        have HN : Hid (mvsT Q.L X Q.K.mode s j = mvsK Q.L X Q.K.mode s j 0) := (mvsK_no Q.L X Q.K.mode s HEAB.out).symm
        go_wp2
        refine region_tail 6 (by kernel_rfl) (by kernel_rfl) ?_
        simp only [List.take_succ_cons, List.take_zero, List.drop_succ_cons, List.drop_zero]
        repeat still_step
        refine wpStill_nil ?_
        go_wp2_with fail
        refine Calls.mono (HWT.out _ a len c _ zl zf (HI4.out.below ((Below.refl _ _).drew)) hB4.drew z1 hown4 HN.out) ?_
        rintro e w7 ⟨rfl, a7, len7, c7, q1, q2, q3, q4, q5⟩
        go_wp2_with fail
        go_roundw
        case rel => exact ⟨j + 1, a7, len7, c7, by omega, by go_num, q1, q2, q3, q4, q5⟩
        case measure => simp [intOf]; omega
      | true =>
        have HN : Hid (mvsT Q.L X Q.K.mode s j ++ [8 * (j : Int)] = mvsK Q.L X Q.K.mode s j 0) := (mvsK_yes Q.L X Q.K.mode s HEAB.out).symm
        obtain ⟨g, cap, w5, hrun, hI5, hg5, hat5⟩ := HI4.out.push (Below.refl _ _) (by omega) (by omega) (8 * (j : Int)) (j : Int) (-1) (by omega) (by omega)
        have hown : ∀ k, (Value.slice a len c).ownBlock = some k → w.heap.size + 1 ≤ k ∧ k < wr.heap.size := fun k hk => HI.out.own.lt k hk
        have u0 := hg5.cell (cell_up z0 (.cells #[.int .i64 (j : Int), .int .i64 (-1)] 118)) (fun e => by have := hown sb e.symm; omega)
        have u1 := hg5.cell (cell_up z1 (.cells #[.int .i64 (j : Int), .int .i64 (-1)] 118)) (fun e => by have := hown wr.heap.size e.symm; omega)
        have ul := hg5.cell (cell_up zl (.cells #[.int .i64 (j : Int), .int .i64 (-1)] 118)) (fun e => by have := hown w.heap.size e.symm; omega)
        have uf : w5.frozen? ⟨w.heap.size, 0, none⟩ = false := (hg5.frozen_far ⟨w.heap.size, 0, none⟩ (by show w.heap.size < _; simp; omega) (fun e => by have := hown w.heap.size e.symm; omega)).trans (frozen_up (by show w.heap.size < _; omega) zf _)
        have z1u := cell_up z1
        have zlu := cell_up zl
        have hB5 : Below w.heap.size w w5 := (hB4.alloc (by have := hB4.size; omega) _).grown hg5 (by simp; omega) (fun k hk => by have := hown k hk; omega)
        have hl5 : w.heap.size < w5.heap.size := lt_of_cell ul
        have n1 : ¬ sb = w.heap.size := by omega
        have n2 : ¬ w.heap.size = sb := by omega
        have n3 : ¬ wr.heap.size = w.heap.size := by omega
        have n4 : ¬ w.heap.size = wr.heap.size := by omega
        have HI5 := Hid.out (p := Hid _) hI5
        have gne : Hid (∀ k, (Value.slice (some ⟨g, 0, none⟩) (len + 1) cap).ownBlock = some k → k ≠ w.heap.size) := fun k hk => by have := (hI5.own.lt k hk).1; omega
        have HE1 : Hid ((w5.setCell ⟨w.heap.size, 0, none⟩ (.slice (some ⟨g, 0, none⟩) (len + 1) cap)).cell? ⟨w.heap.size, 0, none⟩ = some (.slice (some ⟨g, 0, none⟩) (len + 1) cap)) := by show _ = _; rw [cell_set, ul]; rfl
        have HE2 : Hid ((w5.setCell ⟨w.heap.size, 0, none⟩ (.slice (some ⟨g, 0, none⟩) (len + 1) cap)).frozen? ⟨w.heap.size, 0, none⟩ = false) := by show _ = _; rw [frozen_set]; exact uf
        have HE3 : Hid (IsP (w5.setCell ⟨w.heap.size, 0, none⟩ (.slice (some ⟨g, 0, none⟩) (len + 1) cap)) (w.heap.size + 1) (some ⟨g, 0, none⟩) (len + 1) cap (mvsT Q.L X Q.K.mode s j ++ [8 * (j : Int)])) := ⟨hI5.is, fam_keeps hI5.own (fun k hk => Below.heap_setCell _ _ _ _ (gne.out k hk))⟩
        have HE4 : Hid (Below w.heap.size w (w5.setCell ⟨w.heap.size, 0, none⟩ (.slice (some ⟨g, 0, none⟩) (len + 1) cap))) := hB5.setCell (by show w.heap.size ≤ w.heap.size; omega) _
        have HE5 : Hid ((w5.setCell ⟨w.heap.size, 0, none⟩ (.slice (some ⟨g, 0, none⟩) (len + 1) cap)).cell? ⟨wr.heap.size, 0, none⟩ = some (.int .i64 (j : Int))) := (World.cell?_of_block (w := w5) (Below.heap_setCell _ _ _ _ n3)).trans u1
        have HE6 : Hid ((Value.slice (some ⟨g, 0, none⟩) (len + 1) cap).ownBlock ≠ some wr.heap.size) := fun e => by
          have eg : g = wr.heap.size := by simpa [Value.ownBlock] using e
          rcases hat5 with h5 | h5
          · have := hown g h5; omega
          · omega
        clear hI5 hg5 hown hat5
        go_wp2
        refine region_tail 6 (by kernel_rfl) (by kernel_rfl) ?_
        simp only [List.take_succ_cons, List.take_zero, List.drop_succ_cons, List.drop_zero]
        repeat still_step
        refine wpStill_nil ?_
        go_wp2_with fail
        refine Calls.mono (HWT.out _ (some ⟨g, 0, none⟩) (len + 1) cap _ HE1.out HE2.out (HE3.out.below ((Below.refl _ _).drew)) HE4.out.drew HE5.out HE6.out HN.out) ?_
        rintro e w7 ⟨rfl, a7, len7, c7, q1, q2, q3, q4, q5⟩
        go_wp2_with fail
        go_roundw
        case rel => exact ⟨j + 1, a7, len7, c7, by omega, by go_num, q1, q2, q3, q4, q5⟩
        case measure => simp [intOf]; omega
    · obtain rfl : j = n := by omega
      go_wp2
      go_ret
      have e0 : mvsT Q.L X Q.K.mode s j = movesX Q.L X Q.K.mode s := by rw [← hl]; rfl
      rw [← e0]
      exact ⟨a, len, c, rfl, ⟨HI.out.is, own_low HI.out.own (by omega)⟩, hbr⟩

end Go.Proofs.YtefnmbnakphhfadGreatDoor
