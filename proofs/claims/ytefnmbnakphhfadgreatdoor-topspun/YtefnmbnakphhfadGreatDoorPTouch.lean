/-
  What the program makes of orders that touch words.
-/
import Derived.Test.YtefnmbnakphhfadGreatDoorPReck
import Derived.Test.YtefnmbnakphhfadGreatDoorPRow
import Derived.Deep.RegionHeld3
namespace Go.Proofs.YtefnmbnakphhfadGreatDoor
open Go.RowKit

set_option maxRecDepth 100000 in
set_option maxHeartbeats 3200000 in
theorem wordOf_any (w : World) (rb rl rc : Nat) (op a b c : Int) (R : Int → Int) (ho : op = 8 ∨ op = 9 ∨ op = 10 ∨ op = 11 ∨ op = 13) (hr : op = 10 → 0 ≤ b ∧ b < rl ∧ w.cell? ⟨rb, b.toNat, none⟩ = some (.int .i64 (R b))) (hr' : op = 11 → 0 ≤ a ∧ a < rl ∧ w.cell? ⟨rb, a.toNat, none⟩ = some (.int .i64 (R a))) (_hl : rl ≤ 200) :
    Calls Tryz.prog 112 #[ints4 op a b c, .slice (some ⟨rb, 0, none⟩) rl rc] w fun e w' => e = .returned (.tuple #[.int .i64 (if op = 8 then b else if op = 10 then R b else if op = 11 then R a else a), .bool true]) ∧ Below w.heap.size w w' := by
  have fin : ∀ o, Below w.heap.size w (w.alloc o) := fun o => (Below.refl _ _).alloc (Nat.le_refl _) _
  rcases ho with rfl | rfl | rfl | rfl | rfl
  · rw [if_pos rfl]
    clear hr hr'
    go_enter Tryz.func112, Tryz.ntmps112
    go_wp2
    go_ret2
    exact ⟨rfl, fin _⟩
  · rw [if_neg (by omega), if_neg (by omega), if_neg (by omega)]
    clear hr hr'
    go_enter Tryz.func112, Tryz.ntmps112
    go_wp2
    go_ret2
    exact ⟨rfl, fin _⟩
  · rw [if_neg (by omega), if_pos rfl]
    obtain ⟨h0, h1, h2⟩ := hr rfl
    obtain ⟨k, rfl⟩ : ∃ k : Nat, b = k := ⟨b.toNat, by omega⟩
    simp only [Int.toNat_natCast] at h2
    have h2u := cell_up h2
    obtain ⟨y, hy⟩ : ∃ y, R (k : Int) = y := ⟨_, rfl⟩
    rw [hy] at h2u ⊢
    clear hr hr' hy h2
    go_enter Tryz.func112, Tryz.ntmps112
    go_wp2
    go_ret2
    exact ⟨rfl, fin _⟩
  · rw [if_neg (by omega), if_neg (by omega), if_pos rfl]
    obtain ⟨h0, h1, h2⟩ := hr' rfl
    obtain ⟨k, rfl⟩ : ∃ k : Nat, a = k := ⟨a.toNat, by omega⟩
    simp only [Int.toNat_natCast] at h2
    have h2u := cell_up h2
    obtain ⟨y, hy⟩ : ∃ y, R (k : Int) = y := ⟨_, rfl⟩
    rw [hy] at h2u ⊢
    clear hr hr' hy h2
    go_enter Tryz.func112, Tryz.ntmps112
    go_wp2
    go_ret2
    exact ⟨rfl, fin _⟩
  · rw [if_neg (by omega), if_neg (by omega), if_neg (by omega)]
    clear hr hr'
    go_enter Tryz.func112, Tryz.ntmps112
    go_wp2
    go_ret2
    exact ⟨rfl, fin _⟩

theorem cell_far {w : World} {a b : Addr} {v u : Value} (h : w.cell? a = some v) (hne : a.block ≠ b.block) : (w.setCell b u).cell? a = some v := (World.cell?_of_block (Below.heap_setCell _ _ _ _ hne)).trans h
theorem cell_drew {w : World} {a : Addr} {v : Value} (h : w.cell? a = some v) : w.drew.cell? a = some v := h
theorem fell_store (mode : Int) (s : Sx) (t : Nat) (x : Wt) : (storeW mode s t x).fell = s.fell := by
  unfold storeW doneW
  split
  · rfl
  · split <;> rfl
theorem finds_bare {s : Sx} {t : Nat} (h : (thOf s t).wait = []) (x : Nat) : findsW s t (x : Int) = s.words.getD x 0 := by
  unfold findsW
  rw [h]
  simp
set_option maxRecDepth 100000 in
set_option maxHeartbeats 3200000 in
theorem touch_8 (w : World) (B : Nat) (Q : Cd) (sb mb : Nat) (v : Rp → Value) (s : Sx) (rg t : Nat) (ia : Nat) (ib : Nat) (c : Int) (hM : MLaw Q.K) (hmp : MPre w B Q sb mb v s t) (ht : t < s.ths.length) (hn : s.ths.length ≤ 4) (hrl : (thOf s t).regs.length = rg) (hrg : rg ≤ 200) (hwl : s.words.length ≤ 64) (hf : s.fell = false) (hst : orderX Q.K.mode s t 8 (ia : Int) (ib : Int) c = setR s t (ia : Int) (findsW s t (ib : Int))) (ha : ia < rg) (hb2 : ib < s.words.length) :
    Calls Tryz.prog 105 #[.pointer (some ⟨sb, 0, none⟩), .int .i64 t, ints4 8 (ia : Int) (ib : Int) c] w (StepQ B Q sb mb v w (orderX Q.K.mode s t 8 (ia : Int) (ib : Int) c)) := by
  have hs := hmp.hs
  obtain ⟨tb, tc, hth, htb, hltb⟩ := hs.blk .thr (by show 0 < s.ths.length; omega)
  obtain ⟨rb, rc, hrv, hrb, hlrb⟩ := hs.blk (.regs t) (by show 0 < (thOf s t).regs.length; omega)
  change v .thr = .slice (some ⟨tb, 0, none⟩) s.ths.length tc at hth
  have hrn : pN Q s (.regs t) = rg := hrl
  rw [hrn] at hrv
  have c1u := cell_up hs.c1
  rw [hth] at c1u
  have cru := cell_up (hs.regs htb ht)
  rw [hrv] at cru
  have HS := Hid.out (p := Hid _) hs
  have HMP := Hid.out (p := Hid _) hmp
  have hwn : (if (8 : Int) = 8 then (ib : Int) else if (8 : Int) = 10 then getR s t (ib : Int) else if (8 : Int) = 11 then getR s t (ia : Int) else (ia : Int)) = (ib : Int) := by rfl
  have hW : ∀ o : Obj, Calls Tryz.prog 112 #[ints4 8 (ia : Int) (ib : Int) c, .slice (some ⟨rb, 0, none⟩) rg rc] (w.alloc o) fun e w' => e = .returned (.tuple #[.int .i64 (ib : Int), .bool true]) ∧ Below (w.alloc o).heap.size (w.alloc o) w' := fun o => (wordOf_any (w.alloc o) rb rg rc 8 (ia : Int) (ib : Int) c (fun r => getR s t r) (by omega) (by
      intro h
      omega) (by
      intro h
      omega) hrg).mono fun e w' h => ⟨h.1.trans (congrArg (fun z => Ending.returned (.tuple #[.int .i64 z, .bool true])) hwn), h.2⟩
  have HWO := Hid.out (p := Hid _) hW
  obtain ⟨n, hnn⟩ : ∃ n, s.ths.length = n := ⟨_, rfl⟩
  have HNN : Hid (s.ths.length = n) := hnn
  rw [hnn] at c1u ht hn
  clear hmp hs hth hrv hrn hW hwn hnn
  go_enter Tryz.func105, Tryz.ntmps105
  go_wp2_with fail
  refine Calls.mono (HWO.out _) ?_
  rintro e w1 ⟨rfl, hb1⟩
  have hbel : Below w.heap.size w w1 := ((Below.refl _ _).alloc (Nat.le_refl _) _).trans (hb1.mono (by simp))
  have hs1 := HS.out.below hbel
  have c0 := hs1.c0
  have mHas := hM.mHas w1 B Q sb mb v s rfl hs1
  have i0 := (hb1.cell (p := ⟨w.heap.size, 0, none⟩) (by simp)).trans (show (w.alloc (.cells #[.int .i64 8, .int .i64 (ia : Int), .int .i64 (ib : Int), .int .i64 c] 37)).cell? ⟨w.heap.size, 0, none⟩ = some (.int .i64 8) by go_simp)
  have i1 := (hb1.cell (p := ⟨w.heap.size, 1, none⟩) (by simp)).trans (show (w.alloc (.cells #[.int .i64 8, .int .i64 (ia : Int), .int .i64 (ib : Int), .int .i64 c] 37)).cell? ⟨w.heap.size, 1, none⟩ = some (.int .i64 (ia : Int)) by go_simp)
  have i2 := (hb1.cell (p := ⟨w.heap.size, 2, none⟩) (by simp)).trans (show (w.alloc (.cells #[.int .i64 8, .int .i64 (ia : Int), .int .i64 (ib : Int), .int .i64 c] 37)).cell? ⟨w.heap.size, 2, none⟩ = some (.int .i64 (ib : Int)) by go_simp)
  have i3 := (hb1.cell (p := ⟨w.heap.size, 3, none⟩) (by simp)).trans (show (w.alloc (.cells #[.int .i64 8, .int .i64 (ia : Int), .int .i64 (ib : Int), .int .i64 c] 37)).cell? ⟨w.heap.size, 3, none⟩ = some (.int .i64 c) by go_simp)
  have lsb := lt_of_cell c0
  have lwb : w.heap.size < w1.heap.size := by have := hb1.size; simp at this; omega
  have HHAS := Hid.out (p := Hid _) (has_yes w1 B Q sb mb v s (ib : Int) hs1 hwl ⟨by omega, by omega⟩)
  have HS1 := Hid.out (p := Hid _) hs1
  have HBEL := Hid.out (p := Hid _) hbel
  have HMP1 := Hid.out (p := Hid _) (HMP.out.below hbel)
  clear hs1 hbel hb1 HWO
  go_wp2_with fail
  refine Calls.mono HHAS.out ?_
  rintro e w2 ⟨rfl, rfl⟩
  have mL := hM.mLoad
  have kmL := hM.cLoad
  obtain ⟨VW, eW⟩ : ∃ x, findsW s t (ib : Int) = x := ⟨_, rfl⟩
  have HLD : Hid (∀ W, W.heap = w2.heap → Calls Tryz.prog Q.K.load #[.pointer (some ⟨Q.top mb, 0, none⟩), .int .i64 t, .int .i64 (ib : Int)] W fun e w' => e = .returned (.int .i64 VW) ∧ Below W.heap.size W w') := fun W e => by
    have := hM.load W B Q sb mb v s t ib rfl (HMP1.out.same e) (by omega)
    rwa [eW] at this
  have HFIN : Hid (∀ W w4 : World, Below W.heap.size W w4 → W.heap = w2.heap → W.os = w2.os → W.tape = w2.tape → W.output = w2.output → (QSt (w4.setCell ⟨rb, ia, none⟩ (.int .i64 VW)) B Q sb mb v (setR s t (ia : Int) VW) ∧ Moved w (w4.setCell ⟨rb, ia, none⟩ (.int .i64 VW)) v v) ∧ w4.frozen? ⟨rb, ia, none⟩ = false ∧ (∃ y, w4.cell? ⟨rb, ia, none⟩ = some (.int .i64 y)) ∧ w4.cell? ⟨sb, 0, none⟩ = some (.iface Q.K.tid (.pointer (some ⟨Q.top mb, 0, none⟩))) ∧ w4.cell? ⟨w.heap.size, 1, none⟩ = some (.int .i64 (ia : Int))) := fun W w4 hb e e1 e2 e3 => by
    have hq := (HS1.out.same e).below hb
    have hmv : Moved w w4 v v := (Moved.same (Moved.of_below HBEL.out) e e1 e2 e3).trans (Moved.of_below hb)
    exact ⟨⟨hq.setReg hrb (by rw [HNN.out]; exact ht) ia VW, hmv.put hrb ia _⟩, hq.fam.frozen hrb ia, ⟨_, hq.reg hrb (r := ia) (by omega)⟩, hq.c0, (hb.cell (p := ⟨w.heap.size, 1, none⟩) (by show w.heap.size < W.heap.size; rw [e]; exact lwb)).trans ((World.cell?_of_block (by rw [e])).trans i1)⟩
  rw [eW] at hst
  have HSTT : Hid (orderX Q.K.mode s t _ _ _ _ = _) := hst
  have hnrb : rb ≠ w.heap.size := fun e => by have := HS.out.fam.lt hrb; omega
  have hne0 : (⟨w.heap.size, 1, none⟩ : Addr).block ≠ (⟨rb, ia, none⟩ : Addr).block := fun e => hnrb e.symm
  have hne1 : (⟨sb, 0, none⟩ : Addr).block ≠ (⟨rb, ia, none⟩ : Addr).block := HS.out.fam.ne HS.out.bst hrb (by simp)
  clear HHAS eW hst
  go_wp2
  go_region_held3 (fun w' => w'.cell? ⟨w.heap.size, 1, none⟩ = some (.int .i64 (ia : Int)) ∧ w'.cell? ⟨sb, 0, none⟩ = some (.iface Q.K.tid (.pointer (some ⟨Q.top mb, 0, none⟩)))) (refine ⟨?_, ?_⟩ <;> (first | assumption | (refine cell_drew ?_; assumption) | (refine cell_far ?_ ?_ <;> assumption))) (((with_reducible show Calls _ Q.K.load _ _ _); refine Calls.mono (HLD.out _ rfl) ?_; rintro e w4 ⟨rfl, hb4⟩; obtain ⟨hF, zf, ⟨y, zy⟩, z0, z1⟩ := HFIN.out _ w4 hb4 rfl rfl rfl rfl; have HF := Hid.out (p := Hid _) hF; clear hb4 hF))
  all_goals go_wp2
  all_goals go_ret
  all_goals refine ⟨?_, v, ?_⟩
  all_goals rw [HSTT.out]
  all_goals first | (show _ = Ending.returned (.bool (!s.fell)); rw [hf]; rfl) | exact ⟨QSt.same HF.out.1 rfl, Moved.same HF.out.2 rfl rfl rfl rfl⟩

set_option maxRecDepth 100000 in
set_option maxHeartbeats 3200000 in
theorem touch_10y (w : World) (B : Nat) (Q : Cd) (sb mb : Nat) (v : Rp → Value) (s : Sx) (rg t : Nat) (ia : Nat) (ib : Nat) (c : Int) (hM : MLaw Q.K) (hmp : MPre w B Q sb mb v s t) (ht : t < s.ths.length) (hn : s.ths.length ≤ 4) (hrl : (thOf s t).regs.length = rg) (hrg : rg ≤ 200) (hwl : s.words.length ≤ 64) (hf : s.fell = false) (wd : Nat) (hw : getR s t (ib : Int) = (wd : Int)) (hst : orderX Q.K.mode s t 10 (ia : Int) (ib : Int) c = setR s t (ia : Int) (findsW s t (wd : Int))) (ha : ia < rg) (hib : ib < rg) (hwd : wd < s.words.length) :
    Calls Tryz.prog 105 #[.pointer (some ⟨sb, 0, none⟩), .int .i64 t, ints4 10 (ia : Int) (ib : Int) c] w (StepQ B Q sb mb v w (orderX Q.K.mode s t 10 (ia : Int) (ib : Int) c)) := by
  have hs := hmp.hs
  obtain ⟨tb, tc, hth, htb, hltb⟩ := hs.blk .thr (by show 0 < s.ths.length; omega)
  obtain ⟨rb, rc, hrv, hrb, hlrb⟩ := hs.blk (.regs t) (by show 0 < (thOf s t).regs.length; omega)
  change v .thr = .slice (some ⟨tb, 0, none⟩) s.ths.length tc at hth
  have hrn : pN Q s (.regs t) = rg := hrl
  rw [hrn] at hrv
  have c1u := cell_up hs.c1
  rw [hth] at c1u
  have cru := cell_up (hs.regs htb ht)
  rw [hrv] at cru
  have HS := Hid.out (p := Hid _) hs
  have HMP := Hid.out (p := Hid _) hmp
  have hwn : (if (10 : Int) = 8 then (ib : Int) else if (10 : Int) = 10 then getR s t (ib : Int) else if (10 : Int) = 11 then getR s t (ia : Int) else (ia : Int)) = (wd : Int) := by exact hw
  have hW : ∀ o : Obj, Calls Tryz.prog 112 #[ints4 10 (ia : Int) (ib : Int) c, .slice (some ⟨rb, 0, none⟩) rg rc] (w.alloc o) fun e w' => e = .returned (.tuple #[.int .i64 (wd : Int), .bool true]) ∧ Below (w.alloc o).heap.size (w.alloc o) w' := fun o => (wordOf_any (w.alloc o) rb rg rc 10 (ia : Int) (ib : Int) c (fun r => getR s t r) (by omega) (by
      intro h
      exact ⟨by omega, by omega, by have := (hs.alloc o).reg hrb (r := ib) (by omega); simpa using this⟩) (by
      intro h
      omega) hrg).mono fun e w' h => ⟨h.1.trans (congrArg (fun z => Ending.returned (.tuple #[.int .i64 z, .bool true])) hwn), h.2⟩
  have HWO := Hid.out (p := Hid _) hW
  obtain ⟨n, hnn⟩ : ∃ n, s.ths.length = n := ⟨_, rfl⟩
  have HNN : Hid (s.ths.length = n) := hnn
  rw [hnn] at c1u ht hn
  clear hmp hs hth hrv hrn hW hwn hnn hw
  go_enter Tryz.func105, Tryz.ntmps105
  go_wp2_with fail
  refine Calls.mono (HWO.out _) ?_
  rintro e w1 ⟨rfl, hb1⟩
  have hbel : Below w.heap.size w w1 := ((Below.refl _ _).alloc (Nat.le_refl _) _).trans (hb1.mono (by simp))
  have hs1 := HS.out.below hbel
  have c0 := hs1.c0
  have mHas := hM.mHas w1 B Q sb mb v s rfl hs1
  have i0 := (hb1.cell (p := ⟨w.heap.size, 0, none⟩) (by simp)).trans (show (w.alloc (.cells #[.int .i64 10, .int .i64 (ia : Int), .int .i64 (ib : Int), .int .i64 c] 37)).cell? ⟨w.heap.size, 0, none⟩ = some (.int .i64 10) by go_simp)
  have i1 := (hb1.cell (p := ⟨w.heap.size, 1, none⟩) (by simp)).trans (show (w.alloc (.cells #[.int .i64 10, .int .i64 (ia : Int), .int .i64 (ib : Int), .int .i64 c] 37)).cell? ⟨w.heap.size, 1, none⟩ = some (.int .i64 (ia : Int)) by go_simp)
  have i2 := (hb1.cell (p := ⟨w.heap.size, 2, none⟩) (by simp)).trans (show (w.alloc (.cells #[.int .i64 10, .int .i64 (ia : Int), .int .i64 (ib : Int), .int .i64 c] 37)).cell? ⟨w.heap.size, 2, none⟩ = some (.int .i64 (ib : Int)) by go_simp)
  have i3 := (hb1.cell (p := ⟨w.heap.size, 3, none⟩) (by simp)).trans (show (w.alloc (.cells #[.int .i64 10, .int .i64 (ia : Int), .int .i64 (ib : Int), .int .i64 c] 37)).cell? ⟨w.heap.size, 3, none⟩ = some (.int .i64 c) by go_simp)
  have lsb := lt_of_cell c0
  have lwb : w.heap.size < w1.heap.size := by have := hb1.size; simp at this; omega
  have HHAS := Hid.out (p := Hid _) (has_yes w1 B Q sb mb v s (wd : Int) hs1 hwl ⟨by omega, by omega⟩)
  have HS1 := Hid.out (p := Hid _) hs1
  have HBEL := Hid.out (p := Hid _) hbel
  have HMP1 := Hid.out (p := Hid _) (HMP.out.below hbel)
  clear hs1 hbel hb1 HWO
  go_wp2_with fail
  refine Calls.mono HHAS.out ?_
  rintro e w2 ⟨rfl, rfl⟩
  have mL := hM.mLoad
  have kmL := hM.cLoad
  obtain ⟨VW, eW⟩ : ∃ x, findsW s t (wd : Int) = x := ⟨_, rfl⟩
  have HLD : Hid (∀ W, W.heap = w2.heap → Calls Tryz.prog Q.K.load #[.pointer (some ⟨Q.top mb, 0, none⟩), .int .i64 t, .int .i64 (wd : Int)] W fun e w' => e = .returned (.int .i64 VW) ∧ Below W.heap.size W w') := fun W e => by
    have := hM.load W B Q sb mb v s t wd rfl (HMP1.out.same e) (by omega)
    rwa [eW] at this
  have HFIN : Hid (∀ W w4 : World, Below W.heap.size W w4 → W.heap = w2.heap → W.os = w2.os → W.tape = w2.tape → W.output = w2.output → (QSt (w4.setCell ⟨rb, ia, none⟩ (.int .i64 VW)) B Q sb mb v (setR s t (ia : Int) VW) ∧ Moved w (w4.setCell ⟨rb, ia, none⟩ (.int .i64 VW)) v v) ∧ w4.frozen? ⟨rb, ia, none⟩ = false ∧ (∃ y, w4.cell? ⟨rb, ia, none⟩ = some (.int .i64 y)) ∧ w4.cell? ⟨sb, 0, none⟩ = some (.iface Q.K.tid (.pointer (some ⟨Q.top mb, 0, none⟩))) ∧ w4.cell? ⟨w.heap.size, 1, none⟩ = some (.int .i64 (ia : Int))) := fun W w4 hb e e1 e2 e3 => by
    have hq := (HS1.out.same e).below hb
    have hmv : Moved w w4 v v := (Moved.same (Moved.of_below HBEL.out) e e1 e2 e3).trans (Moved.of_below hb)
    exact ⟨⟨hq.setReg hrb (by rw [HNN.out]; exact ht) ia VW, hmv.put hrb ia _⟩, hq.fam.frozen hrb ia, ⟨_, hq.reg hrb (r := ia) (by omega)⟩, hq.c0, (hb.cell (p := ⟨w.heap.size, 1, none⟩) (by show w.heap.size < W.heap.size; rw [e]; exact lwb)).trans ((World.cell?_of_block (by rw [e])).trans i1)⟩
  rw [eW] at hst
  have HSTT : Hid (orderX Q.K.mode s t _ _ _ _ = _) := hst
  have hnrb : rb ≠ w.heap.size := fun e => by have := HS.out.fam.lt hrb; omega
  have hne0 : (⟨w.heap.size, 1, none⟩ : Addr).block ≠ (⟨rb, ia, none⟩ : Addr).block := fun e => hnrb e.symm
  have hne1 : (⟨sb, 0, none⟩ : Addr).block ≠ (⟨rb, ia, none⟩ : Addr).block := HS.out.fam.ne HS.out.bst hrb (by simp)
  clear HHAS eW hst
  go_wp2
  go_region_held3 (fun w' => w'.cell? ⟨w.heap.size, 1, none⟩ = some (.int .i64 (ia : Int)) ∧ w'.cell? ⟨sb, 0, none⟩ = some (.iface Q.K.tid (.pointer (some ⟨Q.top mb, 0, none⟩)))) (refine ⟨?_, ?_⟩ <;> (first | assumption | (refine cell_drew ?_; assumption) | (refine cell_far ?_ ?_ <;> assumption))) (((with_reducible show Calls _ Q.K.load _ _ _); refine Calls.mono (HLD.out _ rfl) ?_; rintro e w4 ⟨rfl, hb4⟩; obtain ⟨hF, zf, ⟨y, zy⟩, z0, z1⟩ := HFIN.out _ w4 hb4 rfl rfl rfl rfl; have HF := Hid.out (p := Hid _) hF; clear hb4 hF))
  all_goals go_wp2
  all_goals go_ret
  all_goals refine ⟨?_, v, ?_⟩
  all_goals rw [HSTT.out]
  all_goals first | (show _ = Ending.returned (.bool (!s.fell)); rw [hf]; rfl) | exact ⟨QSt.same HF.out.1 rfl, Moved.same HF.out.2 rfl rfl rfl rfl⟩

set_option maxRecDepth 100000 in
set_option maxHeartbeats 3200000 in
theorem touch_10n (w : World) (B : Nat) (Q : Cd) (sb mb : Nat) (v : Rp → Value) (s : Sx) (rg t : Nat) (ia : Nat) (ib : Nat) (c : Int) (hM : MLaw Q.K) (hmp : MPre w B Q sb mb v s t) (ht : t < s.ths.length) (hn : s.ths.length ≤ 4) (hrl : (thOf s t).regs.length = rg) (hrg : rg ≤ 200) (hwl : s.words.length ≤ 64) (_hf : s.fell = false) (x : Int) (hw : getR s t (ib : Int) = x) (hno : x < 0 ∨ (s.words.length : Int) ≤ x) (hst : orderX Q.K.mode s t 10 (ia : Int) (ib : Int) c = fallX s) (ha : ia < rg) (hib : ib < rg) :
    Calls Tryz.prog 105 #[.pointer (some ⟨sb, 0, none⟩), .int .i64 t, ints4 10 (ia : Int) (ib : Int) c] w (StepQ B Q sb mb v w (orderX Q.K.mode s t 10 (ia : Int) (ib : Int) c)) := by
  have hs := hmp.hs
  obtain ⟨tb, tc, hth, htb, hltb⟩ := hs.blk .thr (by show 0 < s.ths.length; omega)
  obtain ⟨rb, rc, hrv, hrb, hlrb⟩ := hs.blk (.regs t) (by show 0 < (thOf s t).regs.length; omega)
  change v .thr = .slice (some ⟨tb, 0, none⟩) s.ths.length tc at hth
  have hrn : pN Q s (.regs t) = rg := hrl
  rw [hrn] at hrv
  have c1u := cell_up hs.c1
  rw [hth] at c1u
  have cru := cell_up (hs.regs htb ht)
  rw [hrv] at cru
  have HS := Hid.out (p := Hid _) hs
  have HMP := Hid.out (p := Hid _) hmp
  have hwn : (if (10 : Int) = 8 then (ib : Int) else if (10 : Int) = 10 then getR s t (ib : Int) else if (10 : Int) = 11 then getR s t (ia : Int) else (ia : Int)) = x := by exact hw
  have hW : ∀ o : Obj, Calls Tryz.prog 112 #[ints4 10 (ia : Int) (ib : Int) c, .slice (some ⟨rb, 0, none⟩) rg rc] (w.alloc o) fun e w' => e = .returned (.tuple #[.int .i64 x, .bool true]) ∧ Below (w.alloc o).heap.size (w.alloc o) w' := fun o => (wordOf_any (w.alloc o) rb rg rc 10 (ia : Int) (ib : Int) c (fun r => getR s t r) (by omega) (by
      intro h
      exact ⟨by omega, by omega, by have := (hs.alloc o).reg hrb (r := ib) (by omega); simpa using this⟩) (by
      intro h
      omega) hrg).mono fun e w' h => ⟨h.1.trans (congrArg (fun z => Ending.returned (.tuple #[.int .i64 z, .bool true])) hwn), h.2⟩
  have HWO := Hid.out (p := Hid _) hW
  obtain ⟨n, hnn⟩ : ∃ n, s.ths.length = n := ⟨_, rfl⟩
  have HNN : Hid (s.ths.length = n) := hnn
  rw [hnn] at c1u ht hn
  clear hmp hs hth hrv hrn hW hwn hnn hw
  go_enter Tryz.func105, Tryz.ntmps105
  go_wp2_with fail
  refine Calls.mono (HWO.out _) ?_
  rintro e w1 ⟨rfl, hb1⟩
  have hbel : Below w.heap.size w w1 := ((Below.refl _ _).alloc (Nat.le_refl _) _).trans (hb1.mono (by simp))
  have hs1 := HS.out.below hbel
  have c0 := hs1.c0
  have mHas := hM.mHas w1 B Q sb mb v s rfl hs1
  have i0 := (hb1.cell (p := ⟨w.heap.size, 0, none⟩) (by simp)).trans (show (w.alloc (.cells #[.int .i64 10, .int .i64 (ia : Int), .int .i64 (ib : Int), .int .i64 c] 37)).cell? ⟨w.heap.size, 0, none⟩ = some (.int .i64 10) by go_simp)
  have i1 := (hb1.cell (p := ⟨w.heap.size, 1, none⟩) (by simp)).trans (show (w.alloc (.cells #[.int .i64 10, .int .i64 (ia : Int), .int .i64 (ib : Int), .int .i64 c] 37)).cell? ⟨w.heap.size, 1, none⟩ = some (.int .i64 (ia : Int)) by go_simp)
  have i2 := (hb1.cell (p := ⟨w.heap.size, 2, none⟩) (by simp)).trans (show (w.alloc (.cells #[.int .i64 10, .int .i64 (ia : Int), .int .i64 (ib : Int), .int .i64 c] 37)).cell? ⟨w.heap.size, 2, none⟩ = some (.int .i64 (ib : Int)) by go_simp)
  have i3 := (hb1.cell (p := ⟨w.heap.size, 3, none⟩) (by simp)).trans (show (w.alloc (.cells #[.int .i64 10, .int .i64 (ia : Int), .int .i64 (ib : Int), .int .i64 c] 37)).cell? ⟨w.heap.size, 3, none⟩ = some (.int .i64 c) by go_simp)
  have lsb := lt_of_cell c0
  have lwb : w.heap.size < w1.heap.size := by have := hb1.size; simp at this; omega
  have HHAS := Hid.out (p := Hid _) (has_no w1 B Q sb mb v s x hs1 hwl hno)
  have HS1 := Hid.out (p := Hid _) hs1
  have HBEL := Hid.out (p := Hid _) hbel
  have HMP1 := Hid.out (p := Hid _) (HMP.out.below hbel)
  clear hs1 hbel hb1 HWO hno
  go_wp2_with fail
  refine Calls.mono HHAS.out ?_
  rintro e w2 ⟨rfl, rfl⟩
  go_wp2
  go_ret
  refine ⟨?_, v, ?_, ?_⟩
  · rw [hst]; rfl
  · rw [hst]; exact HS1.out.fall
  · exact Moved.of_below HBEL.out

set_option maxRecDepth 100000 in
set_option maxHeartbeats 3200000 in
theorem touch_9 (w : World) (B : Nat) (Q : Cd) (sb mb : Nat) (v : Rp → Value) (s : Sx) (rg t : Nat) (ia : Nat) (ib : Nat) (c : Int) (hM : MLaw Q.K) (hmp : MPre w B Q sb mb v s t) (ht : t < s.ths.length) (hn : s.ths.length ≤ 4) (hrl : (thOf s t).regs.length = rg) (hrg : rg ≤ 200) (hwl : s.words.length ≤ 64) (hf : s.fell = false) (hst : orderX Q.K.mode s t 9 (ia : Int) (ib : Int) c = storeW Q.K.mode s t ⟨false, (ia : Int), getR s t (ib : Int)⟩) (hroom : (thOf s t).wait.length < 3) (ha : ia < s.words.length) (hib : ib < rg) :
    Calls Tryz.prog 105 #[.pointer (some ⟨sb, 0, none⟩), .int .i64 t, ints4 9 (ia : Int) (ib : Int) c] w (StepQ B Q sb mb v w (orderX Q.K.mode s t 9 (ia : Int) (ib : Int) c)) := by
  have hs := hmp.hs
  obtain ⟨tb, tc, hth, htb, hltb⟩ := hs.blk .thr (by show 0 < s.ths.length; omega)
  obtain ⟨rb, rc, hrv, hrb, hlrb⟩ := hs.blk (.regs t) (by show 0 < (thOf s t).regs.length; omega)
  change v .thr = .slice (some ⟨tb, 0, none⟩) s.ths.length tc at hth
  have hrn : pN Q s (.regs t) = rg := hrl
  rw [hrn] at hrv
  have c1u := cell_up hs.c1
  rw [hth] at c1u
  have cru := cell_up (hs.regs htb ht)
  rw [hrv] at cru
  have HS := Hid.out (p := Hid _) hs
  have HMP := Hid.out (p := Hid _) hmp
  have hwn : (if (9 : Int) = 8 then (ib : Int) else if (9 : Int) = 10 then getR s t (ib : Int) else if (9 : Int) = 11 then getR s t (ia : Int) else (ia : Int)) = (ia : Int) := by rfl
  have hW : ∀ o : Obj, Calls Tryz.prog 112 #[ints4 9 (ia : Int) (ib : Int) c, .slice (some ⟨rb, 0, none⟩) rg rc] (w.alloc o) fun e w' => e = .returned (.tuple #[.int .i64 (ia : Int), .bool true]) ∧ Below (w.alloc o).heap.size (w.alloc o) w' := fun o => (wordOf_any (w.alloc o) rb rg rc 9 (ia : Int) (ib : Int) c (fun r => getR s t r) (by omega) (by
      intro h
      omega) (by
      intro h
      omega) hrg).mono fun e w' h => ⟨h.1.trans (congrArg (fun z => Ending.returned (.tuple #[.int .i64 z, .bool true])) hwn), h.2⟩
  have HWO := Hid.out (p := Hid _) hW
  obtain ⟨n, hnn⟩ : ∃ n, s.ths.length = n := ⟨_, rfl⟩
  have HNN : Hid (s.ths.length = n) := hnn
  rw [hnn] at c1u ht hn
  clear hmp hs hth hrv hrn hW hwn hnn
  go_enter Tryz.func105, Tryz.ntmps105
  go_wp2_with fail
  refine Calls.mono (HWO.out _) ?_
  rintro e w1 ⟨rfl, hb1⟩
  have hbel : Below w.heap.size w w1 := ((Below.refl _ _).alloc (Nat.le_refl _) _).trans (hb1.mono (by simp))
  have hs1 := HS.out.below hbel
  have c0 := hs1.c0
  have mHas := hM.mHas w1 B Q sb mb v s rfl hs1
  have i0 := (hb1.cell (p := ⟨w.heap.size, 0, none⟩) (by simp)).trans (show (w.alloc (.cells #[.int .i64 9, .int .i64 (ia : Int), .int .i64 (ib : Int), .int .i64 c] 37)).cell? ⟨w.heap.size, 0, none⟩ = some (.int .i64 9) by go_simp)
  have i1 := (hb1.cell (p := ⟨w.heap.size, 1, none⟩) (by simp)).trans (show (w.alloc (.cells #[.int .i64 9, .int .i64 (ia : Int), .int .i64 (ib : Int), .int .i64 c] 37)).cell? ⟨w.heap.size, 1, none⟩ = some (.int .i64 (ia : Int)) by go_simp)
  have i2 := (hb1.cell (p := ⟨w.heap.size, 2, none⟩) (by simp)).trans (show (w.alloc (.cells #[.int .i64 9, .int .i64 (ia : Int), .int .i64 (ib : Int), .int .i64 c] 37)).cell? ⟨w.heap.size, 2, none⟩ = some (.int .i64 (ib : Int)) by go_simp)
  have i3 := (hb1.cell (p := ⟨w.heap.size, 3, none⟩) (by simp)).trans (show (w.alloc (.cells #[.int .i64 9, .int .i64 (ia : Int), .int .i64 (ib : Int), .int .i64 c] 37)).cell? ⟨w.heap.size, 3, none⟩ = some (.int .i64 c) by go_simp)
  have lsb := lt_of_cell c0
  have lwb : w.heap.size < w1.heap.size := by have := hb1.size; simp at this; omega
  have HHAS := Hid.out (p := Hid _) (has_yes w1 B Q sb mb v s (ia : Int) hs1 hwl ⟨by omega, by omega⟩)
  have HS1 := Hid.out (p := Hid _) hs1
  have HBEL := Hid.out (p := Hid _) hbel
  have HMP1 := Hid.out (p := Hid _) (HMP.out.below hbel)
  clear hs1 hbel hb1 HWO
  go_wp2_with fail
  refine Calls.mono HHAS.out ?_
  rintro e w2 ⟨rfl, rfl⟩
  have mS := hM.mStore
  have kmS := hM.cStore
  obtain ⟨VB, eB⟩ : ∃ x, getR s t (ib : Int) = x := ⟨_, rfl⟩
  have wb := HS1.out.reg hrb (r := ib) (by omega)
  rw [eB] at wb
  have HST := Hid.out (p := Hid _) (fun W (e : W.heap = w2.heap) => hM.store W B Q sb mb v s t ia VB rfl (HMP1.out.same e) (by omega) hroom)
  rw [eB] at hst
  have HSTT : Hid (orderX Q.K.mode s t _ _ _ _ = _) := hst
  clear eB HHAS hst
  go_wp2
  refine region_tail 13 (by kernel_rfl) (by kernel_rfl) ?_
  simp only [List.take_succ_cons, List.take_zero, List.drop_succ_cons, List.drop_zero]
  repeat still_step
  refine wpStill_nil ?_
  go_wp2_with fail
  refine Calls.mono (HST.out _ rfl) ?_
  rintro e w3 ⟨rfl, v3, hq3, hm3, _⟩
  go_wp2_with fail
  go_ret
  refine ⟨?_, v3, ?_, ?_⟩
  · rw [HSTT.out, fell_store, hf]; rfl
  · rw [HSTT.out]; exact hq3
  · exact (Moved.of_below HBEL.out).drew.trans hm3

set_option maxRecDepth 100000 in
set_option maxHeartbeats 3200000 in
theorem touch_11y (w : World) (B : Nat) (Q : Cd) (sb mb : Nat) (v : Rp → Value) (s : Sx) (rg t : Nat) (ia : Nat) (ib : Nat) (c : Int) (hM : MLaw Q.K) (hmp : MPre w B Q sb mb v s t) (ht : t < s.ths.length) (hn : s.ths.length ≤ 4) (hrl : (thOf s t).regs.length = rg) (hrg : rg ≤ 200) (hwl : s.words.length ≤ 64) (hf : s.fell = false) (wd : Nat) (hw : getR s t (ia : Int) = (wd : Int)) (hst : orderX Q.K.mode s t 11 (ia : Int) (ib : Int) c = storeW Q.K.mode s t ⟨false, (wd : Int), getR s t (ib : Int)⟩) (hroom : (thOf s t).wait.length < 3) (ha : ia < rg) (hib : ib < rg) (hwd : wd < s.words.length) :
    Calls Tryz.prog 105 #[.pointer (some ⟨sb, 0, none⟩), .int .i64 t, ints4 11 (ia : Int) (ib : Int) c] w (StepQ B Q sb mb v w (orderX Q.K.mode s t 11 (ia : Int) (ib : Int) c)) := by
  have hs := hmp.hs
  obtain ⟨tb, tc, hth, htb, hltb⟩ := hs.blk .thr (by show 0 < s.ths.length; omega)
  obtain ⟨rb, rc, hrv, hrb, hlrb⟩ := hs.blk (.regs t) (by show 0 < (thOf s t).regs.length; omega)
  change v .thr = .slice (some ⟨tb, 0, none⟩) s.ths.length tc at hth
  have hrn : pN Q s (.regs t) = rg := hrl
  rw [hrn] at hrv
  have c1u := cell_up hs.c1
  rw [hth] at c1u
  have cru := cell_up (hs.regs htb ht)
  rw [hrv] at cru
  have HS := Hid.out (p := Hid _) hs
  have HMP := Hid.out (p := Hid _) hmp
  have hwn : (if (11 : Int) = 8 then (ib : Int) else if (11 : Int) = 10 then getR s t (ib : Int) else if (11 : Int) = 11 then getR s t (ia : Int) else (ia : Int)) = (wd : Int) := by exact hw
  have hW : ∀ o : Obj, Calls Tryz.prog 112 #[ints4 11 (ia : Int) (ib : Int) c, .slice (some ⟨rb, 0, none⟩) rg rc] (w.alloc o) fun e w' => e = .returned (.tuple #[.int .i64 (wd : Int), .bool true]) ∧ Below (w.alloc o).heap.size (w.alloc o) w' := fun o => (wordOf_any (w.alloc o) rb rg rc 11 (ia : Int) (ib : Int) c (fun r => getR s t r) (by omega) (by
      intro h
      omega) (by
      intro h
      exact ⟨by omega, by omega, by have := (hs.alloc o).reg hrb (r := ia) (by omega); simpa using this⟩) hrg).mono fun e w' h => ⟨h.1.trans (congrArg (fun z => Ending.returned (.tuple #[.int .i64 z, .bool true])) hwn), h.2⟩
  have HWO := Hid.out (p := Hid _) hW
  obtain ⟨n, hnn⟩ : ∃ n, s.ths.length = n := ⟨_, rfl⟩
  have HNN : Hid (s.ths.length = n) := hnn
  rw [hnn] at c1u ht hn
  clear hmp hs hth hrv hrn hW hwn hnn hw
  go_enter Tryz.func105, Tryz.ntmps105
  go_wp2_with fail
  refine Calls.mono (HWO.out _) ?_
  rintro e w1 ⟨rfl, hb1⟩
  have hbel : Below w.heap.size w w1 := ((Below.refl _ _).alloc (Nat.le_refl _) _).trans (hb1.mono (by simp))
  have hs1 := HS.out.below hbel
  have c0 := hs1.c0
  have mHas := hM.mHas w1 B Q sb mb v s rfl hs1
  have i0 := (hb1.cell (p := ⟨w.heap.size, 0, none⟩) (by simp)).trans (show (w.alloc (.cells #[.int .i64 11, .int .i64 (ia : Int), .int .i64 (ib : Int), .int .i64 c] 37)).cell? ⟨w.heap.size, 0, none⟩ = some (.int .i64 11) by go_simp)
  have i1 := (hb1.cell (p := ⟨w.heap.size, 1, none⟩) (by simp)).trans (show (w.alloc (.cells #[.int .i64 11, .int .i64 (ia : Int), .int .i64 (ib : Int), .int .i64 c] 37)).cell? ⟨w.heap.size, 1, none⟩ = some (.int .i64 (ia : Int)) by go_simp)
  have i2 := (hb1.cell (p := ⟨w.heap.size, 2, none⟩) (by simp)).trans (show (w.alloc (.cells #[.int .i64 11, .int .i64 (ia : Int), .int .i64 (ib : Int), .int .i64 c] 37)).cell? ⟨w.heap.size, 2, none⟩ = some (.int .i64 (ib : Int)) by go_simp)
  have i3 := (hb1.cell (p := ⟨w.heap.size, 3, none⟩) (by simp)).trans (show (w.alloc (.cells #[.int .i64 11, .int .i64 (ia : Int), .int .i64 (ib : Int), .int .i64 c] 37)).cell? ⟨w.heap.size, 3, none⟩ = some (.int .i64 c) by go_simp)
  have lsb := lt_of_cell c0
  have lwb : w.heap.size < w1.heap.size := by have := hb1.size; simp at this; omega
  have HHAS := Hid.out (p := Hid _) (has_yes w1 B Q sb mb v s (wd : Int) hs1 hwl ⟨by omega, by omega⟩)
  have HS1 := Hid.out (p := Hid _) hs1
  have HBEL := Hid.out (p := Hid _) hbel
  have HMP1 := Hid.out (p := Hid _) (HMP.out.below hbel)
  clear hs1 hbel hb1 HWO
  go_wp2_with fail
  refine Calls.mono HHAS.out ?_
  rintro e w2 ⟨rfl, rfl⟩
  have mS := hM.mStore
  have kmS := hM.cStore
  obtain ⟨VB, eB⟩ : ∃ x, getR s t (ib : Int) = x := ⟨_, rfl⟩
  have wb := HS1.out.reg hrb (r := ib) (by omega)
  rw [eB] at wb
  have HST := Hid.out (p := Hid _) (fun W (e : W.heap = w2.heap) => hM.store W B Q sb mb v s t wd VB rfl (HMP1.out.same e) (by omega) hroom)
  rw [eB] at hst
  have HSTT : Hid (orderX Q.K.mode s t _ _ _ _ = _) := hst
  clear eB HHAS hst
  go_wp2
  refine region_tail 13 (by kernel_rfl) (by kernel_rfl) ?_
  simp only [List.take_succ_cons, List.take_zero, List.drop_succ_cons, List.drop_zero]
  repeat still_step
  refine wpStill_nil ?_
  go_wp2_with fail
  refine Calls.mono (HST.out _ rfl) ?_
  rintro e w3 ⟨rfl, v3, hq3, hm3, _⟩
  go_wp2_with fail
  go_ret
  refine ⟨?_, v3, ?_, ?_⟩
  · rw [HSTT.out, fell_store, hf]; rfl
  · rw [HSTT.out]; exact hq3
  · exact (Moved.of_below HBEL.out).drew.trans hm3

set_option maxRecDepth 100000 in
set_option maxHeartbeats 3200000 in
theorem touch_11n (w : World) (B : Nat) (Q : Cd) (sb mb : Nat) (v : Rp → Value) (s : Sx) (rg t : Nat) (ia : Nat) (ib : Nat) (c : Int) (hM : MLaw Q.K) (hmp : MPre w B Q sb mb v s t) (ht : t < s.ths.length) (hn : s.ths.length ≤ 4) (hrl : (thOf s t).regs.length = rg) (hrg : rg ≤ 200) (hwl : s.words.length ≤ 64) (_hf : s.fell = false) (x : Int) (hw : getR s t (ia : Int) = x) (hno : x < 0 ∨ (s.words.length : Int) ≤ x) (hst : orderX Q.K.mode s t 11 (ia : Int) (ib : Int) c = fallX s) (ha : ia < rg) (_hib : ib < rg) :
    Calls Tryz.prog 105 #[.pointer (some ⟨sb, 0, none⟩), .int .i64 t, ints4 11 (ia : Int) (ib : Int) c] w (StepQ B Q sb mb v w (orderX Q.K.mode s t 11 (ia : Int) (ib : Int) c)) := by
  have hs := hmp.hs
  obtain ⟨tb, tc, hth, htb, hltb⟩ := hs.blk .thr (by show 0 < s.ths.length; omega)
  obtain ⟨rb, rc, hrv, hrb, hlrb⟩ := hs.blk (.regs t) (by show 0 < (thOf s t).regs.length; omega)
  change v .thr = .slice (some ⟨tb, 0, none⟩) s.ths.length tc at hth
  have hrn : pN Q s (.regs t) = rg := hrl
  rw [hrn] at hrv
  have c1u := cell_up hs.c1
  rw [hth] at c1u
  have cru := cell_up (hs.regs htb ht)
  rw [hrv] at cru
  have HS := Hid.out (p := Hid _) hs
  have HMP := Hid.out (p := Hid _) hmp
  have hwn : (if (11 : Int) = 8 then (ib : Int) else if (11 : Int) = 10 then getR s t (ib : Int) else if (11 : Int) = 11 then getR s t (ia : Int) else (ia : Int)) = x := by exact hw
  have hW : ∀ o : Obj, Calls Tryz.prog 112 #[ints4 11 (ia : Int) (ib : Int) c, .slice (some ⟨rb, 0, none⟩) rg rc] (w.alloc o) fun e w' => e = .returned (.tuple #[.int .i64 x, .bool true]) ∧ Below (w.alloc o).heap.size (w.alloc o) w' := fun o => (wordOf_any (w.alloc o) rb rg rc 11 (ia : Int) (ib : Int) c (fun r => getR s t r) (by omega) (by
      intro h
      omega) (by
      intro h
      exact ⟨by omega, by omega, by have := (hs.alloc o).reg hrb (r := ia) (by omega); simpa using this⟩) hrg).mono fun e w' h => ⟨h.1.trans (congrArg (fun z => Ending.returned (.tuple #[.int .i64 z, .bool true])) hwn), h.2⟩
  have HWO := Hid.out (p := Hid _) hW
  obtain ⟨n, hnn⟩ : ∃ n, s.ths.length = n := ⟨_, rfl⟩
  have HNN : Hid (s.ths.length = n) := hnn
  rw [hnn] at c1u ht hn
  clear hmp hs hth hrv hrn hW hwn hnn hw
  go_enter Tryz.func105, Tryz.ntmps105
  go_wp2_with fail
  refine Calls.mono (HWO.out _) ?_
  rintro e w1 ⟨rfl, hb1⟩
  have hbel : Below w.heap.size w w1 := ((Below.refl _ _).alloc (Nat.le_refl _) _).trans (hb1.mono (by simp))
  have hs1 := HS.out.below hbel
  have c0 := hs1.c0
  have mHas := hM.mHas w1 B Q sb mb v s rfl hs1
  have i0 := (hb1.cell (p := ⟨w.heap.size, 0, none⟩) (by simp)).trans (show (w.alloc (.cells #[.int .i64 11, .int .i64 (ia : Int), .int .i64 (ib : Int), .int .i64 c] 37)).cell? ⟨w.heap.size, 0, none⟩ = some (.int .i64 11) by go_simp)
  have i1 := (hb1.cell (p := ⟨w.heap.size, 1, none⟩) (by simp)).trans (show (w.alloc (.cells #[.int .i64 11, .int .i64 (ia : Int), .int .i64 (ib : Int), .int .i64 c] 37)).cell? ⟨w.heap.size, 1, none⟩ = some (.int .i64 (ia : Int)) by go_simp)
  have i2 := (hb1.cell (p := ⟨w.heap.size, 2, none⟩) (by simp)).trans (show (w.alloc (.cells #[.int .i64 11, .int .i64 (ia : Int), .int .i64 (ib : Int), .int .i64 c] 37)).cell? ⟨w.heap.size, 2, none⟩ = some (.int .i64 (ib : Int)) by go_simp)
  have i3 := (hb1.cell (p := ⟨w.heap.size, 3, none⟩) (by simp)).trans (show (w.alloc (.cells #[.int .i64 11, .int .i64 (ia : Int), .int .i64 (ib : Int), .int .i64 c] 37)).cell? ⟨w.heap.size, 3, none⟩ = some (.int .i64 c) by go_simp)
  have lsb := lt_of_cell c0
  have lwb : w.heap.size < w1.heap.size := by have := hb1.size; simp at this; omega
  have HHAS := Hid.out (p := Hid _) (has_no w1 B Q sb mb v s x hs1 hwl hno)
  have HS1 := Hid.out (p := Hid _) hs1
  have HBEL := Hid.out (p := Hid _) hbel
  have HMP1 := Hid.out (p := Hid _) (HMP.out.below hbel)
  clear hs1 hbel hb1 HWO hno
  go_wp2_with fail
  refine Calls.mono HHAS.out ?_
  rintro e w2 ⟨rfl, rfl⟩
  go_wp2
  go_ret
  refine ⟨?_, v, ?_, ?_⟩
  · rw [hst]; rfl
  · rw [hst]; exact HS1.out.fall
  · exact Moved.of_below HBEL.out

end Go.Proofs.YtefnmbnakphhfadGreatDoor
