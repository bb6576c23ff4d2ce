/-
  What the program makes of compare and swap.
-/
import Derived.Test.YtefnmbnakphhfadGreatDoorPTouch
import Derived.Deep.RegionHeld
import Derived.Test.YtefnmbnakphhfadGreatDoorTruth
namespace Go.Proofs.YtefnmbnakphhfadGreatDoor
open Go.RowKit

set_option maxRecDepth 100000 in
set_option maxHeartbeats 3200000 in
theorem touch_13y (w : World) (B : Nat) (Q : Cd) (sb mb : Nat) (v : Rp → Value) (s : Sx) (rg t : Nat) (ia : Nat) (ib : Nat) (ic : Nat) (hM : MLaw Q.K) (hmp : MPre w B Q sb mb v s t) (ht : t < s.ths.length) (hn : s.ths.length ≤ 4) (hrl : (thOf s t).regs.length = rg) (hrg : rg ≤ 200) (hwl : s.words.length ≤ 64) (hf : s.fell = false) (heq : s.words.getD ia 0 = getR s t (ib : Int)) (hst : orderX Q.K.mode s t 13 (ia : Int) (ib : Int) (ic : Int) = setR { s with words := s.words.set ia (getR s t (ic : Int)) } t (ib : Int) 1) (ha : ia < s.words.length) (hib : ib < rg) (hic : ic < rg) :
    Calls Tryz.prog 105 #[.pointer (some ⟨sb, 0, none⟩), .int .i64 t, ints4 13 (ia : Int) (ib : Int) (ic : Int)] w (StepQ B Q sb mb v w (orderX Q.K.mode s t 13 (ia : Int) (ib : Int) (ic : Int))) := by
  have hs := hmp.hs
  obtain ⟨tb, tc, hth, htb, hltb⟩ := hs.blk .thr (by show 0 < s.ths.length; omega)
  obtain ⟨rb, rc, hrv, hrb, hlrb⟩ := hs.blk (.regs t) (by show 0 < (thOf s t).regs.length; omega)
  change v .thr = .slice (some ⟨tb, 0, none⟩) s.ths.length tc at hth
  have hrn : pN Q s (.regs t) = rg := hrl
  rw [hrn] at hrv
  have c1u := cell_up hs.c1
  rw [hth] at c1u
  have cru := cell_up (hs.regs htb ht)
  rw [hrv] at cru
  have HS := Hid.out (p := Hid _) hs
  have HMP := Hid.out (p := Hid _) hmp
  have hwn : (if (13 : Int) = 8 then (ib : Int) else if (13 : Int) = 10 then getR s t (ib : Int) else if (13 : Int) = 11 then getR s t (ia : Int) else (ia : Int)) = (ia : Int) := by rfl
  have hW : ∀ o : Obj, Calls Tryz.prog 112 #[ints4 13 (ia : Int) (ib : Int) (ic : Int), .slice (some ⟨rb, 0, none⟩) rg rc] (w.alloc o) fun e w' => e = .returned (.tuple #[.int .i64 (ia : Int), .bool true]) ∧ Below (w.alloc o).heap.size (w.alloc o) w' := fun o => (wordOf_any (w.alloc o) rb rg rc 13 (ia : Int) (ib : Int) (ic : Int) (fun r => getR s t r) (by omega) (by
      intro h
      omega) (by
      intro h
      omega) hrg).mono fun e w' h => ⟨h.1.trans (congrArg (fun z => Ending.returned (.tuple #[.int .i64 z, .bool true])) hwn), h.2⟩
  have HWO := Hid.out (p := Hid _) hW
  obtain ⟨n, hnn⟩ : ∃ n, s.ths.length = n := ⟨_, rfl⟩
  have HNN : Hid (s.ths.length = n) := hnn
  rw [hnn] at c1u ht hn
  clear hmp hs hth hrv hrn hW hwn hnn
  go_enter Tryz.func105, Tryz.ntmps105
  go_wp2_with fail
  refine Calls.mono (HWO.out _) ?_
  rintro e w1 ⟨rfl, hb1⟩
  have hbel : Below w.heap.size w w1 := ((Below.refl _ _).alloc (Nat.le_refl _) _).trans (hb1.mono (by simp))
  have hs1 := HS.out.below hbel
  have c0 := hs1.c0
  have mHas := hM.mHas w1 B Q sb mb v s rfl hs1
  have i0 := (hb1.cell (p := ⟨w.heap.size, 0, none⟩) (by simp)).trans (show (w.alloc (.cells #[.int .i64 13, .int .i64 (ia : Int), .int .i64 (ib : Int), .int .i64 (ic : Int)] 37)).cell? ⟨w.heap.size, 0, none⟩ = some (.int .i64 13) by go_simp)
  have i1 := (hb1.cell (p := ⟨w.heap.size, 1, none⟩) (by simp)).trans (show (w.alloc (.cells #[.int .i64 13, .int .i64 (ia : Int), .int .i64 (ib : Int), .int .i64 (ic : Int)] 37)).cell? ⟨w.heap.size, 1, none⟩ = some (.int .i64 (ia : Int)) by go_simp)
  have i2 := (hb1.cell (p := ⟨w.heap.size, 2, none⟩) (by simp)).trans (show (w.alloc (.cells #[.int .i64 13, .int .i64 (ia : Int), .int .i64 (ib : Int), .int .i64 (ic : Int)] 37)).cell? ⟨w.heap.size, 2, none⟩ = some (.int .i64 (ib : Int)) by go_simp)
  have i3 := (hb1.cell (p := ⟨w.heap.size, 3, none⟩) (by simp)).trans (show (w.alloc (.cells #[.int .i64 13, .int .i64 (ia : Int), .int .i64 (ib : Int), .int .i64 (ic : Int)] 37)).cell? ⟨w.heap.size, 3, none⟩ = some (.int .i64 (ic : Int)) by go_simp)
  have lsb := lt_of_cell c0
  have lwb : w.heap.size < w1.heap.size := by have := hb1.size; simp at this; omega
  have HHAS := Hid.out (p := Hid _) (has_yes w1 B Q sb mb v s (ia : Int) hs1 hwl ⟨by omega, by omega⟩)
  have HS1 := Hid.out (p := Hid _) hs1
  have HBEL := Hid.out (p := Hid _) hbel
  have HMP1 := Hid.out (p := Hid _) (HMP.out.below hbel)
  clear hs1 hbel hb1 HWO
  go_wp2_with fail
  refine Calls.mono HHAS.out ?_
  rintro e w2 ⟨rfl, rfl⟩
  have mS0 := hM.mSwap w2 B Q sb mb v s rfl HS1.out
  have mS1 := hM.mSwap w2.drew B Q sb mb v s rfl (HS1.out.same rfl)
  have mS2 := hM.mSwap w2.drew.drew B Q sb mb v s rfl (HS1.out.same rfl)
  obtain ⟨VB, eB⟩ : ∃ x, getR s t (ib : Int) = x := ⟨_, rfl⟩
  obtain ⟨VC, eC⟩ : ∃ x, getR s t (ic : Int) = x := ⟨_, rfl⟩
  have wb := HS1.out.reg hrb (r := ib) (by omega)
  have wc := HS1.out.reg hrb (r := ic) (by omega)
  rw [eB] at wb
  rw [eC] at wc
  have fb := HS1.out.fam.frozen hrb ib
  have hlrb2 : rb < w2.heap.size := HS1.out.fam.lt hrb
  rw [eB] at heq
  rw [eC] at hst
  have HST := Hid.out (p := Hid _) (fun W (e : W.heap = w2.heap) => pswap_yes W B Q sb mb v s (t : Int) VB VC ia (HS1.out.same e) hwl (by omega) heq)
  have HSTT : Hid (orderX Q.K.mode s t _ _ _ _ = _) := hst
  clear eB eC HHAS hst heq
  have hmo : ∀ r, (v r).ownBlock ≠ some w.heap.size := fun r e => by have := HS.out.fam.lt e; omega
  have HMO := Hid.out (p := Hid _) hmo
  have hne0 : (⟨w.heap.size, 1, none⟩ : Addr).block ≠ (⟨rb, ib, none⟩ : Addr).block := fun e => hmo (.regs t) (by rw [hrb]; exact congrArg some e.symm)
  have hne1 : (⟨w.heap.size, 2, none⟩ : Addr).block ≠ (⟨rb, ib, none⟩ : Addr).block := hne0
  have hne2 : (⟨w.heap.size, 3, none⟩ : Addr).block ≠ (⟨rb, ib, none⟩ : Addr).block := hne0
  have hne3 : (⟨sb, 0, none⟩ : Addr).block ≠ (⟨rb, ib, none⟩ : Addr).block := HS.out.fam.ne HS.out.bst hrb (by simp)
  clear hmo
  go_wp2
  refine wp_region_held_drew (S := (fun w' : World => w'.cell? ⟨w.heap.size, 1, none⟩ = some (.int .i64 (ia : Int)) ∧ w'.cell? ⟨w.heap.size, 2, none⟩ = some (.int .i64 (ib : Int)) ∧ w'.cell? ⟨w.heap.size, 3, none⟩ = some (.int .i64 (ic : Int)) ∧ w'.cell? ⟨sb, 0, none⟩ = some (.iface Q.K.tid (.pointer (some ⟨Q.top mb, 0, none⟩))))) (by kernel_rfl) (by refine ⟨?_, ?_, ?_, ?_⟩ <;> (first | assumption | (refine cell_drew ?_; assumption) | (refine cell_far ?_ ?_ <;> assumption))) (fun hHeld => ?_)
  try simp only [Act.put, List.setIfInBounds_toArray, List.set_cons_zero, List.set_cons_succ, List.getElem_toArray, List.getElem_cons_succ, List.getElem_cons_zero]
  refine wpAnyH_take (i := 0) (v := .slice (some ⟨rb, 0, none⟩) rg rc) rfl (by kernel_rfl) (by kernel_rfl) (by kernel_rfl) (fun _ _ _ h => h) (Or.inl ⟨by rfl, by intro w hSw; obtain ⟨h1, h2, h3, h0⟩ := hSw; first | (go_simp; done) | (go_simp; with_reducible rfl)⟩) (by assumption) ?_
  try simp only [Act.put, List.setIfInBounds_toArray, List.set_cons_zero, List.set_cons_succ, List.getElem_toArray, List.getElem_cons_zero]
  refine wpAnyH_take (i := 1) (v := .pointer (some ⟨w.heap.size, 2, none⟩)) rfl (by kernel_rfl) (by kernel_rfl) (by kernel_rfl) (fun _ _ _ h => h) (Or.inl ⟨by rfl, by intro w hSw; obtain ⟨h1, h2, h3, h0⟩ := hSw; first | (go_simp; done) | (go_simp; with_reducible rfl)⟩) (by assumption) ?_
  try simp only [Act.put, List.setIfInBounds_toArray, List.set_cons_zero, List.set_cons_succ, List.getElem_toArray, List.getElem_cons_succ, List.getElem_cons_zero]
  refine wpAnyH_take (i := 2) (v := .int .i64 (ib : Int)) rfl (by kernel_rfl) (by kernel_rfl) (by kernel_rfl) (fun _ _ _ h => h) (Or.inl ⟨by rfl, by intro w hSw; obtain ⟨h1, h2, h3, h0⟩ := hSw; first | (go_simp; done) | (go_simp; with_reducible rfl)⟩) (by assumption) ?_
  try simp only [Act.put, List.setIfInBounds_toArray, List.set_cons_zero, List.set_cons_succ, List.getElem_toArray, List.getElem_cons_succ, List.getElem_cons_zero]
  refine wpAnyH_take (i := 3) (v := .pointer (some ⟨sb, 0, none⟩)) rfl (by kernel_rfl) (by kernel_rfl) (by kernel_rfl) (fun _ _ _ h => h) (Or.inl ⟨by rfl, by intro w hSw; obtain ⟨h1, h2, h3, h0⟩ := hSw; first | (go_simp; done) | (go_simp; with_reducible rfl)⟩) (by assumption) ?_
  try simp only [Act.put, List.setIfInBounds_toArray, List.set_cons_zero, List.set_cons_succ, List.getElem_toArray, List.getElem_cons_succ, List.getElem_cons_zero]
  refine wpAnyH_take (i := 4) (v := .pointer (some ⟨sb, 0, none⟩)) rfl (by kernel_rfl) (by kernel_rfl) (by kernel_rfl) (fun _ _ _ h => h) (Or.inl ⟨by rfl, by intro w hSw; obtain ⟨h1, h2, h3, h0⟩ := hSw; first | (go_simp; done) | (go_simp; with_reducible rfl)⟩) (by assumption) ?_
  try simp only [Act.put, List.setIfInBounds_toArray, List.set_cons_zero, List.set_cons_succ, List.getElem_toArray, List.getElem_cons_succ, List.getElem_cons_zero]
  refine wpAnyH_take (i := 5) (v := .pointer (some ⟨sb, 0, none⟩)) rfl (by kernel_rfl) (by kernel_rfl) (by kernel_rfl) (fun _ _ _ h => h) (Or.inl ⟨by rfl, by intro w hSw; obtain ⟨h1, h2, h3, h0⟩ := hSw; first | (go_simp; done) | (go_simp; with_reducible rfl)⟩) (by assumption) ?_
  try simp only [Act.put, List.setIfInBounds_toArray, List.set_cons_zero, List.set_cons_succ, List.getElem_toArray, List.getElem_cons_succ, List.getElem_cons_zero]
  refine wpAnyH_take (i := 6) (v := .iface Q.K.tid (.pointer (some ⟨Q.top mb, 0, none⟩))) rfl (by kernel_rfl) (by kernel_rfl) (by kernel_rfl) (fun _ _ _ h => h) (Or.inl ⟨by rfl, by intro w hSw; obtain ⟨h1, h2, h3, h0⟩ := hSw; first | (go_simp; done) | (go_simp; with_reducible rfl)⟩) (by assumption) ?_
  try simp only [Act.put, List.setIfInBounds_toArray, List.set_cons_zero, List.set_cons_succ, List.getElem_toArray, List.getElem_cons_succ, List.getElem_cons_zero]
  refine wpAnyH_take (i := 7) (v := .int .i64 (t : Int)) rfl (by kernel_rfl) (by kernel_rfl) (by kernel_rfl) (fun _ _ _ h => h) (Or.inl ⟨by rfl, by intro w hSw; obtain ⟨h1, h2, h3, h0⟩ := hSw; first | (go_simp; done) | (go_simp; with_reducible rfl)⟩) (by assumption) ?_
  try simp only [Act.put, List.setIfInBounds_toArray, List.set_cons_zero, List.set_cons_succ, List.getElem_toArray, List.getElem_cons_succ, List.getElem_cons_zero]
  refine wpAnyH_take (i := 8) (v := .int .i64 (ia : Int)) rfl (by kernel_rfl) (by kernel_rfl) (by kernel_rfl) (fun _ _ _ h => h) (Or.inl ⟨by rfl, by intro w hSw; obtain ⟨h1, h2, h3, h0⟩ := hSw; first | (go_simp; done) | (go_simp; with_reducible rfl)⟩) (by assumption) ?_
  try simp only [Act.put, List.setIfInBounds_toArray, List.set_cons_zero, List.set_cons_succ, List.getElem_toArray, List.getElem_cons_succ, List.getElem_cons_zero]
  refine wpAnyH_take (i := 9) (v := .slice (some ⟨rb, 0, none⟩) rg rc) rfl (by kernel_rfl) (by kernel_rfl) (by kernel_rfl) (fun _ _ _ h => h) (Or.inl ⟨by rfl, by intro w hSw; obtain ⟨h1, h2, h3, h0⟩ := hSw; first | (go_simp; done) | (go_simp; with_reducible rfl)⟩) (by assumption) ?_
  try simp only [Act.put, List.setIfInBounds_toArray, List.set_cons_zero, List.set_cons_succ, List.getElem_toArray, List.getElem_cons_succ, List.getElem_cons_zero]
  refine wpAnyH_take (i := 10) (v := .pointer (some ⟨w.heap.size, 2, none⟩)) rfl (by kernel_rfl) (by kernel_rfl) (by kernel_rfl) (fun _ _ _ h => h) (Or.inl ⟨by rfl, by intro w hSw; obtain ⟨h1, h2, h3, h0⟩ := hSw; first | (go_simp; done) | (go_simp; with_reducible rfl)⟩) (by assumption) ?_
  try simp only [Act.put, List.setIfInBounds_toArray, List.set_cons_zero, List.set_cons_succ, List.getElem_toArray, List.getElem_cons_succ, List.getElem_cons_zero]
  refine wpAnyH_take (i := 11) (v := .int .i64 (ib : Int)) rfl (by kernel_rfl) (by kernel_rfl) (by kernel_rfl) (fun _ _ _ h => h) (Or.inl ⟨by rfl, by intro w hSw; obtain ⟨h1, h2, h3, h0⟩ := hSw; first | (go_simp; done) | (go_simp; with_reducible rfl)⟩) (by assumption) ?_
  try simp only [Act.put, List.setIfInBounds_toArray, List.set_cons_zero, List.set_cons_succ, List.getElem_toArray, List.getElem_cons_succ, List.getElem_cons_zero]
  refine wpAnyH_take (i := 12) (v := .pointer (some ⟨rb, ib, none⟩)) rfl (by kernel_rfl) (by kernel_rfl) (by kernel_rfl) (fun _ _ _ h => h) (Or.inl ⟨by rfl, by intro w hSw; obtain ⟨h1, h2, h3, h0⟩ := hSw; first | (go_simp; done) | (go_simp; with_reducible rfl)⟩) (by assumption) ?_
  try simp only [Act.put, List.setIfInBounds_toArray, List.set_cons_zero, List.set_cons_succ, List.getElem_toArray, List.getElem_cons_succ, List.getElem_cons_zero]
  refine wpAnyH_take (i := 14) (v := .slice (some ⟨rb, 0, none⟩) rg rc) rfl (by kernel_rfl) (by kernel_rfl) (by kernel_rfl) (fun _ _ _ h => h) (Or.inl ⟨by rfl, by intro w hSw; obtain ⟨h1, h2, h3, h0⟩ := hSw; first | (go_simp; done) | (go_simp; with_reducible rfl)⟩) (by assumption) ?_
  try simp only [Act.put, List.setIfInBounds_toArray, List.set_cons_zero, List.set_cons_succ, List.getElem_toArray, List.getElem_cons_succ, List.getElem_cons_zero]
  refine wpAnyH_take (i := 15) (v := .pointer (some ⟨w.heap.size, 3, none⟩)) rfl (by kernel_rfl) (by kernel_rfl) (by kernel_rfl) (fun _ _ _ h => h) (Or.inl ⟨by rfl, by intro w hSw; obtain ⟨h1, h2, h3, h0⟩ := hSw; first | (go_simp; done) | (go_simp; with_reducible rfl)⟩) (by assumption) ?_
  try simp only [Act.put, List.setIfInBounds_toArray, List.set_cons_zero, List.set_cons_succ, List.getElem_toArray, List.getElem_cons_succ, List.getElem_cons_zero]
  refine wpAnyH_take (i := 16) (v := .int .i64 (ic : Int)) rfl (by kernel_rfl) (by kernel_rfl) (by kernel_rfl) (fun _ _ _ h => h) (Or.inl ⟨by rfl, by intro w hSw; obtain ⟨h1, h2, h3, h0⟩ := hSw; first | (go_simp; done) | (go_simp; with_reducible rfl)⟩) (by assumption) ?_
  try simp only [Act.put, List.setIfInBounds_toArray, List.set_cons_zero, List.set_cons_succ, List.getElem_toArray, List.getElem_cons_succ, List.getElem_cons_zero]
  refine wpAnyH_take (i := 17) (v := .pointer (some ⟨rb, ic, none⟩)) rfl (by kernel_rfl) (by kernel_rfl) (by kernel_rfl) (fun _ _ _ h => h) (Or.inl ⟨by rfl, by intro w hSw; obtain ⟨h1, h2, h3, h0⟩ := hSw; first | (go_simp; done) | (go_simp; with_reducible rfl)⟩) (by assumption) ?_
  try simp only [Act.put, List.setIfInBounds_toArray, List.set_cons_zero, List.set_cons_succ, List.getElem_toArray, List.getElem_cons_succ, List.getElem_cons_zero]
  refine wpAnyH_take (i := 19) (v := .iface Q.K.tid (.pointer (some ⟨Q.top mb, 0, none⟩))) rfl (by kernel_rfl) (by kernel_rfl) (by kernel_rfl) (fun _ _ _ h => h) (Or.inl ⟨by rfl, by intro w hSw; obtain ⟨h1, h2, h3, h0⟩ := hSw; first | (go_simp; done) | (go_simp; with_reducible rfl)⟩) (by assumption) ?_
  try simp only [Act.put, List.setIfInBounds_toArray, List.set_cons_zero, List.set_cons_succ, List.getElem_toArray, List.getElem_cons_succ, List.getElem_cons_zero]
  refine wpAnyH_take (i := 20) (v := .iface Q.K.tid (.pointer (some ⟨Q.top mb, 0, none⟩))) rfl (by kernel_rfl) (by kernel_rfl) (by kernel_rfl) (fun _ _ _ h => h) (Or.inl ⟨by rfl, by intro w hSw; obtain ⟨h1, h2, h3, h0⟩ := hSw; first | (go_simp; done) | (go_simp; with_reducible rfl)⟩) (by assumption) ?_
  try simp only [Act.put, List.setIfInBounds_toArray, List.set_cons_zero, List.set_cons_succ, List.getElem_toArray, List.getElem_cons_succ, List.getElem_cons_zero]
  refine wpAnyH_ready (rs := [13, 18]) (by kernel_rfl) (by simp) (AllReadyH.cons rfl (fun K hK => ?_) (AllReadyH.cons rfl (fun K hK => ?_) AllReadyH.nil))
  · go_simp
    refine hK.out _ _ (by refine ⟨?_, ?_, ?_, ?_⟩ <;> (first | assumption | (refine cell_drew ?_; assumption) | (refine cell_far ?_ ?_ <;> assumption))) (fun hHeld => ?_)
    clear hK K
    try simp only [Act.put, List.setIfInBounds_toArray, List.set_cons_zero, List.set_cons_succ, List.getElem_toArray, List.getElem_cons_succ, List.getElem_cons_zero]
    refine wpAnyH_ready (rs := [18]) (by kernel_rfl) (by simp) (AllReadyH.cons rfl (fun K hK => ?_) AllReadyH.nil)
    go_simp
    refine hK.out _ _ (by refine ⟨?_, ?_, ?_, ?_⟩ <;> (first | assumption | (refine cell_drew ?_; assumption) | (refine cell_far ?_ ?_ <;> assumption))) (fun hHeld => ?_)
    clear hK K
    try simp only [Act.put, List.setIfInBounds_toArray, List.set_cons_zero, List.set_cons_succ, List.getElem_toArray, List.getElem_cons_succ, List.getElem_cons_zero]
    refine wpAnyH_ready (rs := [21]) (by kernel_rfl) (by simp) (AllReadyH.cons rfl (fun K hK => ?_) AllReadyH.nil)
    go_simp
    refine Calls.mono (HST.out _ rfl) ?_
    rintro e w3 ⟨rfl, hq3, hm3⟩
    have wb3 := hq3.reg hrb (r := ib) (by show ib < (thOf s t).regs.length; omega)
    have fb3 := hq3.fam.frozen hrb ib
    have j1 := (hm3.cell (a := ⟨w.heap.size, 1, none⟩) lwb HMO.out).trans i1
    have j2 := (hm3.cell (a := ⟨w.heap.size, 2, none⟩) lwb HMO.out).trans i2
    have j3 := (hm3.cell (a := ⟨w.heap.size, 3, none⟩) lwb HMO.out).trans i3
    have j0 := hq3.c0
    have HF := Hid.out (p := Hid _) (⟨hq3.setReg hrb (by show t < s.ths.length; rw [HNN.out]; exact ht) ib 1, ((Moved.of_below HBEL.out).drew.trans hm3).put hrb ib _⟩ : QSt (w3.setCell ⟨rb, ib, none⟩ (.int .i64 1)) B Q sb mb v (setR { s with words := s.words.set ia VC } t (ib : Int) 1) ∧ Moved w (w3.setCell ⟨rb, ib, none⟩ (.int .i64 1)) v v)
    clear hq3 hm3
    go_wp2_with fail
    refine hK.out _ _ (by refine ⟨?_, ?_, ?_, ?_⟩ <;> (first | assumption | (refine cell_drew ?_; assumption) | (refine cell_far ?_ ?_ <;> assumption))) (fun hHeld => ?_)
    clear hK K
    try simp only [Act.put, List.setIfInBounds_toArray, List.set_cons_zero, List.set_cons_succ, List.getElem_toArray, List.getElem_cons_succ, List.getElem_cons_zero]
    refine wpAnyH_ready (rs := [22]) (by kernel_rfl) (by simp) (AllReadyH.cons rfl (fun K hK => ?_) AllReadyH.nil)
    go_simp
    go_at_call 113
    refine (truth_any _ _).mono ?_
    rintro e w4 ⟨rfl, rfl⟩
    go_wp2_with fail
    refine hK.out _ _ (by refine ⟨?_, ?_, ?_, ?_⟩ <;> (first | assumption | (refine cell_drew ?_; assumption) | (refine cell_far ?_ ?_ <;> assumption))) (fun hHeld => ?_)
    clear hK K
    try simp only [Act.put, List.setIfInBounds_toArray, List.set_cons_zero, List.set_cons_succ, List.getElem_toArray, List.getElem_cons_succ, List.getElem_cons_zero]
    refine wpAnyH_ready (rs := [23]) (by kernel_rfl) (by simp) (AllReadyH.cons rfl (fun K hK => ?_) AllReadyH.nil)
    go_simp
    refine hK.out _ _ (by refine ⟨?_, ?_, ?_, ?_⟩ <;> (first | assumption | (refine cell_drew ?_; assumption) | (refine cell_far ?_ ?_ <;> assumption))) (fun hHeld => ?_)
    clear hK K
    try simp only [Act.put, List.setIfInBounds_toArray, List.set_cons_zero, List.set_cons_succ, List.getElem_toArray, List.getElem_cons_succ, List.getElem_cons_zero]
    refine wpAnyH_ready (rs := [24]) (by kernel_rfl) (by simp) (AllReadyH.cons rfl (fun K hK => ?_) AllReadyH.nil)
    go_simp
    refine hK.out _ _ (by refine ⟨?_, ?_, ?_, ?_⟩ <;> (first | assumption | (refine cell_drew ?_; assumption) | (refine cell_far ?_ ?_ <;> assumption))) (fun hHeld => ?_)
    clear hK K
    try simp only [Act.put, List.setIfInBounds_toArray, List.set_cons_zero, List.set_cons_succ, List.getElem_toArray, List.getElem_cons_succ, List.getElem_cons_zero]
    refine wpAnyH_done (by kernel_rfl) ?_ _
    go_wp2
    go_ret
    refine ⟨?_, v, ?_, ?_⟩
    · rw [HSTT.out]; show _ = Ending.returned (.bool (!s.fell)); rw [hf]; rfl
    · rw [HSTT.out]; exact QSt.same HF.out.1 rfl
    · exact Moved.same HF.out.2 rfl rfl rfl rfl
  · go_simp
    refine hK.out _ _ (by refine ⟨?_, ?_, ?_, ?_⟩ <;> (first | assumption | (refine cell_drew ?_; assumption) | (refine cell_far ?_ ?_ <;> assumption))) (fun hHeld => ?_)
    clear hK K
    try simp only [Act.put, List.setIfInBounds_toArray, List.set_cons_zero, List.set_cons_succ, List.getElem_toArray, List.getElem_cons_succ, List.getElem_cons_zero]
    refine wpAnyH_ready (rs := [13]) (by kernel_rfl) (by simp) (AllReadyH.cons rfl (fun K hK => ?_) AllReadyH.nil)
    go_simp
    refine hK.out _ _ (by refine ⟨?_, ?_, ?_, ?_⟩ <;> (first | assumption | (refine cell_drew ?_; assumption) | (refine cell_far ?_ ?_ <;> assumption))) (fun hHeld => ?_)
    clear hK K
    try simp only [Act.put, List.setIfInBounds_toArray, List.set_cons_zero, List.set_cons_succ, List.getElem_toArray, List.getElem_cons_succ, List.getElem_cons_zero]
    refine wpAnyH_ready (rs := [21]) (by kernel_rfl) (by simp) (AllReadyH.cons rfl (fun K hK => ?_) AllReadyH.nil)
    go_simp
    refine Calls.mono (HST.out _ rfl) ?_
    rintro e w3 ⟨rfl, hq3, hm3⟩
    have wb3 := hq3.reg hrb (r := ib) (by show ib < (thOf s t).regs.length; omega)
    have fb3 := hq3.fam.frozen hrb ib
    have j1 := (hm3.cell (a := ⟨w.heap.size, 1, none⟩) lwb HMO.out).trans i1
    have j2 := (hm3.cell (a := ⟨w.heap.size, 2, none⟩) lwb HMO.out).trans i2
    have j3 := (hm3.cell (a := ⟨w.heap.size, 3, none⟩) lwb HMO.out).trans i3
    have j0 := hq3.c0
    have HF := Hid.out (p := Hid _) (⟨hq3.setReg hrb (by show t < s.ths.length; rw [HNN.out]; exact ht) ib 1, ((Moved.of_below HBEL.out).drew.trans hm3).put hrb ib _⟩ : QSt (w3.setCell ⟨rb, ib, none⟩ (.int .i64 1)) B Q sb mb v (setR { s with words := s.words.set ia VC } t (ib : Int) 1) ∧ Moved w (w3.setCell ⟨rb, ib, none⟩ (.int .i64 1)) v v)
    clear hq3 hm3
    go_wp2_with fail
    refine hK.out _ _ (by refine ⟨?_, ?_, ?_, ?_⟩ <;> (first | assumption | (refine cell_drew ?_; assumption) | (refine cell_far ?_ ?_ <;> assumption))) (fun hHeld => ?_)
    clear hK K
    try simp only [Act.put, List.setIfInBounds_toArray, List.set_cons_zero, List.set_cons_succ, List.getElem_toArray, List.getElem_cons_succ, List.getElem_cons_zero]
    refine wpAnyH_ready (rs := [22]) (by kernel_rfl) (by simp) (AllReadyH.cons rfl (fun K hK => ?_) AllReadyH.nil)
    go_simp
    go_at_call 113
    refine (truth_any _ _).mono ?_
    rintro e w4 ⟨rfl, rfl⟩
    go_wp2_with fail
    refine hK.out _ _ (by refine ⟨?_, ?_, ?_, ?_⟩ <;> (first | assumption | (refine cell_drew ?_; assumption) | (refine cell_far ?_ ?_ <;> assumption))) (fun hHeld => ?_)
    clear hK K
    try simp only [Act.put, List.setIfInBounds_toArray, List.set_cons_zero, List.set_cons_succ, List.getElem_toArray, List.getElem_cons_succ, List.getElem_cons_zero]
    refine wpAnyH_ready (rs := [23]) (by kernel_rfl) (by simp) (AllReadyH.cons rfl (fun K hK => ?_) AllReadyH.nil)
    go_simp
    refine hK.out _ _ (by refine ⟨?_, ?_, ?_, ?_⟩ <;> (first | assumption | (refine cell_drew ?_; assumption) | (refine cell_far ?_ ?_ <;> assumption))) (fun hHeld => ?_)
    clear hK K
    try simp only [Act.put, List.setIfInBounds_toArray, List.set_cons_zero, List.set_cons_succ, List.getElem_toArray, List.getElem_cons_succ, List.getElem_cons_zero]
    refine wpAnyH_ready (rs := [24]) (by kernel_rfl) (by simp) (AllReadyH.cons rfl (fun K hK => ?_) AllReadyH.nil)
    go_simp
    refine hK.out _ _ (by refine ⟨?_, ?_, ?_, ?_⟩ <;> (first | assumption | (refine cell_drew ?_; assumption) | (refine cell_far ?_ ?_ <;> assumption))) (fun hHeld => ?_)
    clear hK K
    try simp only [Act.put, List.setIfInBounds_toArray, List.set_cons_zero, List.set_cons_succ, List.getElem_toArray, List.getElem_cons_succ, List.getElem_cons_zero]
    refine wpAnyH_done (by kernel_rfl) ?_ _
    go_wp2
    go_ret
    refine ⟨?_, v, ?_, ?_⟩
    · rw [HSTT.out]; show _ = Ending.returned (.bool (!s.fell)); rw [hf]; rfl
    · rw [HSTT.out]; exact QSt.same HF.out.1 rfl
    · exact Moved.same HF.out.2 rfl rfl rfl rfl

set_option maxRecDepth 100000 in
set_option maxHeartbeats 3200000 in
theorem touch_13n (w : World) (B : Nat) (Q : Cd) (sb mb : Nat) (v : Rp → Value) (s : Sx) (rg t : Nat) (ia : Nat) (ib : Nat) (ic : Nat) (hM : MLaw Q.K) (hmp : MPre w B Q sb mb v s t) (ht : t < s.ths.length) (hn : s.ths.length ≤ 4) (hrl : (thOf s t).regs.length = rg) (hrg : rg ≤ 200) (hwl : s.words.length ≤ 64) (hf : s.fell = false) (hne : ¬ s.words.getD ia 0 = getR s t (ib : Int)) (hst : orderX Q.K.mode s t 13 (ia : Int) (ib : Int) (ic : Int) = setR s t (ib : Int) 0) (ha : ia < s.words.length) (hib : ib < rg) (hic : ic < rg) :
    Calls Tryz.prog 105 #[.pointer (some ⟨sb, 0, none⟩), .int .i64 t, ints4 13 (ia : Int) (ib : Int) (ic : Int)] w (StepQ B Q sb mb v w (orderX Q.K.mode s t 13 (ia : Int) (ib : Int) (ic : Int))) := by
  have hs := hmp.hs
  obtain ⟨tb, tc, hth, htb, hltb⟩ := hs.blk .thr (by show 0 < s.ths.length; omega)
  obtain ⟨rb, rc, hrv, hrb, hlrb⟩ := hs.blk (.regs t) (by show 0 < (thOf s t).regs.length; omega)
  change v .thr = .slice (some ⟨tb, 0, none⟩) s.ths.length tc at hth
  have hrn : pN Q s (.regs t) = rg := hrl
  rw [hrn] at hrv
  have c1u := cell_up hs.c1
  rw [hth] at c1u
  have cru := cell_up (hs.regs htb ht)
  rw [hrv] at cru
  have HS := Hid.out (p := Hid _) hs
  have HMP := Hid.out (p := Hid _) hmp
  have hwn : (if (13 : Int) = 8 then (ib : Int) else if (13 : Int) = 10 then getR s t (ib : Int) else if (13 : Int) = 11 then getR s t (ia : Int) else (ia : Int)) = (ia : Int) := by rfl
  have hW : ∀ o : Obj, Calls Tryz.prog 112 #[ints4 13 (ia : Int) (ib : Int) (ic : Int), .slice (some ⟨rb, 0, none⟩) rg rc] (w.alloc o) fun e w' => e = .returned (.tuple #[.int .i64 (ia : Int), .bool true]) ∧ Below (w.alloc o).heap.size (w.alloc o) w' := fun o => (wordOf_any (w.alloc o) rb rg rc 13 (ia : Int) (ib : Int) (ic : Int) (fun r => getR s t r) (by omega) (by
      intro h
      omega) (by
      intro h
      omega) hrg).mono fun e w' h => ⟨h.1.trans (congrArg (fun z => Ending.returned (.tuple #[.int .i64 z, .bool true])) hwn), h.2⟩
  have HWO := Hid.out (p := Hid _) hW
  obtain ⟨n, hnn⟩ : ∃ n, s.ths.length = n := ⟨_, rfl⟩
  have HNN : Hid (s.ths.length = n) := hnn
  rw [hnn] at c1u ht hn
  clear hmp hs hth hrv hrn hW hwn hnn
  go_enter Tryz.func105, Tryz.ntmps105
  go_wp2_with fail
  refine Calls.mono (HWO.out _) ?_
  rintro e w1 ⟨rfl, hb1⟩
  have hbel : Below w.heap.size w w1 := ((Below.refl _ _).alloc (Nat.le_refl _) _).trans (hb1.mono (by simp))
  have hs1 := HS.out.below hbel
  have c0 := hs1.c0
  have mHas := hM.mHas w1 B Q sb mb v s rfl hs1
  have i0 := (hb1.cell (p := ⟨w.heap.size, 0, none⟩) (by simp)).trans (show (w.alloc (.cells #[.int .i64 13, .int .i64 (ia : Int), .int .i64 (ib : Int), .int .i64 (ic : Int)] 37)).cell? ⟨w.heap.size, 0, none⟩ = some (.int .i64 13) by go_simp)
  have i1 := (hb1.cell (p := ⟨w.heap.size, 1, none⟩) (by simp)).trans (show (w.alloc (.cells #[.int .i64 13, .int .i64 (ia : Int), .int .i64 (ib : Int), .int .i64 (ic : Int)] 37)).cell? ⟨w.heap.size, 1, none⟩ = some (.int .i64 (ia : Int)) by go_simp)
  have i2 := (hb1.cell (p := ⟨w.heap.size, 2, none⟩) (by simp)).trans (show (w.alloc (.cells #[.int .i64 13, .int .i64 (ia : Int), .int .i64 (ib : Int), .int .i64 (ic : Int)] 37)).cell? ⟨w.heap.size, 2, none⟩ = some (.int .i64 (ib : Int)) by go_simp)
  have i3 := (hb1.cell (p := ⟨w.heap.size, 3, none⟩) (by simp)).trans (show (w.alloc (.cells #[.int .i64 13, .int .i64 (ia : Int), .int .i64 (ib : Int), .int .i64 (ic : Int)] 37)).cell? ⟨w.heap.size, 3, none⟩ = some (.int .i64 (ic : Int)) by go_simp)
  have lsb := lt_of_cell c0
  have lwb : w.heap.size < w1.heap.size := by have := hb1.size; simp at this; omega
  have HHAS := Hid.out (p := Hid _) (has_yes w1 B Q sb mb v s (ia : Int) hs1 hwl ⟨by omega, by omega⟩)
  have HS1 := Hid.out (p := Hid _) hs1
  have HBEL := Hid.out (p := Hid _) hbel
  have HMP1 := Hid.out (p := Hid _) (HMP.out.below hbel)
  clear hs1 hbel hb1 HWO
  go_wp2_with fail
  refine Calls.mono HHAS.out ?_
  rintro e w2 ⟨rfl, rfl⟩
  have mS0 := hM.mSwap w2 B Q sb mb v s rfl HS1.out
  have mS1 := hM.mSwap w2.drew B Q sb mb v s rfl (HS1.out.same rfl)
  have mS2 := hM.mSwap w2.drew.drew B Q sb mb v s rfl (HS1.out.same rfl)
  obtain ⟨VB, eB⟩ : ∃ x, getR s t (ib : Int) = x := ⟨_, rfl⟩
  obtain ⟨VC, eC⟩ : ∃ x, getR s t (ic : Int) = x := ⟨_, rfl⟩
  have wb := HS1.out.reg hrb (r := ib) (by omega)
  have wc := HS1.out.reg hrb (r := ic) (by omega)
  rw [eB] at wb
  rw [eC] at wc
  have fb := HS1.out.fam.frozen hrb ib
  have hlrb2 : rb < w2.heap.size := HS1.out.fam.lt hrb
  rw [eB] at hne
  have HST := Hid.out (p := Hid _) (fun W (e : W.heap = w2.heap) => pswap_no W B Q sb mb v s (t : Int) VB VC ia (HS1.out.same e) hwl (by omega) hne)
  have HSTT : Hid (orderX Q.K.mode s t _ _ _ _ = _) := hst
  have HF := Hid.out (p := Hid _) (⟨HS1.out.setReg hrb (by rw [HNN.out]; exact ht) ib 0, (Moved.of_below HBEL.out).put hrb ib _⟩ : QSt (w2.setCell ⟨rb, ib, none⟩ (.int .i64 0)) B Q sb mb v (setR s t (ib : Int) 0) ∧ Moved w (w2.setCell ⟨rb, ib, none⟩ (.int .i64 0)) v v)
  clear eB eC HHAS hst hne
  go_wp2
  refine region_tail 24 (by kernel_rfl) (by kernel_rfl) ?_
  simp only [List.take_succ_cons, List.take_zero, List.drop_succ_cons, List.drop_zero]
  repeat still_step
  still_call (HST.out _ rfl)
  repeat still_step
  still_call (truth_any _ _)
  repeat still_step
  refine wpStill_nil ?_
  go_wp2
  go_ret
  refine ⟨?_, v, ?_, ?_⟩
  · rw [HSTT.out]; show _ = Ending.returned (.bool (!s.fell)); rw [hf]; rfl
  · rw [HSTT.out]; exact QSt.same HF.out.1 rfl
  · exact Moved.same HF.out.2 rfl rfl rfl rfl

end Go.Proofs.YtefnmbnakphhfadGreatDoor
