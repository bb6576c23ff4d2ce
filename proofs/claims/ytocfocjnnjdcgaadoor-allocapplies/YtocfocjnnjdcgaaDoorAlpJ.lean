/-
  What an order becomes: by the document.
-/
import Derived.Test.YtocfocjnnjdcgaaDoorIntsS
import Derived.Test.YtocfocjnnjdcgaaDoorAlcA
import Derived.Test.YtocfocjnnjdcgaaDoorLivH
import Derived.Test.YtocfocjnnjdcgaaDoorOwnS
import Derived.Test.YtocfocjnnjdcgaaDoorLivE
import Derived.BigQuiet
import Derived.BigRegion
import Derived.Test.YtocfocjnnjdcgaaDoorCheckR1
import Derived.Test.YtocfocjnnjdcgaaDoorPlain
import Derived.Test.YtocfocjnnjdcgaaDoorCOkP
import Derived.Deep.LoopGhost
import Derived.Deep.CutRange
import Derived.Test.YtocfocjnnjdcgaaDoorLivC
namespace Go.Proofs.YtocfocjnnjdcgaaDoor
open Go.RowKit

theorem place_start (w : World) : ∃ w1, (Instr.makeSlice 23 (.int .i64 3) (.int .i64 3)).run Tryd.prog w = .ok (.slice (some ⟨w.heap.size, 0, none⟩) 3 3) w1 ∧ w1.heap[w.heap.size]? = some (.cells #[.int .i64 0, .int .i64 0, .int .i64 0] 3) ∧ Below w.heap.size w w1 := by
  obtain ⟨i, hi, hz0, hz1, hz2⟩ := info_is infoI
  obtain ⟨w1, r1, r2, r3⟩ := run_makeSlice_full (P := Tryd.prog) w w.heap.size 23 3 i (.int .i64 0) 1 Tryd.underlying23 hi hz0 hz1 .i64 .i64 3 (by omega) (by rw [hz2]; omega) (by unfold maxLen; omega) (Nat.le_refl _)
  have hlow : Below w.heap.size w w1 := (Below.refl _ _).grown r3 (Nat.le_refl _) (fun k hk => by cases hk)
  refine ⟨w1, by simpa using r1, ?_, hlow⟩
  have e : (Value.int .i64 0).cells = #[Value.int .i64 0] := rfl
  rw [Nat.mul_one, e] at r2
  have := owns_heap r2
  rw [this]
  simp [madeCells]
  rfl
/-- Where the registers that an order reads stand, the first i. -/
def plC (k : List Int) (rds : List Int) (i : Nat) : Array Value := #[.int .i64 (if 0 < i then seT k 6 (rds.getD 0 0) else 0), .int .i64 (if 1 < i then seT k 7 (rds.getD 1 0) else 0), .int .i64 0]
theorem plC_put {k rds : List Int} {q : Nat} (hq : q < 2) {v : Int} (hv : seT k (6 + q) (rds.getD q 0) = v) : (plC k rds q).setIfInBounds q (.int .i64 v) = plC k rds (q + 1) := by
  subst hv
  rcases (by omega : q = 0 ∨ q = 1) with rfl | rfl
  · simp [plC]
  · simp [plC]
theorem plC_get {k rds : List Int} {i j : Nat} (hj : j < i) (hi : i ≤ 2) : (plC k rds i)[j]? = some (.int .i64 (seT k (6 + j) (rds.getD j 0))) := by
  rcases (by omega : j = 0 ∨ j = 1) with rfl | rfl
  · simp [plC, hj]
  · simp [plC, hj]
theorem plC_at (k rds : List Int) (i : Nat) {q : Nat} (hq : q < 3) : ∃ v : Int, (plC k rds i)[q]? = some (.int .i64 v) := by
  rcases (by omega : q = 0 ∨ q = 1 ∨ q = 2) with rfl | rfl | rfl <;> exact ⟨_, rfl⟩
/-- While these are found. -/
structure PaM (w W2 W : World) (ob : Nat) (O : Obj) (l : List I4) (cv : Value) : Prop where
  low : Below w.heap.size w W
  far : ∀ g, g ≠ ob → g < W2.heap.size → W.heap[g]? = W2.heap[g]?
  sz : W2.heap.size ≤ W.heap.size
  box : W.heap[ob]? = some O
  code : OwnC W W2.heap.size cv l
theorem PaM.store {w W2 W : World} {ob : Nat} {cs : Array Value} {T : TypeId} {l : List I4} {cv : Value} (h : PaM w W2 W ob (.cells cs T) l cv) (h1 : w.heap.size ≤ ob) (h2 : ob < W2.heap.size) (y : Nat) (v : Value) :
    PaM w W2 (W.setCell ⟨ob, y, none⟩ v) ob (.cells (cs.setIfInBounds y v) T) l cv := by
  refine ⟨h.low.setCell (p := ⟨ob, y, none⟩) h1 _, fun g hg hlt => ?_, ?_, heap_set_same h.box, ?_⟩
  · rw [Below.heap_setCell _ _ _ _ (fun e => hg (by simpa using e)), h.far g hg hlt]
  · simpa using h.sz
  · exact fam_keeps h.code fun g e => by
      have := h.code.lt g e
      rw [Below.heap_setCell _ _ _ _ (fun e2 => by have : g = ob := by simpa using e2
                                                   omega)]
theorem PaM.below {w W2 W V : World} {ob : Nat} {O : Obj} {l : List I4} {cv : Value} (h : PaM w W2 W ob O l cv) (hb : Below W.heap.size W V) (h2 : ob < W2.heap.size) : PaM w W2 V ob O l cv :=
  ⟨h.low.trans (hb.mono h.low.size), fun g hg hlt => by rw [hb.block g (by have := h.sz; omega), h.far g hg hlt], Nat.le_trans h.sz hb.size, (hb.block ob (by have := h.sz; omega)).trans h.box, h.code.below hb⟩
/-- One order more. -/
theorem PaM.more {w W2 W : World} {ob : Nat} {O : Obj} {l : List I4} {cv : Value} (h : PaM w W2 W ob O l cv) (hw2 : w.heap.size ≤ W2.heap.size) (h2 : ob < W2.heap.size) (hl : l.length ≤ 100) (o : I4) :
    ∃ v w6, (AppS #[36, 36] 36 #[cv, .slice (some ⟨W.heap.size, 0, none⟩) 1 1]).run Tryd.prog (W.alloc (.cells #[.int .i64 o.1, .int .i64 o.2.1, .int .i64 o.2.2.1, .int .i64 o.2.2.2] 55)) = .ok v w6 ∧ PaM w W2 w6 ob O (l ++ [o]) v := by
  have hb := below_one W (ordA o)
  have hc : OwnC (W.alloc (ordA o)) W2.heap.size cv l := h.code.below hb
  have hsz : W2.heap.size ≤ (W.alloc (ordA o)).heap.size := Nat.le_trans h.sz hb.size
  obtain ⟨v6, w6, r1, r2, r3, -⟩ := app_code hc hsz (some ⟨W.heap.size, 0, none⟩) 1 [o] (srcL_block (heap_alloc_new W (ordA o))) (by simp; omega)
  have hb6 : Below W2.heap.size (W.alloc (ordA o)) w6 := (Below.refl _ _).grown r3 hsz fun g e => (hc.lt g e).1
  have h' := h.below hb h2
  exact ⟨v6, w6, r1, h'.low.trans (hb6.mono hw2), fun g hg hlt => by rw [hb6.block g hlt, h'.far g hg hlt], Nat.le_trans hsz hb6.size, (hb6.block ob h2).trans h'.box, r2⟩

theorem numbers_blk (op x y z : Int) (w : World) :
    Calls Tryd.prog 32 #[ints4 op x y z] w fun e w' => ∃ lb : Nat, e = .returned (.slice (some ⟨lb, 0, none⟩) 3 3) ∧ w'.heap[lb]? = some (.cells #[.int .i64 x, .int .i64 y, .int .i64 z] 3) ∧ w.heap.size ≤ lb ∧ Below w.heap.size w w' := by
  have h1 := two_at w (.cells #[.int .i64 op, .int .i64 x, .int .i64 y, .int .i64 z] 55) (.cells #[.int .i64 x, .int .i64 y, .int .i64 z] 3)
  have H1 := Hid.out (p := Hid _) h1
  clear h1
  go_enter Tryd.func32, Tryd.ntmps32
  go_wp2
  go_ret
  exact ⟨_, rfl, H1.out.2.2, by omega, H1.out.1⟩
theorem str_idx {s : ByteArray} {n : Nat} {l : UInt8} (h : s.data[n]? = some l) (W : World) : (Instr.index 9 (.string s) (.int .i64 (n : Int))).run Tryd.prog W = .ok (.int .u8 l.toNat) W := by
  have h2 : s[n]? = some l := by
    have h3 : n < s.data.size := (Array.getElem?_eq_some_iff.1 h).1
    have h4 := (Array.getElem?_eq_some_iff.1 h).2
    rw [getElem?_pos s n h3]
    exact congrArg some h4
  simp [Instr.index, run_underlying Tryd.underlying9, asIntOf, Result.andThen, h2]
/-- The numbers of an order, the first n of them turned. -/
def nwC (k : List Int) (x : I4) (n : Nat) : Array Value := #[.int .i64 (nwN k x n 0), .int .i64 (nwN k x n 1), .int .i64 (nwN k x n 2)]
theorem nwC_put {k : List Int} {x : I4} {n : Nat} (hn : n < 3) {v : Int} (hv : nth3 (pnX k x) n = v) : (nwC k x n).setIfInBounds n (.int .i64 v) = nwC k x (n + 1) := by
  subst hv
  rcases (by omega : n = 0 ∨ n = 1 ∨ n = 2) with rfl | rfl | rfl
  · simp [nwC, nwN]
  · simp [nwC, nwN]
  · simp [nwC, nwN]
theorem nwC_same {k : List Int} {x : I4} {n : Nat} (hn : n < 3) (hv : nth3 (pnX k x) n = nth3 x n) : nwC k x n = nwC k x (n + 1) := by
  rcases (by omega : n = 0 ∨ n = 1 ∨ n = 2) with rfl | rfl | rfl
  · simp [nwC, nwN, hv]
  · simp [nwC, nwN, hv]
  · simp [nwC, nwN, hv]
theorem nwC_all (k : List Int) (op a b c : Int) (ho : 1 ≤ op ∧ op ≤ 18) : nwC k (op, a, b, c) (ks op).size = #[.int .i64 (pnX k (op, a, b, c)).2.1, .int .i64 (pnX k (op, a, b, c)).2.2.1, .int .i64 (pnX k (op, a, b, c)).2.2.2] ∧ (pnX k (op, a, b, c)).1 = op := by
  rcases (by omega : op = 1 ∨ op = 2 ∨ op = 3 ∨ op = 4 ∨ op = 5 ∨ op = 6 ∨ op = 7 ∨ op = 8 ∨ op = 9 ∨ op = 10 ∨ op = 11 ∨ op = 12 ∨ op = 13 ∨ op = 14 ∨ op = 15 ∨ op = 16 ∨ op = 17 ∨ op = 18) with rfl | rfl | rfl | rfl | rfl | rfl | rfl | rfl | rfl | rfl | rfl | rfl | rfl | rfl | rfl | rfl | rfl | rfl
  all_goals exact ⟨rfl, rfl⟩
theorem PaM.keep {w W2 W V : World} {ob B : Nat} {O : Obj} {l : List I4} {cv : Value} (h : PaM w W2 W ob O l cv) (hk : ∀ g, g < B → V.heap[g]? = W.heap[g]?) (hB : W2.heap.size ≤ B) (ho : ob < B) (hc : ∀ g, cv.ownBlock = some g → g < B) (hlow : Below w.heap.size w V) (hsz : W2.heap.size ≤ V.heap.size) : PaM w W2 V ob O l cv :=
  ⟨hlow, fun g hg hlt => by rw [hk g (by omega), h.far g hg hlt], hsz, (hk ob ho).trans h.box, fam_keeps h.code fun g e => hk g (hc g e)⟩
theorem nwC_at (k : List Int) (x : I4) (i : Nat) {q : Nat} (hq : q < 3) : ∃ v : Int, (nwC k x i)[q]? = some (.int .i64 v) := by
  rcases (by omega : q = 0 ∨ q = 1 ∨ q = 2) with rfl | rfl | rfl <;> exact ⟨_, rfl⟩

attribute [local go_sem ↓] appS_eq in
set_option maxRecDepth 100000 in
set_option maxHeartbeats 6400000 in
theorem rpaint_any (w : World) (ka : Option Addr) (kc : Nat) (k : List Int) (wa : Option Addr) (wc : Nat) (ws : List Int) (wd : Nat → Nat) (rg m lk sz : Nat) (op a b c : Int) (h : ordE rg m lk sz op a b c = 0) (hk : SIs w ka k) (hkl : k.length = rg) (hws : SIs w wa ws) (hwl : ws.length = rg) (hwd : ∀ r, r < rg → k.getD r 0 < 0 → ws.getD r 0 = (wd r : Nat)) (hneg : ∀ r, r < rg → -1 ≤ k.getD r 0) :
    Calls Tryd.prog 42 #[ints4 op a b c, .slice ka rg kc, .slice wa rg wc] w fun e w' => ∃ v, e = .returned v ∧ OwnC w' w.heap.size v (pnB k wd (op, a, b, c)) ∧ Below w.heap.size w w' := by
  have ho := ok_op h
  have hS := below_one w (.cells #[.int .i64 op, .int .i64 a, .int .i64 b, .int .i64 c] 55)
  have hx := heap_alloc_new w (.cells #[.int .i64 op, .int .i64 a, .int .i64 b, .int .i64 c] 55)
  obtain ⟨S, hSS⟩ : ∃ V, w.alloc (.cells #[.int .i64 op, .int .i64 a, .int .i64 b, .int .i64 c] 55) = V := ⟨_, rfl⟩
  rw [hSS] at hS hx
  have HSS := Hid.out (p := Hid _) hSS
  have HRD := Hid.out (p := Hid _) (rreads_any op a b c ho S)
  have HWT := Hid.out (p := Hid _) (fun V => rwrites_any op a b c ho V)
  have HS := Hid.out (p := Hid _) (And.intro hS hx)
  have HK := Hid.out (p := Hid _) (And.intro hk (And.intro hkl (And.intro hws (And.intro hwl (And.intro hwd hneg)))))
  have HO := Hid.out (p := Hid _) h
  have hrl : (rdL op a b c).length ≤ 2 := by
    rw [(us_rd a b c ho).1, List.length_map]
    exact usR_len op
  obtain ⟨rds, hrds⟩ : ∃ l, rdL op a b c = l := ⟨_, rfl⟩
  rw [hrds] at HRD hrl
  have HRS := Hid.out (p := Hid _) hrds
  obtain ⟨rn, hrn⟩ : ∃ l, rds.length = l := ⟨_, rfl⟩
  rw [hrn] at HRD hrl
  have HRN := Hid.out (p := Hid _) hrn
  clear h hk hkl hws hwl hwd hneg hS hx hSS hrds hrn
  go_enter Tryd.func42, Tryd.ntmps42
  go_wp2_with fail
  rw [HSS.out]
  refine Calls.mono HRD.out ?_
  rintro e w1 ⟨ra, rc, rfl, hR, hb1⟩
  obtain ⟨W2, hms, hpl, hb2⟩ := place_start w1
  have hb02 : Below w.heap.size w W2 := (HS.out.1.trans (hb1.mono HS.out.1.size)).trans (hb2.mono (HS.out.1.trans (hb1.mono HS.out.1.size)).size)
  have HST : Hid (PaM w W2 W2 w1.heap.size (.cells (plC k rds 0) 3) (loS k wd (op, a, b, c) 0) nilV) := ⟨hb02, fun _ _ _ => rfl, Nat.le_refl _, hpl, World.ownsRow_nil _ _ _ _⟩
  have hlt : w1.heap.size < W2.heap.size := box_lt hpl
  have hle : w.heap.size < w1.heap.size := Nat.lt_of_lt_of_le (box_lt HS.out.2) hb1.size
  have H2 := Hid.out (p := Hid _) (And.intro hR (And.intro hb2 (And.intro (blk hb2 (blk hb1 HS.out.2)) (And.intro hlt hle))))
  clear hR hb1 hpl hb2 hb02 hlt hle HRD
  go_wp2_with fail
  go_loopw [7, 10] (fun ov iv wr => ∃ q : Nat, q ≤ rn ∧ iv = .int .i64 q ∧ Hid (PaM w W2 wr w1.heap.size (.cells (plC k rds q) 3) (loS k wd (op, a, b, c) q) ov)) (fun _ iv _ => rn - (intOf iv).toNat)
  case atStart => exact ⟨0, Nat.zero_le _, rfl, HST.out⟩
  case round =>
    clear HST
    obtain ⟨q, hq, rfl, HI⟩ := hrel
    by_cases hqn : q < rn
    · have hqI : (q : Int) < (rn : Int) := by omega
      obtain ⟨lb, lo, rfl, hc1⟩ := H2.out.1 q (by rw [HRN.out]; exact hqn)
      have hc2 := (H2.out.2.1.cell (lt_of_cell hc1)).trans hc1
      have hlb : lb < w1.heap.size := lt_of_cell hc1
      have hc3 := (World.cell?_of_block (HI.out.far lb (by omega) (lt_of_cell hc2))).trans hc2
      have hin : rds.getD q 0 ∈ rdL op a b c := by
        rw [HRS.out, List.getD_eq_getElem?_getD, List.getElem?_eq_getElem (by rw [HRN.out]; exact hqn)]
        exact List.getElem_mem _
      obtain ⟨hr0, hr1⟩ := ok_rd HO.out _ hin
      obtain ⟨r, hr⟩ : ∃ r : Nat, rds.getD q 0 = r := ⟨(rds.getD q 0).toNat, by omega⟩
      rw [hr] at hc3 hr1
      have hrg : r < rg := by omega
      have hrI : (r : Int) < (rg : Int) := hr1
      obtain ⟨gb, go, rfl, hkc⟩ := (HK.out.1.below HI.out.low) r (by rw [HK.out.2.1]; exact hrg)
      obtain ⟨vb, vo, rfl, hwc0⟩ := HK.out.2.2.1 r (by rw [HK.out.2.2.2.1]; exact hrg)
      have hvb : vb < w.heap.size := lt_of_cell hwc0
      have hwc := (HI.out.low.cell (lt_of_cell hwc0)).trans hwc0
      have hle := H2.out.2.2.2.2
      obtain ⟨v, hv⟩ : ∃ v, k.getD r 0 = v := ⟨_, rfl⟩
      rw [hv] at hkc
      obtain ⟨p, hp⟩ := plC_at k rds q (q := q) (by omega)
      have hpc := box_cell HI.out.box hp
      have hpf : ∀ i, wr.frozen? ⟨w1.heap.size, i, none⟩ = false := fun i => box_free HI.out.box
      have hs1 := HI.out.store (Nat.le_of_lt H2.out.2.2.2.2) H2.out.2.2.2.1 q (.int .i64 v)
      have hset : seT k (6 + q) (rds.getD q 0) = if v < 0 then 6 + (q : Int) else v := by
        rw [hr]
        unfold seT
        rw [show ((r : Int)).toNat = r by omega, hv]
      have hfe : feT k wd (6 + q) (rds.getD q 0) = if v < 0 then ([(8, 6 + (q : Int), ((wd r : Nat) : Int), 0)] : List I4) else [] := by
        rw [hr]
        unfold feT
        rw [show ((r : Int)).toNat = r by omega, hv]
      have HQ := Hid.out (p := Hid _) (And.intro hset hfe)
      have hrd : rdO (op, a, b, c) = rds := HRS.out
      have hlo1 : loS k wd (op, a, b, c) (q + 1) = loS k wd (op, a, b, c) q ++ feT k wd (6 + q) (rds.getD q 0) := by
        show loS k wd (op, a, b, c) q ++ feT k wd (6 + q) ((rdO (op, a, b, c)).getD q 0) = _
        rw [hrd]
      by_cases hneg : v < 0
      · have hwv := HK.out.2.2.2.2.1 r hrg (by rw [hv]; exact hneg)
        rw [hwv] at hwc
        have hs2 := hs1.store (Nat.le_of_lt H2.out.2.2.2.2) H2.out.2.2.2.1 q (.int .i64 (6 + q))
        rw [Array.setIfInBounds_setIfInBounds, plC_put (by omega) (hset.trans (if_pos hneg))] at hs2
        have z1 := cell_far5 (u := .int .i64 (6 + (q : Int))) (o' := q) (cell_far5 (u := .int .i64 v) (o' := q) hc3 (show lb ≠ w1.heap.size by omega)) (show lb ≠ w1.heap.size by omega)
        have z2 := cell_far5 (u := .int .i64 (6 + (q : Int))) (o' := q) (cell_far5 (u := .int .i64 v) (o' := q) hwc (show vb ≠ w1.heap.size by omega)) (show vb ≠ w1.heap.size by omega)
        obtain ⟨v6, w6, hrun6, hN⟩ := hs2.more (Nat.le_trans (Nat.le_of_lt H2.out.2.2.2.2) (Nat.le_of_lt H2.out.2.2.2.1)) H2.out.2.2.2.1 (by have := loS_len k wd (op, a, b, c) q; omega) (8, 6 + (q : Int), ((wd r : Nat) : Int), 0)
        have HN : Hid (PaM w W2 w6 w1.heap.size (.cells (plC k rds (q + 1)) 3) (loS k wd (op, a, b, c) (q + 1)) v6) := by
          rw [hlo1, hfe, if_pos hneg]
          exact hN
        have hsz : ((wr.setCell ⟨w1.heap.size, q, none⟩ (.int .i64 v)).setCell ⟨w1.heap.size, q, none⟩ (.int .i64 (6 + (q : Int)))).heap.size = wr.heap.size := by simp
        rw [hsz] at hrun6
        dsimp only at hrun6
        clear hs1 hs2 hset hfe hlo1 hwc0 hc1 hc2 hin hr0 hr hv hp hrd hN hwv
        go_wp2_with fail
        go_roundw
        case rel => exact ⟨q + 1, by omega, by go_num, HN.out⟩
        case measure => simp [intOf]; omega
      · have hne : decide (v < 0) = false := decide_eq_false hneg
        rw [plC_put (by omega) (hset.trans (if_neg hneg)), ← List.append_nil (loS k wd (op, a, b, c) q), ← (hfe.trans (if_neg hneg)), ← hlo1] at hs1
        have HN := Hid.out (p := Hid _) hs1
        clear hs1 hset hfe hlo1 hwc hc1 hc2 hin hr0 hr hv hp hrd
        go_wp2_with fail
        go_roundw
        case rel => exact ⟨q + 1, by omega, by go_num, HN.out⟩
        case measure => simp [intOf]; omega
    · obtain rfl : rn = q := by omega
      have hlt := H2.out.2.2.2.1
      have hxb := (HI.out.far w.heap.size (Nat.ne_of_lt H2.out.2.2.2.2) (box_lt H2.out.2.2.1)).trans H2.out.2.2.1
      have q0 := box_cell (i := 0) hxb rfl
      have q1 := box_cell (i := 1) hxb rfl
      have q2 := box_cell (i := 2) hxb rfl
      have q3 := box_cell (i := 3) hxb rfl
      go_wp2_with fail
      refine Calls.mono (HWT.out wr) ?_
      rintro e w3 ⟨rfl, hb3⟩
      have hI3 := HI.out.below hb3 hlt
      have hx3 := box_later (blk hb3 hxb) (.cells #[.int .i64 op, .int .i64 a, .int .i64 b, .int .i64 c] 55)
      clear q0 q1 q2 q3
      have q0 := box_cell (i := 0) (blk hb3 hxb) rfl
      have q1 := box_cell (i := 1) (blk hb3 hxb) rfl
      have q2 := box_cell (i := 2) (blk hb3 hxb) rfl
      have q3 := box_cell (i := 3) (blk hb3 hxb) rfl
      have p0 := box_cell (i := 0) hx3 rfl
      have p1 := box_cell (i := 1) hx3 rfl
      have p2 := box_cell (i := 2) hx3 rfl
      have p3 := box_cell (i := 3) hx3 rfl
      obtain ⟨KS, hKS⟩ : ∃ s, ks op = s := ⟨_, rfl⟩
      have HNM : Hid (∀ W, Calls Tryd.prog 31 #[.int .i64 op] W fun e w' => e = .returned (.tuple #[.string (nm op), .string KS]) ∧ w' = W) := fun W => by
        have := name_any op W
        rw [hKS] at this
        exact this
      have HKS := Hid.out (p := Hid _) hKS
      clear hKS
      go_wp2_with fail
      refine Calls.mono (HNM.out _) ?_
      rintro e w4 ⟨rfl, rfl⟩
      have hI4 := hI3.below (below_one w3 (.cells #[.int .i64 op, .int .i64 a, .int .i64 b, .int .i64 c] 55)) hlt
      have hxc := heap_alloc_new w3 (.cells #[.int .i64 op, .int .i64 a, .int .i64 b, .int .i64 c] 55)
      have hV3 : (w3.alloc (.cells #[.int .i64 op, .int .i64 a, .int .i64 b, .int .i64 c] 55)).heap.size = w3.heap.size + 1 := by simp
      have h13 : w1.heap.size < w3.heap.size := box_lt hI3.box
      have hcl := fun g e => (hI3.code.lt g e).2
      have h23 := hI3.sz
      have HI4 := Hid.out (p := Hid _) (And.intro hI4 (And.intro hxc (And.intro hV3 (And.intro h13 (And.intro hcl h23)))))
      clear hI3 hI4 hxc hV3 h13 hcl h23 hx3 hxb HNM hb3 HI
      go_wp2_with fail
      refine Calls.mono (numbers_blk op a b c _) ?_
      rintro e w5 ⟨lb5, rfl, hl5, hge5, hb5⟩
      clear q0 q1 q2 q3 p0 p1 p2 p3
      have hI5 := HI4.out.1.below hb5 hlt
      have hx5 := blk hb5 HI4.out.2.1
      have HST2 : Hid (PaM w w5 w5 lb5 (.cells (nwC k (op, a, b, c) 0) 3) [] nilV) := ⟨hI5.low, fun _ _ _ => rfl, Nat.le_refl _, by rw [hl5]; rfl, World.ownsRow_nil _ _ _ _⟩
      have h5lt : w1.heap.size < w3.heap.size := HI4.out.2.2.2.1
      rw [HI4.out.2.2.1] at hge5
      have H5 := Hid.out (p := Hid _) (And.intro hI5 (And.intro hx5 (And.intro (box_lt hl5) (And.intro hge5 h5lt))))
      have HPO : Hid (∀ n, n < KS.size → _) := fun n hn => by
        have := paint_one k op a b c (ok_op HO.out) ((wr_ok HO.out).imp id (fun h => h.1)) n (by rw [HKS.out]; exact hn)
        rw [HKS.out] at this
        exact this
      clear hI5 hx5 hl5 hge5 hb5 h5lt
      have hks3 : KS.size ≤ 3 := by rw [← HKS.out]; exact ks_size op
      obtain ⟨ksz, hksz⟩ : ∃ z, KS.size = z := ⟨_, rfl⟩
      have HKZ := Hid.out (p := Hid _) hksz
      rw [hksz] at hks3 HPO
      obtain ⟨wl, hwl⟩ : ∃ z, wrL op a b = z := ⟨_, rfl⟩
      rw [hwl] at HPO ⊢
      have HWL := Hid.out (p := Hid _) hwl
      clear hksz hwl
      go_wp2_with fail
      try rw [HKZ.out]
      go_loopw [16, 17] (fun kv nv wi => ∃ n : Nat, n ≤ ksz ∧ nv = .int .i64 n ∧ kv = .int .i64 (kcN op n : Nat) ∧ Hid (PaM w w5 wi lb5 (.cells (nwC k (op, a, b, c) n) 3) [] nilV)) (fun _ nv _ => ksz - (intOf nv).toNat)
      case atStart => exact ⟨0, Nat.zero_le _, rfl, rfl, HST2.out⟩
      case round =>
        clear HST2
        obtain ⟨n, hn, rfl, rfl, HJ⟩ := hrel
        by_cases hnk : n < ksz
        · have hnI : (n : Int) < (KS.size : Int) := by rw [HKZ.out]; omega
          obtain ⟨l, hl, hcase⟩ := HPO.out n hnk
          have hix := str_idx hl
          rcases hcase with ⟨h1, h2, h3⟩ | ⟨rfl, hn0, h2, h3, h4⟩ | ⟨rfl, h2, h3, h4, h5⟩
          · have hne : ((l.toNat : Int) != 114) = true := by
              have : l.toNat ≠ 114 := fun e => h1 (UInt8.toNat_inj.1 (by rw [e]; rfl))
              simp
              omega
            have hN := HJ.out
            rw [nwC_same (by omega) h2] at hN
            have HN := Hid.out (p := Hid _) hN
            clear hN h1 h2 hl
            go_wp2_with fail
            go_roundw
            case rel => exact ⟨n + 1, by omega, by go_num, by rw [h3], HN.out⟩
            case measure => simp [intOf]; omega
          · have e0 : ((n : Int) == 0) = true := by simp; omega
            have hwlt : wl < rg := by
              rcases ok_wr HO.out with e | e
              · rw [HWL.out] at e
                omega
              · rw [HWL.out] at e
                exact e.2
            obtain ⟨s, hs⟩ : ∃ s : Nat, wl = s := ⟨wl.toNat, by omega⟩
            subst hs
            have hsg : s < rg := by omega
            have hsI : (s : Int) < (rg : Int) := by omega
            obtain ⟨gb, go, rfl, hkc0⟩ := HK.out.1 s (by rw [HK.out.2.1]; exact hsg)
            have hkc := (HJ.out.low.cell (lt_of_cell hkc0)).trans hkc0
            obtain ⟨v, hv⟩ : ∃ v, k.getD s 0 = v := ⟨_, rfl⟩
            rw [hv] at hkc
            have hst : seT k 6 (s : Int) = if v < 0 then 6 else v := by
              unfold seT
              rw [show ((s : Int)).toNat = s by omega, hv]
            obtain ⟨p, hp⟩ := nwC_at k (op, a, b, c) n (q := n) (by omega)
            have hpc := box_cell HJ.out.box hp
            have hpf : ∀ i, wr.frozen? ⟨lb5, i, none⟩ = false := fun i => box_free HJ.out.box
            have hle5 : w.heap.size ≤ lb5 := by
              have h6 := H5.out.2.2.2.1
              have h7 := H5.out.2.2.2.2
              have h8 := H2.out.2.2.2.2
              omega
            have hs1 := HJ.out.store hle5 H5.out.2.2.1 n (.int .i64 v)
            have hix' : ∀ W, (Instr.index 9 (.string KS) (.int .i64 (n : Int))).run Tryd.prog W = .ok (.int .u8 114) W := hix
            by_cases hneg : v < 0
            · have hs2 := hs1.store hle5 H5.out.2.2.1 n (.int .i64 6)
              rw [Array.setIfInBounds_setIfInBounds, nwC_put (by omega) (h3.trans (hst.trans (if_pos hneg)))] at hs2
              have HN := Hid.out (p := Hid _) hs2
              clear hs1 hs2 hst h2 h3 hp hv hl hkc0 hix hn0
              go_wp2_with fail
              go_roundw
              case rel => exact ⟨n + 1, by omega, by go_num, by rw [h4], HN.out⟩
              case measure => simp [intOf]; omega
            · have hne : decide (v < 0) = false := decide_eq_false hneg
              rw [nwC_put (by omega) (h3.trans (hst.trans (if_neg hneg)))] at hs1
              have HN := Hid.out (p := Hid _) hs1
              clear hs1 hst h2 h3 hp hv hl hkc0 hix hn0
              go_wp2_with fail
              go_roundw
              case rel => exact ⟨n + 1, by omega, by go_num, by rw [h4], HN.out⟩
              case measure => simp [intOf]; omega
          · rw [HRS.out] at h3 h4
            rw [HRN.out] at h3
            have h13 := H5.out.2.2.2.2
            have h6 := H5.out.2.2.2.1
            have hpb := (HJ.out.far w1.heap.size (by omega) (box_lt H5.out.1.box)).trans H5.out.1.box
            obtain ⟨j, hj⟩ : ∃ j, kcN op n = j := ⟨_, rfl⟩
            rw [hj] at h3 h4 h5 ⊢
            have hjI : (j : Int) < 3 := by omega
            have hpj := box_cell hpb (plC_get h3 hrl)
            obtain ⟨v, hv⟩ : ∃ v, seT k (6 + j) (rds.getD j 0) = v := ⟨_, rfl⟩
            rw [hv] at hpj h4
            obtain ⟨p, hp⟩ := nwC_at k (op, a, b, c) n (q := n) (by omega)
            have hpc := box_cell HJ.out.box hp
            have hpf : ∀ i, wr.frozen? ⟨lb5, i, none⟩ = false := fun i => box_free HJ.out.box
            have hle5 : w.heap.size ≤ lb5 := by
              have h8 := H2.out.2.2.2.2
              omega
            have hs1 := HJ.out.store hle5 H5.out.2.2.1 n (.int .i64 v)
            rw [nwC_put (by omega) h4] at hs1
            have HN := Hid.out (p := Hid _) hs1
            have hix' : ∀ W, (Instr.index 9 (.string KS) (.int .i64 (n : Int))).run Tryd.prog W = .ok (.int .u8 114) W := hix
            by_cases e0 : n = 0
            · have e1 : ((n : Int) == 0) = true := by simp; omega
              have e2 : decide ((0 : Int) ≤ wl) = false := decide_eq_false (fun hh => h2 ⟨e0, hh⟩)
              clear hs1 h2 h4 hp hv hl hix hpb e0
              go_wp2_with fail
              go_roundw
              case rel => exact ⟨n + 1, by omega, by go_num, by rw [h5]; go_num, HN.out⟩
              case measure => simp [intOf]; omega
            · have e1 : ((n : Int) == 0) = false := by simp; omega
              clear hs1 h2 h4 hp hv hl hix hpb
              go_wp2_with fail
              go_roundw
              case rel => exact ⟨n + 1, by omega, by go_num, by rw [h5]; go_num, HN.out⟩
              case measure => simp [intOf]; omega
        · obtain rfl : ksz = n := by omega
          have hkz := HKZ.out
          have hal := nwC_all k op a b c (ok_op HO.out)
          rw [HKS.out, HKZ.out] at hal
          obtain ⟨y, hy⟩ : ∃ y, pnX k (op, a, b, c) = y := ⟨_, rfl⟩
          rw [hy] at hal
          obtain ⟨y0, y1, y2, y3⟩ := y
          obtain ⟨hal, rfl⟩ := hal
          have hbx := HJ.out.box
          rw [hal] at hbx
          have l0 := box_cell (i := 0) hbx rfl
          have l1 := box_cell (i := 1) hbx rfl
          have l2 := box_cell (i := 2) hbx rfl
          have h6 := H5.out.2.2.2.1
          have hxc := (HJ.out.far w3.heap.size (by omega) (box_lt H5.out.2.1)).trans H5.out.2.1
          have c0 := box_cell (i := 0) hxc rfl
          have c1 := box_cell (i := 1) hxc rfl
          have c2 := box_cell (i := 2) hxc rfl
          have c3 := box_cell (i := 3) hxc rfl
          have cf : ∀ i, wr.frozen? ⟨w3.heap.size, i, none⟩ = false := fun i => box_free hxc
          have nl : lb5 ≠ w3.heap.size := by omega
          have nl2 : w3.heap.size ≠ lb5 := by omega
          have hx6 := heap_set_same (i := 3) (u := .int .i64 y3) (heap_set_same (i := 2) (u := .int .i64 y2) (heap_set_same (i := 1) (u := .int .i64 y1) hxc))
          have hle3 : w.heap.size ≤ w3.heap.size := by
            have h7 := H5.out.2.2.2.2
            have h8 := H2.out.2.2.2.2
            omega
          have hlow6 := ((HJ.out.low.setCell (p := ⟨w3.heap.size, 1, none⟩) hle3 (.int .i64 y1)).setCell (p := ⟨w3.heap.size, 2, none⟩) hle3 (.int .i64 y2)).setCell (p := ⟨w3.heap.size, 3, none⟩) hle3 (.int .i64 y3)
          have hk6 : ∀ g, g < w3.heap.size → (((wr.setCell ⟨w3.heap.size, 1, none⟩ (.int .i64 y1)).setCell ⟨w3.heap.size, 2, none⟩ (.int .i64 y2)).setCell ⟨w3.heap.size, 3, none⟩ (.int .i64 y3)).heap[g]? = w5.heap[g]? := fun g hg => by
            have e : ∀ (Z : World) (q : Nat) (u : Value), (Z.setCell ⟨w3.heap.size, q, none⟩ u).heap[g]? = Z.heap[g]? := fun Z q u => Below.heap_setCell _ _ _ _ (fun x => absurd x (by simp; omega))
            rw [e, e, e]
            exact HJ.out.far g (by omega) (by have := box_lt H5.out.2.1; omega)
          have hP6 := H5.out.1.keep hk6 HI4.out.2.2.2.2.2 HI4.out.2.2.2.1 HI4.out.2.2.2.2.1 hlow6 (by
            have h1 := H5.out.1.sz
            have h2 := HJ.out.sz
            simp
            omega)
          have hw2 : w.heap.size ≤ W2.heap.size := Nat.le_trans (Nat.le_of_lt H2.out.2.2.2.2) (Nat.le_of_lt hlt)
          have hll := loS_len k wd (y0, a, b, c) rn
          obtain ⟨v7, w7, hrun7, hP7⟩ := hP6.more hw2 hlt (show (loS k wd (y0, a, b, c) rn).length ≤ 100 by omega) (y0, y1, y2, y3)
          have hsz : ((((wr.setCell ⟨w3.heap.size, 1, none⟩ (.int .i64 y1)).setCell ⟨w3.heap.size, 2, none⟩ (.int .i64 y2)).setCell ⟨w3.heap.size, 3, none⟩ (.int .i64 y3))).heap.size = wr.heap.size := by simp
          rw [hsz] at hrun7
          dsimp only at hrun7
          have hus : (usR y0).length = rn := by
            have h1 := (us_rd a b c (ok_op HO.out)).1
            rw [HRS.out] at h1
            rw [← HRN.out, h1, List.length_map]
          have hpn : ∀ z, keS k wd (y0, a, b, c) = z → pnB k wd (y0, a, b, c) = loS k wd (y0, a, b, c) rn ++ [(y0, y1, y2, y3)] ++ z := fun z hz => by
            show loS k wd (y0, a, b, c) (usR y0).length ++ [pnX k (y0, a, b, c)] ++ keS k wd (y0, a, b, c) = _
            rw [hz, hy, hus]
          have HP7 := Hid.out (p := Hid _) (And.intro hP7 (And.intro hpn hw2))
          have hll2 : (loS k wd (y0, a, b, c) rn ++ [(y0, y1, y2, y3)]).length ≤ 100 := by
            rw [List.length_append, List.length_singleton]
            omega
          clear hP6 hk6 hlow6 hxc hbx hal hy hpn hus hsz hx6 hP7 hll
          by_cases hw0 : 0 ≤ wl
          · have hwlt : wl < rg := by
              rcases ok_wr HO.out with e | e
              · rw [HWL.out] at e
                omega
              · rw [HWL.out] at e
                exact e.2
            have hu0 : usW y0 ≠ 0 := fun e => by
              rcases us_wr a b (ok_op HO.out) with g | g | g
              · have := g.2
                rw [HWL.out] at this
                omega
              · exact absurd (e.symm.trans g.1) (by decide)
              · exact absurd (e.symm.trans g.1) (by decide)
            obtain ⟨s, hs⟩ : ∃ s : Nat, wl = s := ⟨wl.toNat, by omega⟩
            subst hs
            have hsg : s < rg := by omega
            have hsI : (s : Int) < (rg : Int) := by omega
            obtain ⟨gb, go, rfl, hkc0⟩ := HK.out.1 s (by rw [HK.out.2.1]; exact hsg)
            have hkc := (HP7.out.1.low.cell (lt_of_cell hkc0)).trans hkc0
            obtain ⟨v, hv⟩ : ∃ v, k.getD s 0 = v := ⟨_, rfl⟩
            rw [hv] at hkc
            have hke : keS k wd (y0, a, b, c) = if v < 0 then ([(9, ((wd s : Nat) : Int), 6, 0)] : List I4) else [] := by
              unfold keS
              rw [if_neg hu0]
              show keT k wd (wrL y0 a b) = _
              rw [HWL.out]
              unfold keT
              rw [show ((s : Int)).toNat = s by omega, hv]
            by_cases hneg : v < 0
            · have hwv := HK.out.2.2.2.2.1 s hsg (by rw [hv]; exact hneg)
              obtain ⟨vb, vo, rfl, hwc0⟩ := HK.out.2.2.1 s (by rw [HK.out.2.2.2.1]; exact hsg)
              rw [hwv] at hwc0
              have hwc := (HP7.out.1.low.cell (lt_of_cell hwc0)).trans hwc0
              obtain ⟨v9, w9, hrun9, hP9⟩ := HP7.out.1.more hw2 hlt hll2 (9, ((wd s : Nat) : Int), 6, 0)
              dsimp only at hrun9
              rw [if_pos hneg] at hke
              have hpn := HP7.out.2.1 _ hke
              have HFN : Hid (OwnC w9 w.heap.size v9 (pnB k wd (y0, a, b, c)) ∧ Below w.heap.size w w9) := ⟨by rw [hpn]; exact own_low hP9.code hw2, hP9.low⟩
              clear hke hpn hP9 hwv hkc0 hwc0 hu0 hv hwlt
              go_wp2_with fail
              go_ret
              exact ⟨_, rfl, HFN.out⟩
            · have hne : decide (v < 0) = false := decide_eq_false hneg
              rw [if_neg hneg] at hke
              have hpn := HP7.out.2.1 _ hke
              have HFN : Hid (OwnC w7 w.heap.size v7 (pnB k wd (y0, a, b, c)) ∧ Below w.heap.size w w7) := ⟨by rw [hpn, List.append_nil]; exact own_low HP7.out.1.code hw2, HP7.out.1.low⟩
              clear hke hpn hkc0 hu0 hv hwlt
              go_wp2_with fail
              go_ret
              exact ⟨_, rfl, HFN.out⟩
          · have e2 : decide ((0 : Int) ≤ wl) = false := decide_eq_false hw0
            have hke : keS k wd (y0, a, b, c) = [] := by
              rcases wr_ok HO.out with e | e
              · exact if_pos e
              · rw [HWL.out] at e
                omega
            have hpn := HP7.out.2.1 _ hke
            have HFN : Hid (OwnC w7 w.heap.size v7 (pnB k wd (y0, a, b, c)) ∧ Below w.heap.size w w7) := ⟨by rw [hpn, List.append_nil]; exact own_low HP7.out.1.code hw2, HP7.out.1.low⟩
            clear hke hpn hw0
            go_wp2_with fail
            go_ret
            exact ⟨_, rfl, HFN.out⟩

end Go.Proofs.YtocfocjnnjdcgaaDoor
