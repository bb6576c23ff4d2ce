/-
  The document's printer: statements.
-/
import Derived.Test.YtclnjhffcfkihaeGreatDoorSynK2
namespace Go.Proofs.YtclnjhffcfkihaeGreatDoor
open Go.RowKit

/-- Tabs. -/
def tabB (d : Nat) : List UInt8 := List.replicate d 9
theorem tab_is : ∀ d : Nat, pcsB (tabsP d) = tabB d
  | 0 => rfl
  | d + 1 => by
    have := tab_is d
    unfold tabsP tabB at *
    rw [List.replicate_succ, pcsB, this, List.replicate_succ]
    rfl
theorem tab_len (d : Nat) : (tabB d).length = d := by simp [tabB]
theorem tab_next (d : Nat) : tabB (d + 1) = tabB d ++ [9] := by
  unfold tabB
  rw [List.replicate_succ']
set_option maxHeartbeats 800000 in
theorem rindent_any (d : Nat) (hd : d ≤ 100000) (w : World) : Calls Tryz.prog 73 #[.int .i64 (d : Int)] w fun e w' => e = .returned (.string ⟨⟨tabB d⟩⟩) ∧ Below w.heap.size w w' := by
  go_enter Tryz.func73, Tryz.ntmps73
  go_wp2_with fail
  go_loopw [3, 4] (fun s i wr => ∃ (k : Nat) (l : ByteArray), k ≤ d ∧ s = .string l ∧ i = .int .i64 k ∧ Below w.heap.size w wr ∧ Hid (l.data.toList = tabB k)) (fun _ i _ => d - (intOf i).toNat)
  case atStart => exact ⟨0, ⟨#[]⟩, Nat.zero_le _, rfl, rfl, Below.refl _ _, (rfl : ([] : List UInt8) = _)⟩
  case round =>
    obtain ⟨k, l, hk, rfl, rfl, hbr, HI⟩ := hrel
    have hls : l.size ≤ 100000 := by rw [Lib.size_eq, HI.out, tab_len]; omega
    by_cases hlt : k < d
    · go_wp2_with fail
      go_roundw
      case rel => exact ⟨k + 1, _, by omega, rfl, by go_num, hbr, (by show _ = _; rw [app_list, HI.out, tab_next] : Hid _)⟩
      case measure => simp [intOf]; omega
    · obtain rfl : k = d := by omega
      go_wp2_with fail
      go_ret
      exact ⟨ret_str9 HI.out, hbr⟩
/-- A block's statements. -/
def bodP (d : Nat) : Nd → List Pc
  | .mk _ _ _ _ ks => (pcsNs d ks).flatten
theorem pcsN_x {d : Nat} {x : Nd} (h : 15 ≤ kindN x) : pcsN d x = pcsX x := by
  match x, h with
  | .mk k n p t ks, h => rw [pcsN]; exact if_pos h
theorem pcsN_b {d : Nat} {x : Nd} (h : kindN x = 5) : pcsN d x = pS 123 :: .b 10 :: (bodP (d + 1) x ++ (tabsP d ++ [pS 125])) := by
  match x, h with
  | .mk k n p t ks, h =>
    obtain rfl : k = 5 := h
    rw [pcsN, if_neg (by decide), if_pos rfl, partsP, if_pos rfl, bodP]
/-- The document prints a statement, d blocks around. -/
def PrS (rows : List Row) (d : Nat) (x : Nd) : Prop := ∀ (a : Option Addr) (c i : Nat) (w : World), TAt rows x i → NdsR w a rows →
  Calls Tryz.prog 43 #[.slice a rows.length c, .int .i64 (i : Int), .int .i64 (d : Int)] w fun e w' => e = .returned (.string ⟨⟨pcsB (pcsN d x)⟩⟩) ∧ Below w.heap.size w w'
/-- .. a block's statements. -/
def PrB (rows : List Row) (d : Nat) (x : Nd) : Prop := ∀ (a : Option Addr) (c i : Nat) (w : World), TAt rows x i → NdsR w a rows →
  Calls Tryz.prog 27 #[.slice a rows.length c, .int .i64 (i : Int), .int .i64 (d : Int)] w fun e w' => e = .returned (.string ⟨⟨pcsB (bodP d x)⟩⟩) ∧ Below w.heap.size w w'

set_option maxRecDepth 100000 in
set_option maxHeartbeats 3200000 in
theorem rstmt9_local {rows : List Row} {d : Nat} (hd : d ≤ 10000) {p : Int} {t : List UInt8} (ht12 : t.length ≤ 12) {xa : Nd} (hxa : PrX rows xa) (lxa : (pcsB (pcsX xa)).length ≤ 5000000) (kxa : 15 ≤ kindN xa) : PrS rows d (.mk 6 0 p t [xa]) := by
  intro a c i w ht hr
  obtain ⟨hi, is, g, ka, kc, rfl, hnd, hts⟩ := ht.node hr
  obtain ⟨i0, rfl, t0⟩ := ts_one hts
  have x0 := hnd.k
  have x1 := hnd.n
  have x2 := hnd.p
  have x3 := hnd.t
  have x4 := hnd.ks
  obtain ⟨kb, ko, rfl, y0, -⟩ := kid_cell hnd.kin 0 _ rfl
  simp only [List.length_cons, List.length_nil, Nat.zero_add, Nat.add_zero] at x0 x1 x2 x3 x4 y0
  have hi' : (i : Int) < (rows.length : Int) := by omega
  obtain ⟨T, hT⟩ : ∃ S : ByteArray, S = ⟨⟨tabB d⟩⟩ := ⟨_, rfl⟩
  have hTl : T.size ≤ 10000 := by rw [hT, Lib.size_eq]; show (tabB d).length ≤ _; rw [tab_len]; exact hd
  have HT : Hid (∀ W, Calls Tryz.prog 73 #[.int .i64 (d : Int)] W fun e w' => e = .returned (.string T) ∧ Below W.heap.size W w') := fun W => by
    rw [hT]
    exact rindent_any d (by omega) W
  obtain ⟨N, hN⟩ : ∃ S : ByteArray, S = ⟨⟨t⟩⟩ := ⟨_, rfl⟩
  have hNl : N.size ≤ 12 := by rw [hN, Lib.size_eq]; exact ht12
  rw [← hN] at x3
  obtain ⟨S0, hS0⟩ : ∃ S : ByteArray, S = ⟨⟨pcsB (pcsX xa)⟩⟩ := ⟨_, rfl⟩
  have hSl0 : S0.size ≤ 5000000 := by rw [hS0, Lib.size_eq]; exact lxa
  have HX0 : Hid (∀ W, Below w.heap.size w W → Calls Tryz.prog 74 #[.slice (some ⟨g, 0, none⟩) rows.length c, .int .i64 (i0 : Int)] W fun e w' => e = .returned (.string S0) ∧ Below W.heap.size W w') := fun W hW => by
    rw [hS0]
    exact hxa _ c i0 W t0 (hr.below hW)
  have HS := Hid.out (p := Hid _) (And.intro hT (And.intro hN hS0))
  have HC : Hid (∀ (o : Obj) W, Below (w.heap.size + 1) (w.alloc o) W → W.heap[w.heap.size]? = some o ∧ W.cell? ⟨kb, ko, none⟩ = some (.int .i64 (i0 : Int)) ∧ Below w.heap.size w W) := fun o W hW => by
    have hA := (Below.refl w.heap.size w).alloc (Nat.le_refl _) o
    have hB := hA.trans (hW.mono (Nat.le_succ _))
    exact ⟨(hW.block _ (Nat.lt_succ_self _)).trans (heap_alloc_new _ _), (hB.cell (lt_of_cell y0)).trans y0, hB⟩
  obtain ⟨R, hR⟩ : ∃ R, R = pcsB (pcsN d (.mk 6 0 p t [xa])) := ⟨_, rfl⟩
  rw [← hR]
  have HR : Hid (R = (tabB d) ++ ([105, 110, 116, 32] : List UInt8) ++ t ++ ([32, 61, 32] : List UInt8) ++ (pcsB (pcsX xa)) ++ ([59, 10] : List UInt8)) := by
    show _ = _
    have qxa : pcsN d xa = pcsX xa := pcsN_x kxa
    rw [hR]
    simp [pcsN, partsP, pcsNs, pcsB_app, pcsB, pcB, tab_is, qxa]
  clear hnd hr ht hts hR hT hN hS0 t0 hxa
  go_enter Tryz.func43, Tryz.ntmps43
  go_wp2_with fail
  refine Calls.mono (HT.out _) ?_
  rintro e w1 ⟨rfl, hb1⟩
  rw [show ∀ o, (w.alloc o).heap.size = w.heap.size + 1 from fun o => by simp] at hb1
  obtain ⟨hx1, z0, hB1⟩ := HC.out _ _ hb1
  obtain ⟨e0, e1, e2, e3, e4, ef⟩ := box5 hx1
  have HB1 := Hid.out (p := Hid _) (And.intro hb1 hB1)
  clear hx1 hB1 hb1 x0 x1 x2 x3 x4 y0
  go_wp2_with fail
  refine Calls.mono (HX0.out _ HB1.out.2) ?_
  rintro e w2 ⟨rfl, hb2⟩
  have hb2' := HB1.out.1.trans (hb2.mono (by have := HB1.out.1.size; simp at this; omega))
  obtain ⟨hx2, z0, hB2⟩ := HC.out _ _ hb2'
  clear e0 e1 e2 e3 e4 ef
  obtain ⟨e0, e1, e2, e3, e4, ef⟩ := box5 hx2
  have HB2 := Hid.out (p := Hid _) (And.intro hb2' hB2)
  clear hx2 hB2 hb2 hb2' HB1
  go_wp2_with fail
  go_ret
  refine ⟨ret_str9 ?_, HB2.out.2⟩
  obtain ⟨hT, hN, hS0⟩ := HS.out
  rw [HR.out]
  simp only [app_list, hT, hN, hS0]
set_option maxRecDepth 100000 in
set_option maxHeartbeats 3200000 in
theorem rstmt9_assign {rows : List Row} {d : Nat} (hd : d ≤ 10000) {p : Int} {t : List UInt8} (ht12 : t.length ≤ 12) {xa : Nd} (hxa : PrX rows xa) (lxa : (pcsB (pcsX xa)).length ≤ 5000000) (kxa : 15 ≤ kindN xa) : PrS rows d (.mk 7 0 p t [xa]) := by
  intro a c i w ht hr
  obtain ⟨hi, is, g, ka, kc, rfl, hnd, hts⟩ := ht.node hr
  obtain ⟨i0, rfl, t0⟩ := ts_one hts
  have x0 := hnd.k
  have x1 := hnd.n
  have x2 := hnd.p
  have x3 := hnd.t
  have x4 := hnd.ks
  obtain ⟨kb, ko, rfl, y0, -⟩ := kid_cell hnd.kin 0 _ rfl
  simp only [List.length_cons, List.length_nil, Nat.zero_add, Nat.add_zero] at x0 x1 x2 x3 x4 y0
  have hi' : (i : Int) < (rows.length : Int) := by omega
  obtain ⟨T, hT⟩ : ∃ S : ByteArray, S = ⟨⟨tabB d⟩⟩ := ⟨_, rfl⟩
  have hTl : T.size ≤ 10000 := by rw [hT, Lib.size_eq]; show (tabB d).length ≤ _; rw [tab_len]; exact hd
  have HT : Hid (∀ W, Calls Tryz.prog 73 #[.int .i64 (d : Int)] W fun e w' => e = .returned (.string T) ∧ Below W.heap.size W w') := fun W => by
    rw [hT]
    exact rindent_any d (by omega) W
  obtain ⟨N, hN⟩ : ∃ S : ByteArray, S = ⟨⟨t⟩⟩ := ⟨_, rfl⟩
  have hNl : N.size ≤ 12 := by rw [hN, Lib.size_eq]; exact ht12
  rw [← hN] at x3
  obtain ⟨S0, hS0⟩ : ∃ S : ByteArray, S = ⟨⟨pcsB (pcsX xa)⟩⟩ := ⟨_, rfl⟩
  have hSl0 : S0.size ≤ 5000000 := by rw [hS0, Lib.size_eq]; exact lxa
  have HX0 : Hid (∀ W, Below w.heap.size w W → Calls Tryz.prog 74 #[.slice (some ⟨g, 0, none⟩) rows.length c, .int .i64 (i0 : Int)] W fun e w' => e = .returned (.string S0) ∧ Below W.heap.size W w') := fun W hW => by
    rw [hS0]
    exact hxa _ c i0 W t0 (hr.below hW)
  have HS := Hid.out (p := Hid _) (And.intro hT (And.intro hN hS0))
  have HC : Hid (∀ (o : Obj) W, Below (w.heap.size + 1) (w.alloc o) W → W.heap[w.heap.size]? = some o ∧ W.cell? ⟨kb, ko, none⟩ = some (.int .i64 (i0 : Int)) ∧ Below w.heap.size w W) := fun o W hW => by
    have hA := (Below.refl w.heap.size w).alloc (Nat.le_refl _) o
    have hB := hA.trans (hW.mono (Nat.le_succ _))
    exact ⟨(hW.block _ (Nat.lt_succ_self _)).trans (heap_alloc_new _ _), (hB.cell (lt_of_cell y0)).trans y0, hB⟩
  obtain ⟨R, hR⟩ : ∃ R, R = pcsB (pcsN d (.mk 7 0 p t [xa])) := ⟨_, rfl⟩
  rw [← hR]
  have HR : Hid (R = (tabB d) ++ t ++ ([32, 61, 32] : List UInt8) ++ (pcsB (pcsX xa)) ++ ([59, 10] : List UInt8)) := by
    show _ = _
    have qxa : pcsN d xa = pcsX xa := pcsN_x kxa
    rw [hR]
    simp [pcsN, partsP, pcsNs, pcsB_app, pcsB, pcB, tab_is, qxa]
  clear hnd hr ht hts hR hT hN hS0 t0 hxa
  go_enter Tryz.func43, Tryz.ntmps43
  go_wp2_with fail
  refine Calls.mono (HT.out _) ?_
  rintro e w1 ⟨rfl, hb1⟩
  rw [show ∀ o, (w.alloc o).heap.size = w.heap.size + 1 from fun o => by simp] at hb1
  obtain ⟨hx1, z0, hB1⟩ := HC.out _ _ hb1
  obtain ⟨e0, e1, e2, e3, e4, ef⟩ := box5 hx1
  have HB1 := Hid.out (p := Hid _) (And.intro hb1 hB1)
  clear hx1 hB1 hb1 x0 x1 x2 x3 x4 y0
  go_wp2_with fail
  refine Calls.mono (HX0.out _ HB1.out.2) ?_
  rintro e w2 ⟨rfl, hb2⟩
  have hb2' := HB1.out.1.trans (hb2.mono (by have := HB1.out.1.size; simp at this; omega))
  obtain ⟨hx2, z0, hB2⟩ := HC.out _ _ hb2'
  clear e0 e1 e2 e3 e4 ef
  obtain ⟨e0, e1, e2, e3, e4, ef⟩ := box5 hx2
  have HB2 := Hid.out (p := Hid _) (And.intro hb2' hB2)
  clear hx2 hB2 hb2 hb2' HB1
  go_wp2_with fail
  go_ret
  refine ⟨ret_str9 ?_, HB2.out.2⟩
  obtain ⟨hT, hN, hS0⟩ := HS.out
  rw [HR.out]
  simp only [app_list, hT, hN, hS0]
set_option maxRecDepth 100000 in
set_option maxHeartbeats 3200000 in
theorem rstmt9_cas {rows : List Row} {d : Nat} (hd : d ≤ 10000) {p : Int} {t : List UInt8} (ht12 : t.length ≤ 12) {xa xb xc : Nd} (hxa : PrX rows xa) (lxa : (pcsB (pcsX xa)).length ≤ 5000000) (hxb : PrX rows xb) (lxb : (pcsB (pcsX xb)).length ≤ 5000000) (hxc : PrX rows xc) (lxc : (pcsB (pcsX xc)).length ≤ 5000000) (kxa : 15 ≤ kindN xa) (kxb : 15 ≤ kindN xb) (kxc : 15 ≤ kindN xc) : PrS rows d (.mk 8 0 p t [xa, xb, xc]) := by
  intro a c i w ht hr
  obtain ⟨hi, is, g, ka, kc, rfl, hnd, hts⟩ := ht.node hr
  obtain ⟨i0, i1, i2, rfl, t0, t1, t2⟩ := ts_three hts
  have x0 := hnd.k
  have x1 := hnd.n
  have x2 := hnd.p
  have x3 := hnd.t
  have x4 := hnd.ks
  obtain ⟨kb, ko, rfl, y0, -⟩ := kid_cell hnd.kin 0 _ rfl
  obtain ⟨kb', ko', he, y1, -⟩ := kid_cell hnd.kin 1 _ rfl
  simp only [Option.some.injEq, Addr.mk.injEq, and_true] at he
  obtain ⟨rfl, rfl⟩ := he
  obtain ⟨kb', ko', he, y2, -⟩ := kid_cell hnd.kin 2 _ rfl
  simp only [Option.some.injEq, Addr.mk.injEq, and_true] at he
  obtain ⟨rfl, rfl⟩ := he
  simp only [List.length_cons, List.length_nil, Nat.zero_add, Nat.add_zero, Nat.reduceAdd] at x0 x1 x2 x3 x4 y0 y1 y2
  have hi' : (i : Int) < (rows.length : Int) := by omega
  obtain ⟨T, hT⟩ : ∃ S : ByteArray, S = ⟨⟨tabB d⟩⟩ := ⟨_, rfl⟩
  have hTl : T.size ≤ 10000 := by rw [hT, Lib.size_eq]; show (tabB d).length ≤ _; rw [tab_len]; exact hd
  have HT : Hid (∀ W, Calls Tryz.prog 73 #[.int .i64 (d : Int)] W fun e w' => e = .returned (.string T) ∧ Below W.heap.size W w') := fun W => by
    rw [hT]
    exact rindent_any d (by omega) W
  obtain ⟨N, hN⟩ : ∃ S : ByteArray, S = ⟨⟨t⟩⟩ := ⟨_, rfl⟩
  have hNl : N.size ≤ 12 := by rw [hN, Lib.size_eq]; exact ht12
  rw [← hN] at x3
  obtain ⟨S0, hS0⟩ : ∃ S : ByteArray, S = ⟨⟨pcsB (pcsX xa)⟩⟩ := ⟨_, rfl⟩
  have hSl0 : S0.size ≤ 5000000 := by rw [hS0, Lib.size_eq]; exact lxa
  have HX0 : Hid (∀ W, Below w.heap.size w W → Calls Tryz.prog 74 #[.slice (some ⟨g, 0, none⟩) rows.length c, .int .i64 (i0 : Int)] W fun e w' => e = .returned (.string S0) ∧ Below W.heap.size W w') := fun W hW => by
    rw [hS0]
    exact hxa _ c i0 W t0 (hr.below hW)
  obtain ⟨S1, hS1⟩ : ∃ S : ByteArray, S = ⟨⟨pcsB (pcsX xb)⟩⟩ := ⟨_, rfl⟩
  have hSl1 : S1.size ≤ 5000000 := by rw [hS1, Lib.size_eq]; exact lxb
  have HX1 : Hid (∀ W, Below w.heap.size w W → Calls Tryz.prog 74 #[.slice (some ⟨g, 0, none⟩) rows.length c, .int .i64 (i1 : Int)] W fun e w' => e = .returned (.string S1) ∧ Below W.heap.size W w') := fun W hW => by
    rw [hS1]
    exact hxb _ c i1 W t1 (hr.below hW)
  obtain ⟨S2, hS2⟩ : ∃ S : ByteArray, S = ⟨⟨pcsB (pcsX xc)⟩⟩ := ⟨_, rfl⟩
  have hSl2 : S2.size ≤ 5000000 := by rw [hS2, Lib.size_eq]; exact lxc
  have HX2 : Hid (∀ W, Below w.heap.size w W → Calls Tryz.prog 74 #[.slice (some ⟨g, 0, none⟩) rows.length c, .int .i64 (i2 : Int)] W fun e w' => e = .returned (.string S2) ∧ Below W.heap.size W w') := fun W hW => by
    rw [hS2]
    exact hxc _ c i2 W t2 (hr.below hW)
  have HS := Hid.out (p := Hid _) (And.intro hT (And.intro hN (And.intro hS0 (And.intro hS1 hS2))))
  have HC : Hid (∀ (o : Obj) W, Below (w.heap.size + 1) (w.alloc o) W → W.heap[w.heap.size]? = some o ∧ W.cell? ⟨kb, ko, none⟩ = some (.int .i64 (i0 : Int)) ∧ W.cell? ⟨kb, ko + 1, none⟩ = some (.int .i64 (i1 : Int)) ∧ W.cell? ⟨kb, ko + 2, none⟩ = some (.int .i64 (i2 : Int)) ∧ Below w.heap.size w W) := fun o W hW => by
    have hA := (Below.refl w.heap.size w).alloc (Nat.le_refl _) o
    have hB := hA.trans (hW.mono (Nat.le_succ _))
    exact ⟨(hW.block _ (Nat.lt_succ_self _)).trans (heap_alloc_new _ _), (hB.cell (lt_of_cell y0)).trans y0, (hB.cell (lt_of_cell y1)).trans y1, (hB.cell (lt_of_cell y2)).trans y2, hB⟩
  obtain ⟨R, hR⟩ : ∃ R, R = pcsB (pcsN d (.mk 8 0 p t [xa, xb, xc])) := ⟨_, rfl⟩
  rw [← hR]
  have HR : Hid (R = (tabB d) ++ t ++ ([32, 61, 32, 99, 97, 115, 40] : List UInt8) ++ (pcsB (pcsX xa)) ++ ([44, 32] : List UInt8) ++ (pcsB (pcsX xb)) ++ ([44, 32] : List UInt8) ++ (pcsB (pcsX xc)) ++ ([41, 59, 10] : List UInt8)) := by
    show _ = _
    have qxa : pcsN d xa = pcsX xa := pcsN_x kxa
    have qxb : pcsN d xb = pcsX xb := pcsN_x kxb
    have qxc : pcsN d xc = pcsX xc := pcsN_x kxc
    rw [hR]
    simp [pcsN, partsP, pcsNs, pcsB_app, pcsB, pcB, tab_is, qxa, qxb, qxc]
  clear hnd hr ht hts hR hT hN hS0 hS1 hS2 t0 hxa t1 hxb t2 hxc
  go_enter Tryz.func43, Tryz.ntmps43
  go_wp2_with fail
  refine Calls.mono (HT.out _) ?_
  rintro e w1 ⟨rfl, hb1⟩
  rw [show ∀ o, (w.alloc o).heap.size = w.heap.size + 1 from fun o => by simp] at hb1
  obtain ⟨hx1, z0, z1, z2, hB1⟩ := HC.out _ _ hb1
  obtain ⟨e0, e1, e2, e3, e4, ef⟩ := box5 hx1
  have HB1 := Hid.out (p := Hid _) (And.intro hb1 hB1)
  clear hx1 hB1 hb1 x0 x1 x2 x3 x4 y0 y1 y2
  go_wp2_with fail
  refine Calls.mono (HX0.out _ HB1.out.2) ?_
  rintro e w2 ⟨rfl, hb2⟩
  have hb2' := HB1.out.1.trans (hb2.mono (by have := HB1.out.1.size; simp at this; omega))
  obtain ⟨hx2, z0, z1, z2, hB2⟩ := HC.out _ _ hb2'
  clear e0 e1 e2 e3 e4 ef
  obtain ⟨e0, e1, e2, e3, e4, ef⟩ := box5 hx2
  have HB2 := Hid.out (p := Hid _) (And.intro hb2' hB2)
  clear hx2 hB2 hb2 hb2' HB1
  go_wp2_with fail
  refine Calls.mono (HX1.out _ HB2.out.2) ?_
  rintro e w3 ⟨rfl, hb3⟩
  have hb3' := HB2.out.1.trans (hb3.mono (by have := HB2.out.1.size; simp at this; omega))
  obtain ⟨hx3, z0, z1, z2, hB3⟩ := HC.out _ _ hb3'
  clear e0 e1 e2 e3 e4 ef
  obtain ⟨e0, e1, e2, e3, e4, ef⟩ := box5 hx3
  have HB3 := Hid.out (p := Hid _) (And.intro hb3' hB3)
  clear hx3 hB3 hb3 hb3' HB2
  go_wp2_with fail
  refine Calls.mono (HX2.out _ HB3.out.2) ?_
  rintro e w4 ⟨rfl, hb4⟩
  have hb4' := HB3.out.1.trans (hb4.mono (by have := HB3.out.1.size; simp at this; omega))
  obtain ⟨hx4, z0, z1, z2, hB4⟩ := HC.out _ _ hb4'
  clear e0 e1 e2 e3 e4 ef
  obtain ⟨e0, e1, e2, e3, e4, ef⟩ := box5 hx4
  have HB4 := Hid.out (p := Hid _) (And.intro hb4' hB4)
  clear hx4 hB4 hb4 hb4' HB3
  go_wp2_with fail
  go_ret
  refine ⟨ret_str9 ?_, HB4.out.2⟩
  obtain ⟨hT, hN, hS0, hS1, hS2⟩ := HS.out
  rw [HR.out]
  simp only [app_list, hT, hN, hS0, hS1, hS2]
set_option maxRecDepth 100000 in
set_option maxHeartbeats 3200000 in
theorem rstmt9_if {rows : List Row} {d : Nat} (hd : d ≤ 10000) {p : Int} {xa xb : Nd} (hxa : PrX rows xa) (lxa : (pcsB (pcsX xa)).length ≤ 5000000) (hxb : PrB rows (d + 1) xb) (lxb : (pcsB (bodP (d + 1) xb)).length ≤ 5000000) (kxa : 15 ≤ kindN xa) (kxb : kindN xb = 5) : PrS rows d (.mk 9 0 p [] [xa, xb]) := by
  intro a c i w ht hr
  obtain ⟨hi, is, g, ka, kc, rfl, hnd, hts⟩ := ht.node hr
  obtain ⟨i0, i1, rfl, t0, t1⟩ := ts_two hts
  have x0 := hnd.k
  have x1 := hnd.n
  have x2 := hnd.p
  have x3 := hnd.t
  have x4 := hnd.ks
  obtain ⟨kb, ko, rfl, y0, -⟩ := kid_cell hnd.kin 0 _ rfl
  obtain ⟨kb', ko', he, y1, -⟩ := kid_cell hnd.kin 1 _ rfl
  simp only [Option.some.injEq, Addr.mk.injEq, and_true] at he
  obtain ⟨rfl, rfl⟩ := he
  simp only [List.length_cons, List.length_nil, Nat.zero_add, Nat.add_zero, Nat.reduceAdd] at x0 x1 x2 x3 x4 y0 y1
  have hi' : (i : Int) < (rows.length : Int) := by omega
  obtain ⟨T, hT⟩ : ∃ S : ByteArray, S = ⟨⟨tabB d⟩⟩ := ⟨_, rfl⟩
  have hTl : T.size ≤ 10000 := by rw [hT, Lib.size_eq]; show (tabB d).length ≤ _; rw [tab_len]; exact hd
  have HT : Hid (∀ W, Calls Tryz.prog 73 #[.int .i64 (d : Int)] W fun e w' => e = .returned (.string T) ∧ Below W.heap.size W w') := fun W => by
    rw [hT]
    exact rindent_any d (by omega) W
  obtain ⟨S0, hS0⟩ : ∃ S : ByteArray, S = ⟨⟨pcsB (pcsX xa)⟩⟩ := ⟨_, rfl⟩
  have hSl0 : S0.size ≤ 5000000 := by rw [hS0, Lib.size_eq]; exact lxa
  have HX0 : Hid (∀ W, Below w.heap.size w W → Calls Tryz.prog 74 #[.slice (some ⟨g, 0, none⟩) rows.length c, .int .i64 (i0 : Int)] W fun e w' => e = .returned (.string S0) ∧ Below W.heap.size W w') := fun W hW => by
    rw [hS0]
    exact hxa _ c i0 W t0 (hr.below hW)
  obtain ⟨S1, hS1⟩ : ∃ S : ByteArray, S = ⟨⟨pcsB (bodP (d + 1) xb)⟩⟩ := ⟨_, rfl⟩
  have hSl1 : S1.size ≤ 5000000 := by rw [hS1, Lib.size_eq]; exact lxb
  have HX1 : Hid (∀ W, Below w.heap.size w W → Calls Tryz.prog 27 #[.slice (some ⟨g, 0, none⟩) rows.length c, .int .i64 (i1 : Int), .int .i64 ((d : Int) + 1)] W fun e w' => e = .returned (.string S1) ∧ Below W.heap.size W w') := fun W hW => by
    rw [hS1]
    exact hxb _ c i1 W t1 (hr.below hW)
  have HS := Hid.out (p := Hid _) (And.intro hT (And.intro hS0 hS1))
  have HC : Hid (∀ (o : Obj) W, Below (w.heap.size + 1) (w.alloc o) W → W.heap[w.heap.size]? = some o ∧ W.cell? ⟨kb, ko, none⟩ = some (.int .i64 (i0 : Int)) ∧ W.cell? ⟨kb, ko + 1, none⟩ = some (.int .i64 (i1 : Int)) ∧ Below w.heap.size w W) := fun o W hW => by
    have hA := (Below.refl w.heap.size w).alloc (Nat.le_refl _) o
    have hB := hA.trans (hW.mono (Nat.le_succ _))
    exact ⟨(hW.block _ (Nat.lt_succ_self _)).trans (heap_alloc_new _ _), (hB.cell (lt_of_cell y0)).trans y0, (hB.cell (lt_of_cell y1)).trans y1, hB⟩
  obtain ⟨R, hR⟩ : ∃ R, R = pcsB (pcsN d (.mk 9 0 p [] [xa, xb])) := ⟨_, rfl⟩
  rw [← hR]
  have HR : Hid (R = (tabB d) ++ ([105, 102, 32, 40] : List UInt8) ++ (pcsB (pcsX xa)) ++ ([41, 32, 123, 10] : List UInt8) ++ (pcsB (bodP (d + 1) xb)) ++ (tabB d) ++ ([125, 10] : List UInt8)) := by
    show _ = _
    have qxa : pcsN d xa = pcsX xa := pcsN_x kxa
    have qxb : pcsN d xb = pS 123 :: .b 10 :: (bodP (d + 1) xb ++ (tabsP d ++ [pS 125])) := pcsN_b kxb
    rw [hR]
    simp [pcsN, partsP, pcsNs, pcsB_app, pcsB, pcB, tab_is, qxa, qxb]
  clear hnd hr ht hts hR hT hS0 hS1 t0 hxa t1 hxb
  go_enter Tryz.func43, Tryz.ntmps43
  go_wp2_with fail
  refine Calls.mono (HT.out _) ?_
  rintro e w1 ⟨rfl, hb1⟩
  rw [show ∀ o, (w.alloc o).heap.size = w.heap.size + 1 from fun o => by simp] at hb1
  obtain ⟨hx1, z0, z1, hB1⟩ := HC.out _ _ hb1
  obtain ⟨e0, e1, e2, e3, e4, ef⟩ := box5 hx1
  have HB1 := Hid.out (p := Hid _) (And.intro hb1 hB1)
  clear hx1 hB1 hb1 x0 x1 x2 x3 x4 y0 y1
  go_wp2_with fail
  refine Calls.mono (HX0.out _ HB1.out.2) ?_
  rintro e w2 ⟨rfl, hb2⟩
  have hb2' := HB1.out.1.trans (hb2.mono (by have := HB1.out.1.size; simp at this; omega))
  obtain ⟨hx2, z0, z1, hB2⟩ := HC.out _ _ hb2'
  clear e0 e1 e2 e3 e4 ef
  obtain ⟨e0, e1, e2, e3, e4, ef⟩ := box5 hx2
  have HB2 := Hid.out (p := Hid _) (And.intro hb2' hB2)
  clear hx2 hB2 hb2 hb2' HB1
  go_wp2_with fail
  refine Calls.mono (HX1.out _ HB2.out.2) ?_
  rintro e w3 ⟨rfl, hb3⟩
  have hb3' := HB2.out.1.trans (hb3.mono (by have := HB2.out.1.size; simp at this; omega))
  obtain ⟨hx3, z0, z1, hB3⟩ := HC.out _ _ hb3'
  clear e0 e1 e2 e3 e4 ef
  obtain ⟨e0, e1, e2, e3, e4, ef⟩ := box5 hx3
  have HB3 := Hid.out (p := Hid _) (And.intro hb3' hB3)
  clear hx3 hB3 hb3 hb3' HB2
  go_wp2_with fail
  go_ret
  refine ⟨ret_str9 ?_, HB3.out.2⟩
  obtain ⟨hT, hS0, hS1⟩ := HS.out
  rw [HR.out]
  simp only [app_list, hT, hS0, hS1]
set_option maxRecDepth 100000 in
set_option maxHeartbeats 3200000 in
theorem rstmt9_else {rows : List Row} {d : Nat} (hd : d ≤ 10000) {p : Int} {xa xb xc : Nd} (hxa : PrX rows xa) (lxa : (pcsB (pcsX xa)).length ≤ 5000000) (hxb : PrB rows (d + 1) xb) (lxb : (pcsB (bodP (d + 1) xb)).length ≤ 5000000) (hxc : PrB rows (d + 1) xc) (lxc : (pcsB (bodP (d + 1) xc)).length ≤ 5000000) (kxa : 15 ≤ kindN xa) (kxb : kindN xb = 5) (kxc : kindN xc = 5) : PrS rows d (.mk 9 0 p [] [xa, xb, xc]) := by
  intro a c i w ht hr
  obtain ⟨hi, is, g, ka, kc, rfl, hnd, hts⟩ := ht.node hr
  obtain ⟨i0, i1, i2, rfl, t0, t1, t2⟩ := ts_three hts
  have x0 := hnd.k
  have x1 := hnd.n
  have x2 := hnd.p
  have x3 := hnd.t
  have x4 := hnd.ks
  obtain ⟨kb, ko, rfl, y0, -⟩ := kid_cell hnd.kin 0 _ rfl
  obtain ⟨kb', ko', he, y1, -⟩ := kid_cell hnd.kin 1 _ rfl
  simp only [Option.some.injEq, Addr.mk.injEq, and_true] at he
  obtain ⟨rfl, rfl⟩ := he
  obtain ⟨kb', ko', he, y2, -⟩ := kid_cell hnd.kin 2 _ rfl
  simp only [Option.some.injEq, Addr.mk.injEq, and_true] at he
  obtain ⟨rfl, rfl⟩ := he
  simp only [List.length_cons, List.length_nil, Nat.zero_add, Nat.add_zero, Nat.reduceAdd] at x0 x1 x2 x3 x4 y0 y1 y2
  have hi' : (i : Int) < (rows.length : Int) := by omega
  obtain ⟨T, hT⟩ : ∃ S : ByteArray, S = ⟨⟨tabB d⟩⟩ := ⟨_, rfl⟩
  have hTl : T.size ≤ 10000 := by rw [hT, Lib.size_eq]; show (tabB d).length ≤ _; rw [tab_len]; exact hd
  have HT : Hid (∀ W, Calls Tryz.prog 73 #[.int .i64 (d : Int)] W fun e w' => e = .returned (.string T) ∧ Below W.heap.size W w') := fun W => by
    rw [hT]
    exact rindent_any d (by omega) W
  obtain ⟨S0, hS0⟩ : ∃ S : ByteArray, S = ⟨⟨pcsB (pcsX xa)⟩⟩ := ⟨_, rfl⟩
  have hSl0 : S0.size ≤ 5000000 := by rw [hS0, Lib.size_eq]; exact lxa
  have HX0 : Hid (∀ W, Below w.heap.size w W → Calls Tryz.prog 74 #[.slice (some ⟨g, 0, none⟩) rows.length c, .int .i64 (i0 : Int)] W fun e w' => e = .returned (.string S0) ∧ Below W.heap.size W w') := fun W hW => by
    rw [hS0]
    exact hxa _ c i0 W t0 (hr.below hW)
  obtain ⟨S1, hS1⟩ : ∃ S : ByteArray, S = ⟨⟨pcsB (bodP (d + 1) xb)⟩⟩ := ⟨_, rfl⟩
  have hSl1 : S1.size ≤ 5000000 := by rw [hS1, Lib.size_eq]; exact lxb
  have HX1 : Hid (∀ W, Below w.heap.size w W → Calls Tryz.prog 27 #[.slice (some ⟨g, 0, none⟩) rows.length c, .int .i64 (i1 : Int), .int .i64 ((d : Int) + 1)] W fun e w' => e = .returned (.string S1) ∧ Below W.heap.size W w') := fun W hW => by
    rw [hS1]
    exact hxb _ c i1 W t1 (hr.below hW)
  obtain ⟨S2, hS2⟩ : ∃ S : ByteArray, S = ⟨⟨pcsB (bodP (d + 1) xc)⟩⟩ := ⟨_, rfl⟩
  have hSl2 : S2.size ≤ 5000000 := by rw [hS2, Lib.size_eq]; exact lxc
  have HX2 : Hid (∀ W, Below w.heap.size w W → Calls Tryz.prog 27 #[.slice (some ⟨g, 0, none⟩) rows.length c, .int .i64 (i2 : Int), .int .i64 ((d : Int) + 1)] W fun e w' => e = .returned (.string S2) ∧ Below W.heap.size W w') := fun W hW => by
    rw [hS2]
    exact hxc _ c i2 W t2 (hr.below hW)
  have HS := Hid.out (p := Hid _) (And.intro hT (And.intro hS0 (And.intro hS1 hS2)))
  have HC : Hid (∀ (o : Obj) W, Below (w.heap.size + 1) (w.alloc o) W → W.heap[w.heap.size]? = some o ∧ W.cell? ⟨kb, ko, none⟩ = some (.int .i64 (i0 : Int)) ∧ W.cell? ⟨kb, ko + 1, none⟩ = some (.int .i64 (i1 : Int)) ∧ W.cell? ⟨kb, ko + 2, none⟩ = some (.int .i64 (i2 : Int)) ∧ Below w.heap.size w W) := fun o W hW => by
    have hA := (Below.refl w.heap.size w).alloc (Nat.le_refl _) o
    have hB := hA.trans (hW.mono (Nat.le_succ _))
    exact ⟨(hW.block _ (Nat.lt_succ_self _)).trans (heap_alloc_new _ _), (hB.cell (lt_of_cell y0)).trans y0, (hB.cell (lt_of_cell y1)).trans y1, (hB.cell (lt_of_cell y2)).trans y2, hB⟩
  obtain ⟨R, hR⟩ : ∃ R, R = pcsB (pcsN d (.mk 9 0 p [] [xa, xb, xc])) := ⟨_, rfl⟩
  rw [← hR]
  have HR : Hid (R = (tabB d) ++ ([105, 102, 32, 40] : List UInt8) ++ (pcsB (pcsX xa)) ++ ([41, 32, 123, 10] : List UInt8) ++ (pcsB (bodP (d + 1) xb)) ++ (tabB d) ++ ([125, 32, 101, 108, 115, 101, 32, 123, 10] : List UInt8) ++ (pcsB (bodP (d + 1) xc)) ++ (tabB d) ++ ([125, 10] : List UInt8)) := by
    show _ = _
    have qxa : pcsN d xa = pcsX xa := pcsN_x kxa
    have qxb : pcsN d xb = pS 123 :: .b 10 :: (bodP (d + 1) xb ++ (tabsP d ++ [pS 125])) := pcsN_b kxb
    have qxc : pcsN d xc = pS 123 :: .b 10 :: (bodP (d + 1) xc ++ (tabsP d ++ [pS 125])) := pcsN_b kxc
    rw [hR]
    simp [pcsN, partsP, pcsNs, pcsB_app, pcsB, pcB, tab_is, qxa, qxb, qxc]
  clear hnd hr ht hts hR hT hS0 hS1 hS2 t0 hxa t1 hxb t2 hxc
  go_enter Tryz.func43, Tryz.ntmps43
  go_wp2_with fail
  refine Calls.mono (HT.out _) ?_
  rintro e w1 ⟨rfl, hb1⟩
  rw [show ∀ o, (w.alloc o).heap.size = w.heap.size + 1 from fun o => by simp] at hb1
  obtain ⟨hx1, z0, z1, z2, hB1⟩ := HC.out _ _ hb1
  obtain ⟨e0, e1, e2, e3, e4, ef⟩ := box5 hx1
  have HB1 := Hid.out (p := Hid _) (And.intro hb1 hB1)
  clear hx1 hB1 hb1 x0 x1 x2 x3 x4 y0 y1 y2
  go_wp2_with fail
  refine Calls.mono (HX0.out _ HB1.out.2) ?_
  rintro e w2 ⟨rfl, hb2⟩
  have hb2' := HB1.out.1.trans (hb2.mono (by have := HB1.out.1.size; simp at this; omega))
  obtain ⟨hx2, z0, z1, z2, hB2⟩ := HC.out _ _ hb2'
  clear e0 e1 e2 e3 e4 ef
  obtain ⟨e0, e1, e2, e3, e4, ef⟩ := box5 hx2
  have HB2 := Hid.out (p := Hid _) (And.intro hb2' hB2)
  clear hx2 hB2 hb2 hb2' HB1
  go_wp2_with fail
  refine Calls.mono (HX1.out _ HB2.out.2) ?_
  rintro e w3 ⟨rfl, hb3⟩
  have hb3' := HB2.out.1.trans (hb3.mono (by have := HB2.out.1.size; simp at this; omega))
  obtain ⟨hx3, z0, z1, z2, hB3⟩ := HC.out _ _ hb3'
  clear e0 e1 e2 e3 e4 ef
  obtain ⟨e0, e1, e2, e3, e4, ef⟩ := box5 hx3
  have HB3 := Hid.out (p := Hid _) (And.intro hb3' hB3)
  clear hx3 hB3 hb3 hb3' HB2
  go_wp2_with fail
  refine Calls.mono (HX2.out _ HB3.out.2) ?_
  rintro e w4 ⟨rfl, hb4⟩
  have hb4' := HB3.out.1.trans (hb4.mono (by have := HB3.out.1.size; simp at this; omega))
  obtain ⟨hx4, z0, z1, z2, hB4⟩ := HC.out _ _ hb4'
  clear e0 e1 e2 e3 e4 ef
  obtain ⟨e0, e1, e2, e3, e4, ef⟩ := box5 hx4
  have HB4 := Hid.out (p := Hid _) (And.intro hb4' hB4)
  clear hx4 hB4 hb4 hb4' HB3
  go_wp2_with fail
  go_ret
  refine ⟨ret_str9 ?_, HB4.out.2⟩
  obtain ⟨hT, hS0, hS1, hS2⟩ := HS.out
  rw [HR.out]
  simp only [app_list, hT, hS0, hS1, hS2]
set_option maxRecDepth 100000 in
set_option maxHeartbeats 3200000 in
theorem rstmt9_while {rows : List Row} {d : Nat} (hd : d ≤ 10000) {p : Int} {xa xb : Nd} (hxa : PrX rows xa) (lxa : (pcsB (pcsX xa)).length ≤ 5000000) (hxb : PrB rows (d + 1) xb) (lxb : (pcsB (bodP (d + 1) xb)).length ≤ 5000000) (kxa : 15 ≤ kindN xa) (kxb : kindN xb = 5) : PrS rows d (.mk 10 0 p [] [xa, xb]) := by
  intro a c i w ht hr
  obtain ⟨hi, is, g, ka, kc, rfl, hnd, hts⟩ := ht.node hr
  obtain ⟨i0, i1, rfl, t0, t1⟩ := ts_two hts
  have x0 := hnd.k
  have x1 := hnd.n
  have x2 := hnd.p
  have x3 := hnd.t
  have x4 := hnd.ks
  obtain ⟨kb, ko, rfl, y0, -⟩ := kid_cell hnd.kin 0 _ rfl
  obtain ⟨kb', ko', he, y1, -⟩ := kid_cell hnd.kin 1 _ rfl
  simp only [Option.some.injEq, Addr.mk.injEq, and_true] at he
  obtain ⟨rfl, rfl⟩ := he
  simp only [List.length_cons, List.length_nil, Nat.zero_add, Nat.add_zero, Nat.reduceAdd] at x0 x1 x2 x3 x4 y0 y1
  have hi' : (i : Int) < (rows.length : Int) := by omega
  obtain ⟨T, hT⟩ : ∃ S : ByteArray, S = ⟨⟨tabB d⟩⟩ := ⟨_, rfl⟩
  have hTl : T.size ≤ 10000 := by rw [hT, Lib.size_eq]; show (tabB d).length ≤ _; rw [tab_len]; exact hd
  have HT : Hid (∀ W, Calls Tryz.prog 73 #[.int .i64 (d : Int)] W fun e w' => e = .returned (.string T) ∧ Below W.heap.size W w') := fun W => by
    rw [hT]
    exact rindent_any d (by omega) W
  obtain ⟨S0, hS0⟩ : ∃ S : ByteArray, S = ⟨⟨pcsB (pcsX xa)⟩⟩ := ⟨_, rfl⟩
  have hSl0 : S0.size ≤ 5000000 := by rw [hS0, Lib.size_eq]; exact lxa
  have HX0 : Hid (∀ W, Below w.heap.size w W → Calls Tryz.prog 74 #[.slice (some ⟨g, 0, none⟩) rows.length c, .int .i64 (i0 : Int)] W fun e w' => e = .returned (.string S0) ∧ Below W.heap.size W w') := fun W hW => by
    rw [hS0]
    exact hxa _ c i0 W t0 (hr.below hW)
  obtain ⟨S1, hS1⟩ : ∃ S : ByteArray, S = ⟨⟨pcsB (bodP (d + 1) xb)⟩⟩ := ⟨_, rfl⟩
  have hSl1 : S1.size ≤ 5000000 := by rw [hS1, Lib.size_eq]; exact lxb
  have HX1 : Hid (∀ W, Below w.heap.size w W → Calls Tryz.prog 27 #[.slice (some ⟨g, 0, none⟩) rows.length c, .int .i64 (i1 : Int), .int .i64 ((d : Int) + 1)] W fun e w' => e = .returned (.string S1) ∧ Below W.heap.size W w') := fun W hW => by
    rw [hS1]
    exact hxb _ c i1 W t1 (hr.below hW)
  have HS := Hid.out (p := Hid _) (And.intro hT (And.intro hS0 hS1))
  have HC : Hid (∀ (o : Obj) W, Below (w.heap.size + 1) (w.alloc o) W → W.heap[w.heap.size]? = some o ∧ W.cell? ⟨kb, ko, none⟩ = some (.int .i64 (i0 : Int)) ∧ W.cell? ⟨kb, ko + 1, none⟩ = some (.int .i64 (i1 : Int)) ∧ Below w.heap.size w W) := fun o W hW => by
    have hA := (Below.refl w.heap.size w).alloc (Nat.le_refl _) o
    have hB := hA.trans (hW.mono (Nat.le_succ _))
    exact ⟨(hW.block _ (Nat.lt_succ_self _)).trans (heap_alloc_new _ _), (hB.cell (lt_of_cell y0)).trans y0, (hB.cell (lt_of_cell y1)).trans y1, hB⟩
  obtain ⟨R, hR⟩ : ∃ R, R = pcsB (pcsN d (.mk 10 0 p [] [xa, xb])) := ⟨_, rfl⟩
  rw [← hR]
  have HR : Hid (R = (tabB d) ++ ([119, 104, 105, 108, 101, 32, 40] : List UInt8) ++ (pcsB (pcsX xa)) ++ ([41, 32, 123, 10] : List UInt8) ++ (pcsB (bodP (d + 1) xb)) ++ (tabB d) ++ ([125, 10] : List UInt8)) := by
    show _ = _
    have qxa : pcsN d xa = pcsX xa := pcsN_x kxa
    have qxb : pcsN d xb = pS 123 :: .b 10 :: (bodP (d + 1) xb ++ (tabsP d ++ [pS 125])) := pcsN_b kxb
    rw [hR]
    simp [pcsN, partsP, pcsNs, pcsB_app, pcsB, pcB, tab_is, qxa, qxb]
  clear hnd hr ht hts hR hT hS0 hS1 t0 hxa t1 hxb
  go_enter Tryz.func43, Tryz.ntmps43
  go_wp2_with fail
  refine Calls.mono (HT.out _) ?_
  rintro e w1 ⟨rfl, hb1⟩
  rw [show ∀ o, (w.alloc o).heap.size = w.heap.size + 1 from fun o => by simp] at hb1
  obtain ⟨hx1, z0, z1, hB1⟩ := HC.out _ _ hb1
  obtain ⟨e0, e1, e2, e3, e4, ef⟩ := box5 hx1
  have HB1 := Hid.out (p := Hid _) (And.intro hb1 hB1)
  clear hx1 hB1 hb1 x0 x1 x2 x3 x4 y0 y1
  go_wp2_with fail
  refine Calls.mono (HX0.out _ HB1.out.2) ?_
  rintro e w2 ⟨rfl, hb2⟩
  have hb2' := HB1.out.1.trans (hb2.mono (by have := HB1.out.1.size; simp at this; omega))
  obtain ⟨hx2, z0, z1, hB2⟩ := HC.out _ _ hb2'
  clear e0 e1 e2 e3 e4 ef
  obtain ⟨e0, e1, e2, e3, e4, ef⟩ := box5 hx2
  have HB2 := Hid.out (p := Hid _) (And.intro hb2' hB2)
  clear hx2 hB2 hb2 hb2' HB1
  go_wp2_with fail
  refine Calls.mono (HX1.out _ HB2.out.2) ?_
  rintro e w3 ⟨rfl, hb3⟩
  have hb3' := HB2.out.1.trans (hb3.mono (by have := HB2.out.1.size; simp at this; omega))
  obtain ⟨hx3, z0, z1, hB3⟩ := HC.out _ _ hb3'
  clear e0 e1 e2 e3 e4 ef
  obtain ⟨e0, e1, e2, e3, e4, ef⟩ := box5 hx3
  have HB3 := Hid.out (p := Hid _) (And.intro hb3' hB3)
  clear hx3 hB3 hb3 hb3' HB2
  go_wp2_with fail
  go_ret
  refine ⟨ret_str9 ?_, HB3.out.2⟩
  obtain ⟨hT, hS0, hS1⟩ := HS.out
  rw [HR.out]
  simp only [app_list, hT, hS0, hS1]
set_option maxRecDepth 100000 in
set_option maxHeartbeats 3200000 in
theorem rstmt9_print {rows : List Row} {d : Nat} (hd : d ≤ 10000) {p : Int} {xa : Nd} (hxa : PrX rows xa) (lxa : (pcsB (pcsX xa)).length ≤ 5000000) (kxa : 15 ≤ kindN xa) : PrS rows d (.mk 11 0 p [] [xa]) := by
  intro a c i w ht hr
  obtain ⟨hi, is, g, ka, kc, rfl, hnd, hts⟩ := ht.node hr
  obtain ⟨i0, rfl, t0⟩ := ts_one hts
  have x0 := hnd.k
  have x1 := hnd.n
  have x2 := hnd.p
  have x3 := hnd.t
  have x4 := hnd.ks
  obtain ⟨kb, ko, rfl, y0, -⟩ := kid_cell hnd.kin 0 _ rfl
  simp only [List.length_cons, List.length_nil, Nat.zero_add, Nat.add_zero] at x0 x1 x2 x3 x4 y0
  have hi' : (i : Int) < (rows.length : Int) := by omega
  obtain ⟨T, hT⟩ : ∃ S : ByteArray, S = ⟨⟨tabB d⟩⟩ := ⟨_, rfl⟩
  have hTl : T.size ≤ 10000 := by rw [hT, Lib.size_eq]; show (tabB d).length ≤ _; rw [tab_len]; exact hd
  have HT : Hid (∀ W, Calls Tryz.prog 73 #[.int .i64 (d : Int)] W fun e w' => e = .returned (.string T) ∧ Below W.heap.size W w') := fun W => by
    rw [hT]
    exact rindent_any d (by omega) W
  obtain ⟨S0, hS0⟩ : ∃ S : ByteArray, S = ⟨⟨pcsB (pcsX xa)⟩⟩ := ⟨_, rfl⟩
  have hSl0 : S0.size ≤ 5000000 := by rw [hS0, Lib.size_eq]; exact lxa
  have HX0 : Hid (∀ W, Below w.heap.size w W → Calls Tryz.prog 74 #[.slice (some ⟨g, 0, none⟩) rows.length c, .int .i64 (i0 : Int)] W fun e w' => e = .returned (.string S0) ∧ Below W.heap.size W w') := fun W hW => by
    rw [hS0]
    exact hxa _ c i0 W t0 (hr.below hW)
  have HS := Hid.out (p := Hid _) (And.intro hT hS0)
  have HC : Hid (∀ (o : Obj) W, Below (w.heap.size + 1) (w.alloc o) W → W.heap[w.heap.size]? = some o ∧ W.cell? ⟨kb, ko, none⟩ = some (.int .i64 (i0 : Int)) ∧ Below w.heap.size w W) := fun o W hW => by
    have hA := (Below.refl w.heap.size w).alloc (Nat.le_refl _) o
    have hB := hA.trans (hW.mono (Nat.le_succ _))
    exact ⟨(hW.block _ (Nat.lt_succ_self _)).trans (heap_alloc_new _ _), (hB.cell (lt_of_cell y0)).trans y0, hB⟩
  obtain ⟨R, hR⟩ : ∃ R, R = pcsB (pcsN d (.mk 11 0 p [] [xa])) := ⟨_, rfl⟩
  rw [← hR]
  have HR : Hid (R = (tabB d) ++ ([112, 114, 105, 110, 116, 40] : List UInt8) ++ (pcsB (pcsX xa)) ++ ([41, 59, 10] : List UInt8)) := by
    show _ = _
    have qxa : pcsN d xa = pcsX xa := pcsN_x kxa
    rw [hR]
    simp [pcsN, partsP, pcsNs, pcsB_app, pcsB, pcB, tab_is, qxa]
  clear hnd hr ht hts hR hT hS0 t0 hxa
  go_enter Tryz.func43, Tryz.ntmps43
  go_wp2_with fail
  refine Calls.mono (HT.out _) ?_
  rintro e w1 ⟨rfl, hb1⟩
  rw [show ∀ o, (w.alloc o).heap.size = w.heap.size + 1 from fun o => by simp] at hb1
  obtain ⟨hx1, z0, hB1⟩ := HC.out _ _ hb1
  obtain ⟨e0, e1, e2, e3, e4, ef⟩ := box5 hx1
  have HB1 := Hid.out (p := Hid _) (And.intro hb1 hB1)
  clear hx1 hB1 hb1 x0 x1 x2 x3 x4 y0
  go_wp2_with fail
  refine Calls.mono (HX0.out _ HB1.out.2) ?_
  rintro e w2 ⟨rfl, hb2⟩
  have hb2' := HB1.out.1.trans (hb2.mono (by have := HB1.out.1.size; simp at this; omega))
  obtain ⟨hx2, z0, hB2⟩ := HC.out _ _ hb2'
  clear e0 e1 e2 e3 e4 ef
  obtain ⟨e0, e1, e2, e3, e4, ef⟩ := box5 hx2
  have HB2 := Hid.out (p := Hid _) (And.intro hb2' hB2)
  clear hx2 hB2 hb2 hb2' HB1
  go_wp2_with fail
  go_ret
  refine ⟨ret_str9 ?_, HB2.out.2⟩
  obtain ⟨hT, hS0⟩ := HS.out
  rw [HR.out]
  simp only [app_list, hT, hS0]
set_option maxRecDepth 100000 in
set_option maxHeartbeats 3200000 in
theorem rstmt9_take {rows : List Row} {d : Nat} (hd : d ≤ 10000) {p : Int} {t : List UInt8} (ht12 : t.length ≤ 12) : PrS rows d (.mk 12 0 p t []) := by
  intro a c i w ht hr
  obtain ⟨hi, is, g, ka, kc, rfl, hnd, hts⟩ := ht.node hr
  rw [TsAt] at hts
  subst hts
  have x0 := hnd.k
  have x1 := hnd.n
  have x2 := hnd.p
  have x3 := hnd.t
  have x4 := hnd.ks
  simp only [List.length_nil] at x0 x1 x2 x3 x4
  have hi' : (i : Int) < (rows.length : Int) := by omega
  obtain ⟨T, hT⟩ : ∃ S : ByteArray, S = ⟨⟨tabB d⟩⟩ := ⟨_, rfl⟩
  have hTl : T.size ≤ 10000 := by rw [hT, Lib.size_eq]; show (tabB d).length ≤ _; rw [tab_len]; exact hd
  have HT : Hid (∀ W, Calls Tryz.prog 73 #[.int .i64 (d : Int)] W fun e w' => e = .returned (.string T) ∧ Below W.heap.size W w') := fun W => by
    rw [hT]
    exact rindent_any d (by omega) W
  obtain ⟨N, hN⟩ : ∃ S : ByteArray, S = ⟨⟨t⟩⟩ := ⟨_, rfl⟩
  have hNl : N.size ≤ 12 := by rw [hN, Lib.size_eq]; exact ht12
  rw [← hN] at x3
  have HS := Hid.out (p := Hid _) (And.intro hT hN)
  have HC : Hid (∀ (o : Obj) W, Below (w.heap.size + 1) (w.alloc o) W → W.heap[w.heap.size]? = some o ∧ Below w.heap.size w W) := fun o W hW => by
    have hA := (Below.refl w.heap.size w).alloc (Nat.le_refl _) o
    have hB := hA.trans (hW.mono (Nat.le_succ _))
    exact ⟨(hW.block _ (Nat.lt_succ_self _)).trans (heap_alloc_new _ _), hB⟩
  obtain ⟨R, hR⟩ : ∃ R, R = pcsB (pcsN d (.mk 12 0 p t [])) := ⟨_, rfl⟩
  rw [← hR]
  have HR : Hid (R = (tabB d) ++ ([108, 111, 99, 107, 40] : List UInt8) ++ t ++ ([41, 59, 10] : List UInt8)) := by
    show _ = _
    rw [hR]
    simp [pcsN, partsP, pcsB_app, pcsB, pcB, tab_is]
  clear hnd hr ht hR hT hN
  go_enter Tryz.func43, Tryz.ntmps43
  go_wp2_with fail
  refine Calls.mono (HT.out _) ?_
  rintro e w1 ⟨rfl, hb1⟩
  rw [show ∀ o, (w.alloc o).heap.size = w.heap.size + 1 from fun o => by simp] at hb1
  obtain ⟨hx1, hB1⟩ := HC.out _ _ hb1
  obtain ⟨e0, e1, e2, e3, e4, ef⟩ := box5 hx1
  have HB1 := Hid.out (p := Hid _) (And.intro hb1 hB1)
  clear hx1 hB1 hb1 x0 x1 x2 x3 x4
  go_wp2_with fail
  go_ret
  refine ⟨ret_str9 ?_, HB1.out.2⟩
  obtain ⟨hT, hN⟩ := HS.out
  rw [HR.out]
  simp only [app_list, hT, hN]
set_option maxRecDepth 100000 in
set_option maxHeartbeats 3200000 in
theorem rstmt9_give {rows : List Row} {d : Nat} (hd : d ≤ 10000) {p : Int} {t : List UInt8} (ht12 : t.length ≤ 12) : PrS rows d (.mk 13 0 p t []) := by
  intro a c i w ht hr
  obtain ⟨hi, is, g, ka, kc, rfl, hnd, hts⟩ := ht.node hr
  rw [TsAt] at hts
  subst hts
  have x0 := hnd.k
  have x1 := hnd.n
  have x2 := hnd.p
  have x3 := hnd.t
  have x4 := hnd.ks
  simp only [List.length_nil] at x0 x1 x2 x3 x4
  have hi' : (i : Int) < (rows.length : Int) := by omega
  obtain ⟨T, hT⟩ : ∃ S : ByteArray, S = ⟨⟨tabB d⟩⟩ := ⟨_, rfl⟩
  have hTl : T.size ≤ 10000 := by rw [hT, Lib.size_eq]; show (tabB d).length ≤ _; rw [tab_len]; exact hd
  have HT : Hid (∀ W, Calls Tryz.prog 73 #[.int .i64 (d : Int)] W fun e w' => e = .returned (.string T) ∧ Below W.heap.size W w') := fun W => by
    rw [hT]
    exact rindent_any d (by omega) W
  obtain ⟨N, hN⟩ : ∃ S : ByteArray, S = ⟨⟨t⟩⟩ := ⟨_, rfl⟩
  have hNl : N.size ≤ 12 := by rw [hN, Lib.size_eq]; exact ht12
  rw [← hN] at x3
  have HS := Hid.out (p := Hid _) (And.intro hT hN)
  have HC : Hid (∀ (o : Obj) W, Below (w.heap.size + 1) (w.alloc o) W → W.heap[w.heap.size]? = some o ∧ Below w.heap.size w W) := fun o W hW => by
    have hA := (Below.refl w.heap.size w).alloc (Nat.le_refl _) o
    have hB := hA.trans (hW.mono (Nat.le_succ _))
    exact ⟨(hW.block _ (Nat.lt_succ_self _)).trans (heap_alloc_new _ _), hB⟩
  obtain ⟨R, hR⟩ : ∃ R, R = pcsB (pcsN d (.mk 13 0 p t [])) := ⟨_, rfl⟩
  rw [← hR]
  have HR : Hid (R = (tabB d) ++ ([117, 110, 108, 111, 99, 107, 40] : List UInt8) ++ t ++ ([41, 59, 10] : List UInt8)) := by
    show _ = _
    rw [hR]
    simp [pcsN, partsP, pcsB_app, pcsB, pcB, tab_is]
  clear hnd hr ht hR hT hN
  go_enter Tryz.func43, Tryz.ntmps43
  go_wp2_with fail
  refine Calls.mono (HT.out _) ?_
  rintro e w1 ⟨rfl, hb1⟩
  rw [show ∀ o, (w.alloc o).heap.size = w.heap.size + 1 from fun o => by simp] at hb1
  obtain ⟨hx1, hB1⟩ := HC.out _ _ hb1
  obtain ⟨e0, e1, e2, e3, e4, ef⟩ := box5 hx1
  have HB1 := Hid.out (p := Hid _) (And.intro hb1 hB1)
  clear hx1 hB1 hb1 x0 x1 x2 x3 x4
  go_wp2_with fail
  go_ret
  refine ⟨ret_str9 ?_, HB1.out.2⟩
  obtain ⟨hT, hN⟩ := HS.out
  rw [HR.out]
  simp only [app_list, hT, hN]
set_option maxRecDepth 100000 in
set_option maxHeartbeats 3200000 in
theorem rstmt9_fence {rows : List Row} {d : Nat} (hd : d ≤ 10000) {p : Int} : PrS rows d (.mk 14 0 p [] []) := by
  intro a c i w ht hr
  obtain ⟨hi, is, g, ka, kc, rfl, hnd, hts⟩ := ht.node hr
  rw [TsAt] at hts
  subst hts
  have x0 := hnd.k
  have x1 := hnd.n
  have x2 := hnd.p
  have x3 := hnd.t
  have x4 := hnd.ks
  simp only [List.length_nil] at x0 x1 x2 x3 x4
  have hi' : (i : Int) < (rows.length : Int) := by omega
  obtain ⟨T, hT⟩ : ∃ S : ByteArray, S = ⟨⟨tabB d⟩⟩ := ⟨_, rfl⟩
  have hTl : T.size ≤ 10000 := by rw [hT, Lib.size_eq]; show (tabB d).length ≤ _; rw [tab_len]; exact hd
  have HT : Hid (∀ W, Calls Tryz.prog 73 #[.int .i64 (d : Int)] W fun e w' => e = .returned (.string T) ∧ Below W.heap.size W w') := fun W => by
    rw [hT]
    exact rindent_any d (by omega) W
  have HS := Hid.out (p := Hid _) hT
  have HC : Hid (∀ (o : Obj) W, Below (w.heap.size + 1) (w.alloc o) W → W.heap[w.heap.size]? = some o ∧ Below w.heap.size w W) := fun o W hW => by
    have hA := (Below.refl w.heap.size w).alloc (Nat.le_refl _) o
    have hB := hA.trans (hW.mono (Nat.le_succ _))
    exact ⟨(hW.block _ (Nat.lt_succ_self _)).trans (heap_alloc_new _ _), hB⟩
  obtain ⟨R, hR⟩ : ∃ R, R = pcsB (pcsN d (.mk 14 0 p [] [])) := ⟨_, rfl⟩
  rw [← hR]
  have HR : Hid (R = (tabB d) ++ ([102, 101, 110, 99, 101, 59, 10] : List UInt8)) := by
    show _ = _
    rw [hR]
    simp [pcsN, partsP, pcsB_app, pcsB, pcB, tab_is]
  clear hnd hr ht hR hT
  go_enter Tryz.func43, Tryz.ntmps43
  go_wp2_with fail
  refine Calls.mono (HT.out _) ?_
  rintro e w1 ⟨rfl, hb1⟩
  rw [show ∀ o, (w.alloc o).heap.size = w.heap.size + 1 from fun o => by simp] at hb1
  obtain ⟨hx1, hB1⟩ := HC.out _ _ hb1
  obtain ⟨e0, e1, e2, e3, e4, ef⟩ := box5 hx1
  have HB1 := Hid.out (p := Hid _) (And.intro hb1 hB1)
  clear hx1 hB1 hb1 x0 x1 x2 x3 x4
  go_wp2_with fail
  go_ret
  refine ⟨ret_str9 ?_, HB1.out.2⟩
  have hT := HS.out
  rw [HR.out]
  simp only [app_list, hT]

end Go.Proofs.YtclnjhffcfkihaeGreatDoor
