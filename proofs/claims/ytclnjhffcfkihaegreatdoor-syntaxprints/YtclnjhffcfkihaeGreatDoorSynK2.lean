/-
  The document's printer: expressions.
-/
import Derived.Test.YtclnjhffcfkihaeGreatDoorSynE
import Derived.Test.YtclnjhffcfkihaeGreatDoorSynJ0
import Derived.Test.YtclnjhffcfkihaeGreatDoorSynD4
import Derived.Test.YtclnjhffcfkihaeGreatDoorPlain
namespace Go.Proofs.YtclnjhffcfkihaeGreatDoor
open Go.RowKit

theorem TAt.node {rows : List Row} {a : Option Addr} {w : World} {k n p : Int} {t : List UInt8} {ks : List Nd} {i : Nat} (h : TAt rows (.mk k n p t ks) i) (hr : NdsR w a rows) : i < rows.length ∧ ∃ is g ka kc, a = some ⟨g, 0, none⟩ ∧ NdR w g i ⟨k, n, p, t, is⟩ ka kc ∧ TsAt rows ks is := by
  rw [TAt] at h
  obtain ⟨is, h1, h2⟩ := h
  have hi : i < rows.length := by
    rcases Nat.lt_or_ge i rows.length with h | h
    · exact h
    · rw [List.getElem?_eq_none h] at h1; cases h1
  obtain ⟨g, ka, kc, e, hn⟩ := hr.get i hi
  have hg : rows.getD i row0 = ⟨k, n, p, t, is⟩ := by rw [List.getD_eq_getElem?_getD, h1]; rfl
  rw [hg] at hn
  exact ⟨hi, is, g, ka, kc, e, hn, h2⟩
theorem ret_str9 {b : ByteArray} {l : List UInt8} (h : b.data.toList = l) : Ending.returned (.string b) = .returned (.string ⟨⟨l⟩⟩) := by rw [← h]

set_option maxRecDepth 100000 in
set_option maxHeartbeats 1600000 in
theorem rbind_any (k n p : Int) (t : List UInt8) (ka : Option Addr) (kn kc : Nat) (w : World) :
    Calls Tryz.prog 101 #[.agg #[.int .i64 k, .int .i64 n, .int .i64 p, .string ⟨⟨t⟩⟩, .slice ka kn kc]] w fun e w' => e = .returned (.int .i64 (if k = 19 then lvl t else 5)) ∧ Below w.heap.size w w' := by
  by_cases hk : k = 19
  · subst hk
    rw [if_pos rfl]
    go_enter Tryz.func101, Tryz.ntmps101
    go_wp2_with (go_at_call 94; refine Calls.mono (rlevel_any _ _) ?_; rintro e w' ⟨rfl, rfl⟩; rw [show lvl (ByteArray.mk ⟨t⟩).data.toList = lvl t from rfl])
    go_ret
    exact ⟨rfl, (Below.refl _ _).alloc (Nat.le_refl _) _⟩
  · rw [if_neg hk]
    have hk2 : (k == 19) = false := by simpa using hk
    go_enter Tryz.func101, Tryz.ntmps101
    go_wp2_with fail
    go_ret
    exact ⟨rfl, (Below.refl _ _).alloc (Nat.le_refl _) _⟩

/-- The document prints an expression. -/
def PrX (rows : List Row) (x : Nd) : Prop := ∀ (a : Option Addr) (c i : Nat) (w : World), TAt rows x i → NdsR w a rows →
  Calls Tryz.prog 74 #[.slice a rows.length c, .int .i64 (i : Int)] w fun e w' => e = .returned (.string ⟨⟨pcsB (pcsX x)⟩⟩) ∧ Below w.heap.size w w'

set_option maxRecDepth 100000 in
set_option maxHeartbeats 1600000 in
theorem rside_any {rows : List Row} {x : Nd} (hx : PrX rows x) (hw : WfX x) (hs : ndSize x ≤ 1000) (a : Option Addr) (c i : Nat) (m : Int) (w : World) (ht : TAt rows x i) (hr : NdsR w a rows) :
    Calls Tryz.prog 100 #[.slice a rows.length c, .int .i64 (i : Int), .int .i64 m] w fun e w' => e = .returned (.string ⟨⟨pcsB (sideP x m)⟩⟩) ∧ Below w.heap.size w w' := by
  have hl := len_x _ x (Nat.le_refl _) hw
  have HX := Hid.out (p := Hid _) (hx a c i w ht hr)
  match x, ht, hl, HX with
  | .mk k n p t ks, ht, hl, HX =>
    obtain ⟨hi, is, g, ka, kc, rfl, hnd, -⟩ := ht.node hr
    obtain ⟨S, hS⟩ : ∃ S : ByteArray, S = ⟨⟨pcsB (pcsX (.mk k n p t ks))⟩⟩ := ⟨_, rfl⟩
    have hSl : S.size ≤ 12000 := by rw [hS, Lib.size_eq]; show (pcsB (pcsX (.mk k n p t ks))).length ≤ _; omega
    have HS := Hid.out (p := Hid _) hS
    rw [← hS] at HX
    obtain ⟨R, hR⟩ : ∃ R, R = pcsB (sideP (.mk k n p t ks) m) := ⟨_, rfl⟩
    rw [← hR]
    have hbx : bindX (.mk k n p t ks) = if k = 19 then lvl t else 5 := by rw [bindX]
    unfold sideP at hR
    rw [hbx] at hR
    have HB : Hid (∀ ka kn kc w, Calls Tryz.prog 101 #[.agg #[.int .i64 k, .int .i64 n, .int .i64 p, .string ⟨⟨t⟩⟩, .slice ka kn kc]] w fun e w' => e = .returned (.int .i64 (if k = 19 then lvl t else 5)) ∧ Below w.heap.size w w') := fun ka kn kc w => rbind_any k n p t ka kn kc w
    obtain ⟨b, hb⟩ : ∃ b, b = (if k = 19 then lvl t else 5) := ⟨_, rfl⟩
    rw [← hb] at hR HB
    have HN := Hid.out (p := Hid _) hnd
    have hi' : (i : Int) < (rows.length : Int) := by omega
    clear hx hl hb hbx hS hr ht hnd
    go_enter Tryz.func100, Tryz.ntmps100
    go_wp2_with fail
    refine Calls.mono HX.out ?_
    rintro e w1 ⟨rfl, hb1⟩
    have h1 := HN.out.below hb1
    have x0 := h1.k
    have x1 := h1.n
    have x2 := h1.p
    have x3 := h1.t
    have x4 := h1.ks
    simp only at x0 x1 x2 x3 x4
    have HB1 := Hid.out (p := Hid _) hb1
    clear h1 hb1 HX
    go_wp2_with fail
    refine Calls.mono (HB.out _ _ _ _) ?_
    rintro e w2 ⟨rfl, hb2⟩
    have HB2 : Hid (Below w.heap.size w w2) := HB1.out.trans (hb2.mono HB1.out.size)
    by_cases hm : b < m
    · rw [if_pos hm] at hR
      go_wp2_with fail
      go_ret
      refine ⟨ret_str9 ?_, HB2.out⟩
      rw [hR, app_list, app_list, HS.out, pcsB_app, pcsB_app]
      rfl
    · rw [if_neg hm] at hR
      go_wp2_with fail
      go_ret
      exact ⟨ret_str9 (by rw [hR, HS.out]), HB2.out⟩

/-- What is read of a node that was copied. -/
theorem kid_cell {w : World} {ka : Option Addr} {is : List Int} (h : IIn w ka is.length (fun j => is.getD j 0)) (j : Nat) (x : Int) (hj : is[j]? = some x) : ∃ b o, ka = some ⟨b, o, none⟩ ∧ w.cell? ⟨b, o + j, none⟩ = some (.int .i64 x) ∧ j < is.length := by
  have hl : j < is.length := by
    rcases Nat.lt_or_ge j is.length with h1 | h1
    · exact h1
    · rw [List.getElem?_eq_none h1] at hj; cases hj
  obtain ⟨b, o, e, hc⟩ := h j hl
  simp only [List.getD_eq_getElem?_getD, hj, Option.getD_some] at hc
  exact ⟨b, o, e, hc, hl⟩
theorem ts_one {rows : List Row} {x : Nd} {is : List Int} (h : TsAt rows [x] is) : ∃ i : Nat, is = [(i : Int)] ∧ TAt rows x i := by
  rw [TsAt] at h
  obtain ⟨i, js, rfl, h1, h2⟩ := h
  rw [TsAt] at h2
  exact ⟨i, by rw [h2], h1⟩
theorem ts_two {rows : List Row} {x y : Nd} {is : List Int} (h : TsAt rows [x, y] is) : ∃ i j : Nat, is = [(i : Int), (j : Int)] ∧ TAt rows x i ∧ TAt rows y j := by
  rw [TsAt] at h
  obtain ⟨i, js, rfl, h1, h2⟩ := h
  obtain ⟨j, rfl, h3⟩ := ts_one h2
  exact ⟨i, j, rfl, h1, h3⟩
theorem ts_three {rows : List Row} {x y z : Nd} {is : List Int} (h : TsAt rows [x, y, z] is) : ∃ i j k : Nat, is = [(i : Int), (j : Int), (k : Int)] ∧ TAt rows x i ∧ TAt rows y j ∧ TAt rows z k := by
  rw [TsAt] at h
  obtain ⟨i, js, rfl, h1, h2⟩ := h
  obtain ⟨j, k, rfl, h3, h4⟩ := ts_two h2
  exact ⟨i, j, k, rfl, h1, h3, h4⟩
set_option maxRecDepth 100000 in
set_option maxHeartbeats 1600000 in
theorem rexpr_num {rows : List Row} {n p : Int} (h0 : 0 ≤ n) (h9 : n ≤ 999999999) : PrX rows (.mk 15 n p [] []) := by
  intro a c i w ht hr
  obtain ⟨hi, is, g, ka, kc, rfl, hnd, -⟩ := ht.node hr
  have x0 := hnd.k
  have x1 := hnd.n
  have x2 := hnd.p
  have x3 := hnd.t
  have x4 := hnd.ks
  simp only at x0 x1 x2 x3 x4
  have hi' : (i : Int) < (rows.length : Int) := by omega
  have HD : Hid (∀ W, Calls Tryz.prog 26 #[.int .i64 n] W fun e w' => e = .returned (.string ⟨⟨pcsB (pcsX (.mk 15 n p [] []))⟩⟩) ∧ Below W.heap.size W w') := fun W => by
    refine (digits_any n ⟨by omega, by omega⟩ W).mono ?_
    rintro e w' ⟨rfl, hb⟩
    refine ⟨ret_str9 ?_, hb⟩
    rw [pcsX, if_pos rfl]
    simp only [pcsB, pcB, List.append_nil]
    unfold Lib.itoa
    rw [if_neg (by omega)]
  clear h0 h9 hnd hr ht
  go_enter Tryz.func74, Tryz.ntmps74
  go_wp2_with (go_at_call 26; refine Calls.mono (HD.out _) ?_; rintro e w1 ⟨rfl, hb1⟩)
  go_ret
  exact ⟨rfl, ((Below.refl w.heap.size w).alloc (Nat.le_refl _) _).trans (hb1.mono (by simp))⟩
set_option maxRecDepth 100000 in
set_option maxHeartbeats 1600000 in
theorem rexpr_name {rows : List Row} {p : Int} {t : List UInt8} : PrX rows (.mk 16 0 p t []) := by
  intro a c i w ht hr
  obtain ⟨hi, is, g, ka, kc, rfl, hnd, -⟩ := ht.node hr
  have x0 := hnd.k
  have x1 := hnd.n
  have x2 := hnd.p
  have x3 := hnd.t
  have x4 := hnd.ks
  simp only at x0 x1 x2 x3 x4
  have hi' : (i : Int) < (rows.length : Int) := by omega
  have hq : pcsB (pcsX (.mk 16 0 p t [])) = t := by rw [pcsX, if_neg (by decide)]; simp [pcsB, pcB]
  rw [hq]
  clear hnd hr ht hq
  go_enter Tryz.func74, Tryz.ntmps74
  go_wp2_with fail
  go_ret
  exact ⟨rfl, (Below.refl w.heap.size w).alloc (Nat.le_refl _) _⟩
set_option maxRecDepth 100000 in
set_option maxHeartbeats 1600000 in
theorem rexpr_sign {rows : List Row} {k p : Int} {x : Nd} (hk : k = 17 ∨ k = 18) (hx : PrX rows x) (hw : WfX x) (hs : ndSize x ≤ 1000) : PrX rows (.mk k 0 p [] [x]) := by
  intro a c i w ht hr
  obtain ⟨hi, is, g, ka, kc, rfl, hnd, hts⟩ := ht.node hr
  obtain ⟨i1, rfl, ht1⟩ := ts_one hts
  have x0 := hnd.k
  have x1 := hnd.n
  have x2 := hnd.p
  have x3 := hnd.t
  have x4 := hnd.ks
  obtain ⟨kb, ko, rfl, y0, -⟩ := kid_cell hnd.kin 0 _ rfl
  simp only [List.length_cons, List.length_nil, Nat.zero_add, Nat.add_zero] at x0 x1 x2 x3 x4 y0
  have hi' : (i : Int) < (rows.length : Int) := by omega
  have y0u := fun o => cell_up y0 o
  have hl := Nat.le_trans (side_len x 5) (Nat.add_le_add_right (len_x _ x (Nat.le_refl _) hw) 2)
  obtain ⟨S, hS⟩ : ∃ S : ByteArray, S = ⟨⟨pcsB (sideP x 5)⟩⟩ := ⟨_, rfl⟩
  have hSl : S.size ≤ 13000 := by rw [hS, Lib.size_eq]; show (pcsB (sideP x 5)).length ≤ _; omega
  have HS := Hid.out (p := Hid _) hS
  have HX : Hid (∀ W, Below w.heap.size w W → Calls Tryz.prog 100 #[.slice (some ⟨g, 0, none⟩) rows.length c, .int .i64 (i1 : Int), .int .i64 5] W fun e w' => e = .returned (.string S) ∧ Below W.heap.size W w') := fun W hW => by
    rw [hS]
    exact rside_any hx hw hs _ c i1 5 W ht1 (hr.below hW)
  have hq : pcsB (pcsX (.mk k 0 p [] [x])) = (if k = 17 then [45] else [33]) ++ pcsB (sideP x 5) := by rw [pcsX_one _ _ _ _ _ (by omega)]; rfl
  rw [hq]
  clear hnd hr ht hq hts ht1 hl hS hx
  rcases hk with rfl | rfl
  · go_enter Tryz.func74, Tryz.ntmps74
    go_wp2_with (go_at_call 100; refine Calls.mono (HX.out _ ((Below.refl _ _).alloc (Nat.le_refl _) _)) ?_; rintro e w1 ⟨rfl, hb1⟩)
    go_ret
    refine ⟨ret_str9 (by rw [app_list, HS.out]; rfl), ((Below.refl w.heap.size w).alloc (Nat.le_refl _) _).trans (hb1.mono (by simp))⟩
  · go_enter Tryz.func74, Tryz.ntmps74
    go_wp2_with (go_at_call 100; refine Calls.mono (HX.out _ ((Below.refl _ _).alloc (Nat.le_refl _) _)) ?_; rintro e w1 ⟨rfl, hb1⟩)
    go_ret
    refine ⟨ret_str9 (by rw [app_list, HS.out]; rfl), ((Below.refl w.heap.size w).alloc (Nat.le_refl _) _).trans (hb1.mono (by simp))⟩
set_option maxRecDepth 100000 in
set_option maxHeartbeats 1600000 in
theorem rexpr_two {rows : List Row} {p : Int} {t : List UInt8} {x y : Nd} (hlv : 0 ≤ lvl t) (hx : PrX rows x) (hy : PrX rows y) (hwx : WfX x) (hwy : WfX y) (hs : ndSize x + ndSize y ≤ 1000) : PrX rows (.mk 19 0 p t [x, y]) := by
  intro a c i w ht hr
  obtain ⟨hi, is, g, ka, kc, rfl, hnd, hts⟩ := ht.node hr
  obtain ⟨i1, i2, rfl, ht1, ht2⟩ := ts_two hts
  have x0 := hnd.k
  have x1 := hnd.n
  have x2 := hnd.p
  have x3 := hnd.t
  have x4 := hnd.ks
  obtain ⟨kb, ko, rfl, y0, -⟩ := kid_cell hnd.kin 0 _ rfl
  obtain ⟨kb', ko', he, y1, -⟩ := kid_cell hnd.kin 1 _ rfl
  simp only [Option.some.injEq, Addr.mk.injEq, and_true] at he
  obtain ⟨rfl, rfl⟩ := he
  simp only [List.length_cons, List.length_nil, Nat.zero_add, Nat.add_zero, Nat.reduceAdd] at x0 x1 x2 x3 x4 y0 y1
  have hi' : (i : Int) < (rows.length : Int) := by omega
  have hl1 := Nat.le_trans (side_len x (lvl t)) (Nat.add_le_add_right (len_x _ x (Nat.le_refl _) hwx) 2)
  have hl2 := Nat.le_trans (side_len y (lvl t + 1)) (Nat.add_le_add_right (len_x _ y (Nat.le_refl _) hwy) 2)
  have hl3 := lvl_len hlv
  have hl4 := lvl_le t
  obtain ⟨S, hS⟩ : ∃ S : ByteArray, S = ⟨⟨pcsB (sideP x (lvl t))⟩⟩ := ⟨_, rfl⟩
  obtain ⟨S2, hS2⟩ : ∃ S : ByteArray, S = ⟨⟨pcsB (sideP y (lvl t + 1))⟩⟩ := ⟨_, rfl⟩
  obtain ⟨T, hT⟩ : ∃ S : ByteArray, S = ⟨⟨t⟩⟩ := ⟨_, rfl⟩
  have hSl : S.size ≤ 13000 := by rw [hS, Lib.size_eq]; show (pcsB (sideP x (lvl t))).length ≤ _; omega
  have hSl2 : S2.size ≤ 13000 := by rw [hS2, Lib.size_eq]; show (pcsB (sideP y (lvl t + 1))).length ≤ _; omega
  have hTl : T.size ≤ 2 := by rw [hT, Lib.size_eq]; exact hl3
  have HS := Hid.out (p := Hid _) (And.intro hS (And.intro hS2 hT))
  rw [← hT] at x3
  obtain ⟨L, hL⟩ : ∃ L, L = lvl t := ⟨_, rfl⟩
  have HX : Hid (∀ W, Below w.heap.size w W → Calls Tryz.prog 100 #[.slice (some ⟨g, 0, none⟩) rows.length c, .int .i64 (i1 : Int), .int .i64 L] W fun e w' => e = .returned (.string S) ∧ Below W.heap.size W w') := fun W hW => by
    rw [hS, hL]
    exact rside_any hx hwx (by omega) _ c i1 _ W ht1 (hr.below hW)
  have HY : Hid (∀ W, Below w.heap.size w W → Calls Tryz.prog 100 #[.slice (some ⟨g, 0, none⟩) rows.length c, .int .i64 (i2 : Int), .int .i64 (L + 1)] W fun e w' => e = .returned (.string S2) ∧ Below W.heap.size W w') := fun W hW => by
    rw [hS2, hL]
    exact rside_any hy hwy (by omega) _ c i2 _ W ht2 (hr.below hW)
  have HB : Hid (∀ ka kn kc w, Calls Tryz.prog 101 #[.agg #[.int .i64 19, .int .i64 0, .int .i64 p, .string T, .slice ka kn kc]] w fun e w' => e = .returned (.int .i64 L) ∧ Below w.heap.size w w') := fun ka kn kc w => by
    rw [hT, hL]
    exact rbind_any 19 0 p t ka kn kc w
  have HC : Hid (∀ (o : Obj) W, Below (w.heap.size + 1) (w.alloc o) W → W.heap[w.heap.size]? = some o ∧ W.cell? ⟨kb, ko, none⟩ = some (.int .i64 (i1 : Int)) ∧ W.cell? ⟨kb, ko + 1, none⟩ = some (.int .i64 (i2 : Int)) ∧ Below w.heap.size w W) := fun o W hW => by
    have hA := (Below.refl w.heap.size w).alloc (Nat.le_refl _) o
    have hB := hA.trans (hW.mono (Nat.le_succ _))
    exact ⟨(hW.block _ (Nat.lt_succ_self _)).trans (heap_alloc_new _ _), (hB.cell (lt_of_cell y0)).trans y0, (hB.cell (lt_of_cell y1)).trans y1, hB⟩
  have hq : pcsB (pcsX (.mk 19 0 p t [x, y])) = pcsB (sideP x (lvl t)) ++ ([32] ++ t ++ [32]) ++ pcsB (sideP y (lvl t + 1)) := by
    rw [pcsX_two _ _ _ _ _ _ _ (by decide), pcsB_app, pcsB_app]
    simp [pcsB, pcB]
  rw [hq]
  have hLb : -1 ≤ L ∧ L ≤ 5 := by omega
  clear hnd hr ht hq hts ht1 ht2 hl1 hl2 hl3 hl4 hS hS2 hT hL hx hy
  go_enter Tryz.func74, Tryz.ntmps74
  go_wp2_with fail
  refine Calls.mono (HB.out _ _ _ _) ?_
  rintro e w1 ⟨rfl, hb1⟩
  rw [show (w.alloc (.cells #[.int .i64 19, .int .i64 0, .int .i64 p, .string T, .slice (some ⟨kb, ko, none⟩) 2 kc] 53)).heap.size = w.heap.size + 1 by simp] at hb1
  obtain ⟨hx1, z0, z1, hB1⟩ := HC.out _ _ hb1
  obtain ⟨e0, e1, e2, e3, e4, ef⟩ := box5 hx1
  have HB1 := Hid.out (p := Hid _) (And.intro hb1 hB1)
  clear hx1 hB1 hb1 x0 x1 x2 x3 x4 y0 y1
  go_wp2_with fail
  refine Calls.mono (HX.out _ HB1.out.2) ?_
  rintro e w2 ⟨rfl, hb2⟩
  have hb2' := HB1.out.1.trans (hb2.mono (by have := HB1.out.1.size; simp at this; omega))
  obtain ⟨hx2, z0, z1, hB2⟩ := HC.out _ _ hb2'
  clear e0 e1 e2 e3 e4 ef
  obtain ⟨e0, e1, e2, e3, e4, ef⟩ := box5 hx2
  have HB2 := Hid.out (p := Hid _) (And.intro hb2' hB2)
  clear hx2 hB2 hb2 hb2' HB1 HX
  go_wp2_with fail
  refine Calls.mono (HY.out _ HB2.out.2) ?_
  rintro e w3 ⟨rfl, hb3⟩
  have hb3' := HB2.out.1.trans (hb3.mono (by have := HB2.out.1.size; simp at this; omega))
  obtain ⟨hx3, z0, z1, hB3⟩ := HC.out _ _ hb3'
  clear e0 e1 e2 e3 e4 ef
  obtain ⟨e0, e1, e2, e3, e4, ef⟩ := box5 hx3
  have HB3 := Hid.out (p := Hid _) hB3
  clear hx3 hB3 hb3 hb3' HB2 HY
  go_wp2_with fail
  go_ret
  refine ⟨ret_str9 ?_, HB3.out⟩
  obtain ⟨hS, hS2, hT⟩ := HS.out
  rw [app_list, app_list, app_list, app_list, hS, hS2, hT]
  simp

/-- The document prints every expression. -/
theorem rexpr_any {rows : List Row} : ∀ N x, ndSize x ≤ N → N ≤ 1000 → WfX x → PrX rows x
  | 0, x, hN, _, _ => by have := size_pos x; omega
  | N + 1, x, hN, hM, hw => by
    rcases wfx_cases hw with ⟨n, p, rfl, h0, h9⟩ | ⟨p, t, rfl, ht⟩ | ⟨k, p, a, rfl, hk, ha⟩ | ⟨p, t, a, b, rfl, hl, ha, hb⟩
    · exact rexpr_num h0 h9
    · exact rexpr_name
    · simp only [ndSize, ndsSize] at hN
      exact rexpr_sign hk (rexpr_any N a (by omega) (by omega) ha) ha (by omega)
    · simp only [ndSize, ndsSize] at hN
      exact rexpr_two hl (rexpr_any N a (by omega) (by omega) ha) (rexpr_any N b (by omega) (by omega) hb) ha hb (by omega)

end Go.Proofs.YtclnjhffcfkihaeGreatDoor
