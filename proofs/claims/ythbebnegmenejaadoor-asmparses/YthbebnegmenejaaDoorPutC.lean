/-
  What the document's put does with an order's line.
-/
import Derived.Test.YthbebnegmenejaaDoorPutA
import Derived.Test.YthbebnegmenejaaDoorAddN
import Derived.Deep.DrawnRows
import Derived.BigRegion
namespace Go.Proofs.YthbebnegmenejaaDoor
open Go.RowKit

/-- What an order's line makes of a program. -/
def ordS (st : St) (l : List UInt8) (vs : List Int) : Option St :=
  match opOf l with
    | none => none
    | some op => if vs.length = cntOf op then some { st with ths := st.ths.set (st.ths.length - 1) (st.ths.getD (st.ths.length - 1) [] ++ [((op : Int), vs.getD 0 0, vs.getD 1 0, vs.getD 2 0)]) } else none

theorem opOf_of {q : Nat} (h : 1 ≤ q ∧ q ≤ 18) {N : ByteArray} (hN : nm (q : Int) = N) : opOf N.data.toList = some q := by
  cases ho : opOf N.data.toList with
  | none =>
    have := opOf_none ho (q - 1) (by omega)
    rw [show (((q - 1 : Nat) : Int) + 1) = (q : Int) by omega, hN] at this
    exact absurd rfl this
  | some r =>
    obtain ⟨h1, h2, h3⟩ := opOf_some ho
    have e : nm (r : Int) = N := ByteArray.ext (Array.toList_inj.mp h3)
    have := nm_inj (a := r - 1) (b := q - 1) (by omega) (by omega) (by rw [show (((r - 1 : Nat) : Int) + 1) = (r : Int) by omega, show (((q - 1 : Nat) : Int) + 1) = (q : Int) by omega, e, hN])
    congr 1; omega
theorem ordS_no {st : St} {N : ByteArray} {vs : List Int} (h : ∀ j : Nat, 1 ≤ j → j < 19 → ¬ (nm (j : Int) = N ∧ (ks (j : Int)).size = vs.length)) : ordS st N.data.toList vs = none := by
  unfold ordS
  cases ho : opOf N.data.toList with
  | none => rfl
  | some op =>
    obtain ⟨h1, h2, h3⟩ := opOf_some ho
    have e : nm (op : Int) = N := ByteArray.ext (Array.toList_inj.mp h3)
    show (if _ then _ else _) = _
    rw [if_neg (fun hl => h op h1 (by omega) ⟨e, hl.symm⟩)]
theorem ordS_yes {st : St} {N : ByteArray} {vs : List Int} {q : Nat} (hq : 1 ≤ q ∧ q ≤ 18) (hN : nm (q : Int) = N) (hk : (ks (q : Int)).size = vs.length) : ordS st N.data.toList vs = some { st with ths := st.ths.set (st.ths.length - 1) (st.ths.getD (st.ths.length - 1) [] ++ [((q : Int), vs.getD 0 0, vs.getD 1 0, vs.getD 2 0)]) } := by
  unfold ordS
  rw [opOf_of hq hN]
  show (if _ then _ else _) = _
  rw [if_pos (show vs.length = cntOf q from hk.symm)]

theorem ks_le {op : Int} (h : 1 ≤ op ∧ op ≤ 18) : (ks op).size ≤ 3 := by
  rcases op_cases op with h1 | rfl | rfl | rfl | rfl | rfl | rfl | rfl | rfl | rfl | rfl | rfl | rfl | rfl | rfl | rfl | rfl | rfl | rfl
  · omega
  all_goals decide
theorem nums3 (vs : List Int) (j : Nat) (hj : j < 3) : (vs.map (Value.int .i64) ++ [.int .i64 0, .int .i64 0, .int .i64 0])[j]? = some (.int .i64 (vs.getD j 0)) := by
  by_cases h : j < vs.length
  · rw [List.getElem?_append_left (by simpa using h)]
    simp [List.getElem?_eq_getElem h, List.getD]
  · rw [List.getElem?_append_right (by simp; omega)]
    simp only [List.length_map, List.getD, List.getElem?_eq_none (show vs.length ≤ j by omega), Option.getD_none]
    rcases (by omega : j - vs.length = 0 ∨ j - vs.length = 1 ∨ j - vs.length = 2) with e | e | e <;> rw [e] <;> rfl

section
variable {w W : World} {B pb gc n cap p tl tc : Nat} {wv : Value} {tv : List Value} {st : St} {ta : Option Addr}
theorem order_at (h : PSt w B pb (.slice (some ⟨gc, 0, none⟩) n cap) wv tv st) (hp : p + 1 = n) (hn : n = st.ths.length) : ∃ ta tc, tv.getD p nilS = .slice ta (st.ths.getD p []).length tc :=
  owns_slice (h.built.thr p (by omega))
theorem order_cells (h : PSt w B pb (.slice (some ⟨gc, 0, none⟩) n cap) wv tv st) (hp : p + 1 = n) (hn : n = st.ths.length) (hT : tv.getD p nilS = .slice ta tl tc) (hB : Below w.heap.size w W) :
    W.cell? ⟨pb, 0, none⟩ = some (.slice (some ⟨gc, 0, none⟩) n cap) ∧ W.cell? ⟨gc, p, none⟩ = some (.slice ta tl tc) ∧ W.frozen? ⟨gc, p, none⟩ = false ∧ gc < W.heap.size ∧ pb < W.heap.size := by
  have hcp : w.cell? ⟨gc, p, none⟩ = some (.slice ta tl tc) := by
    have hc := h.built.code
    rw [← hn] at hc
    rw [hc.cellAt p (by omega), ← hT]
    have hl := h.built.tv_len
    simp [List.getD, List.getElem?_eq_getElem (show p < tv.length by omega)]
  have hgc : gc < w.heap.size := lt_of_cell hcp
  have hpb : pb < w.heap.size := lt_of_cell h.c0
  exact ⟨(hB.cell hpb).trans h.c0, (hB.cell hgc).trans hcp, (hB.frozen hgc).trans (owns_frozen h.built.code p), Nat.lt_of_lt_of_le hgc hB.size, Nat.lt_of_lt_of_le hpb hB.size⟩
theorem order_run (h : PSt w B pb (.slice (some ⟨gc, 0, none⟩) n cap) wv tv st) (hp : p + 1 = n) (hn : n = st.ths.length) (hT : tv.getD p nilS = .slice ta tl tc) (htl : (st.ths.getD p []).length = tl) (hlen : tl ≤ 4000) (hB : Below w.heap.size w W) (x : I4) :
    ∃ g3 cap3 w3, (AppSem #[33, 33] 33 #[.slice ta tl tc, .slice (some ⟨W.heap.size, 0, none⟩) 1 1]).run Tryd.prog (W.alloc (.cells #[.int .i64 x.1, .int .i64 x.2.1, .int .i64 x.2.2.1, .int .i64 x.2.2.2] 48)) = .ok (.slice (some ⟨g3, 0, none⟩) (tl + 1) cap3) w3 ∧
      w3.cell? ⟨pb, 0, none⟩ = some (.slice (some ⟨gc, 0, none⟩) n cap) ∧ w3.cell? ⟨gc, p, none⟩ = some (.slice ta tl tc) ∧ w3.frozen? ⟨gc, p, none⟩ = false ∧
      Hid (Kept B pb w (w3.setCell ⟨gc, p, none⟩ (.slice (some ⟨g3, 0, none⟩) (tl + 1) cap3)) ∧ ∃ tv', PSt (w3.setCell ⟨gc, p, none⟩ (.slice (some ⟨g3, 0, none⟩) (tl + 1) cap3)) B pb (.slice (some ⟨gc, 0, none⟩) n cap) wv tv' { st with ths := st.ths.set p (st.ths.getD p [] ++ [x]) }) := by
  obtain ⟨i0, hi, hz0, hz1, hz2⟩ := info_parts infoInstr
  obtain ⟨c0, c1, f1, hgc, hpb⟩ := order_cells h hp hn hT hB
  have hpn : p < st.ths.length := by omega
  have hthr := h.built.thr p hpn
  rw [hT, htl] at hthr
  have hTpb : (Value.slice ta tl tc).ownBlock ≠ some pb := fun e => by
    have := (hthr.lt pb e).1
    have := h.lt
    omega
  have hTgc : (Value.slice ta tl tc).ownBlock ≠ some gc := fun e => h.built.s1 p gc hpn (by rw [hT]; exact e) rfl
  have hBW := Nat.le_trans h.le hB.size
  obtain ⟨g3, cap3, w3, hrun, hown, hgrow, hat, _⟩ := run_append_lies (P := Tryd.prog) (W.alloc (.cells #[.int .i64 x.1, .int .i64 x.2.1, .int .i64 x.2.2.1, .int .i64 x.2.2.2] 48)) 33 33 B 48 i0 _ 4 32 Tryd.underlying33 hi hz0 hz1 hz2 rfl (by omega) (.slice ta tl tc) tl _ ((owns_below2 hthr hB).alloc _) ⟨W.heap.size, 0, none⟩ 1 1 [.int .i64 x.1, .int .i64 x.2.1, .int .i64 x.2.2.1, .int .i64 x.2.2.2] (by rfl) (World.news_of_block (cs := #[.int .i64 x.1, .int .i64 x.2.1, .int .i64 x.2.2.1, .int .i64 x.2.2.2]) (t := 48) (fr := (0, 0)) (heap_alloc_new W _)) (by simp [Value.oneCell']) (by omega) (by unfold maxLen; omega) (by omega) (by simp; omega) (W.heap.size + 1) (by simp)
  refine ⟨g3, cap3, w3, hrun, ?_, ?_, ?_, ?_⟩
  · exact (hgrow.cell_far ⟨pb, 0, none⟩ (by show pb < _; rw [World.size_alloc]; omega) (Ne.symm hTpb)).trans ((World.cell?_alloc_past _ pb 0 hpb).trans c0)
  · exact (hgrow.cell_far ⟨gc, p, none⟩ (by show gc < _; rw [World.size_alloc]; omega) (Ne.symm hTgc)).trans ((World.cell?_alloc_past _ gc p hgc).trans c1)
  · exact (hgrow.frozen_far ⟨gc, p, none⟩ (by show gc < _; rw [World.size_alloc]; omega) (Ne.symm hTgc)).trans ((World.frozen?_alloc_past _ gc p hgc).trans f1)
  · have := addOrder_fin (x := x) h hB hp hn hT htl hown hgrow hat
    exact ⟨this.2.1, this.2.2⟩
end

attribute [local go_sem ↓] Go.wp_at_zero Go.wp_at_succ
attribute [local go_sem ↓] appSem_eq
set_option maxRecDepth 100000 in
set_option maxHeartbeats 16000000 in
theorem put_order (k : Int) (h0 : (k == 0) = false) (h1 : (k == 1) = false) (h2 : (k == 2) = false) (h3 : (k == 3) = false) (B pb gc n cap : Nat) (wv : Value) (tv : List Value) (st : St) (s : ByteArray) (hs : s.size ≤ 4000) (vs : List Int) (HN : Hid (numsOf s.data.toList = some vs)) (HM : Hid (¬ nameL s.data.toList = [116, 104, 114, 101, 97, 100])) (p : Nat) (hp : p + 1 = n) (HNN : Hid (n = st.ths.length)) (hn4 : n ≤ 4000) (hlen : (st.ths.getD p []).length ≤ 4000) (HV : vs.length ≤ 4001) (w : World)
    (h : PSt w B pb (.slice (some ⟨gc, 0, none⟩) n cap) wv tv st) :
    Calls Tryd.prog 13 #[.pointer (some ⟨pb, 0, none⟩), .int .i64 k, .string s] w fun e w' => PutQ B pb w (ordS st (nameL s.data.toList) vs) e w' := by
  obtain ⟨i0, hi, hz0, hz1, hz2⟩ := info_parts infoInt
  obtain ⟨j0, hj, hy0, hy1, hy2⟩ := info_parts infoInstr
  have hni : (n : Int) - 1 = (p : Int) := by omega
  have hpi0 : (0 : Int) ≤ (p : Int) := by omega
  have hpi1 : (p : Int) < (n : Int) := by omega
  have HP := Hid.out (p := Hid _) h
  clear h
  go_enter Tryd.func13, Tryd.ntmps13
  go_wp2_with (first | (go_at_call 29; refine (read_any s hs _).mono ?_; rintro e w1 ⟨hL, hb1⟩; unfold LineP at hL; rw [HN.out] at hL; obtain ⟨N, v, hnm, rfl, hown⟩ := hL; obtain ⟨va, vc, rfl⟩ := owns_slice hown; have hne : (N.toList == [116, 104, 114, 101, 97, 100]) = false := (by rw [Lib.toList_data, hnm]; simpa using HM.out); have HNM := Hid.out (p := Hid _) hnm; clear hnm))
  go_loop [8, 10] (fun l i => ∃ q : Nat, (1 ≤ q ∧ q ≤ 19) ∧ l = .slice va vs.length vc ∧ i = .int .i64 q ∧ Hid (∀ j : Nat, 1 ≤ j → j < q → ¬ (nm (j : Int) = N ∧ (ks (j : Int)).size = vs.length))) (fun _ i => 19 - (intOf i).toNat)
  case atStart => exact ⟨1, by omega, rfl, rfl, fun j h1 h2 => by omega⟩
  case round =>
    obtain ⟨q, hq, rfl, rfl, HNO⟩ := hrel
    by_cases hlt : q ≤ 18
    · obtain ⟨NQ, hNQ⟩ : ∃ NQ, nm (q : Int) = NQ := ⟨_, rfl⟩
      obtain ⟨KQ, hKQ⟩ : ∃ KQ, ks (q : Int) = KQ := ⟨_, rfl⟩
      have hname : ∀ W, Calls Tryd.prog 30 #[.int .i64 (q : Int)] W fun e w' => e = .returned (.tuple #[.string NQ, .string KQ]) ∧ W = w' := fun W => by
        rw [← hNQ, ← hKQ]
        exact (name_any q W).mono fun e w' h => ⟨h.1, h.2.symm⟩
      have HNQ : Hid (nm (q : Int) = NQ) := hNQ
      have HKQ : Hid (ks (q : Int) = KQ) := hKQ
      have hK3 : KQ.size ≤ 3 := by rw [← hKQ]; exact ks_le (by omega)
      clear hNQ hKQ
      by_cases hit : NQ = N ∧ KQ.size = vs.length
      · obtain ⟨hNN, hk⟩ := hit
        subst hNN
        have hk' : ((KQ.size : Int) == (vs.length : Int)) = true := by simp [hk]
        have HY : Hid (ordS st (nameL s.data.toList) vs = some { st with ths := st.ths.set (st.ths.length - 1) (st.ths.getD (st.ths.length - 1) [] ++ [((q : Int), vs.getD 0 0, vs.getD 1 0, vs.getD 2 0)]) }) := by
          show _ = _
          rw [← HNM.out]
          exact ordS_yes (by omega) HNQ.out (by rw [HKQ.out]; exact hk)
        have hv3 : vs.length ≤ 3 := by omega
        have hx0 : (0 : Int) < (vs.length : Int) + 3 := by omega
        have hx1 : (1 : Int) < (vs.length : Int) + 3 := by omega
        have hx2 : (2 : Int) < (vs.length : Int) + 3 := by omega
        clear HNO hk
        obtain ⟨a0, ha0⟩ : ∃ a0, vs.getD 0 0 = a0 := ⟨_, rfl⟩
        obtain ⟨a1, ha1⟩ : ∃ a1, vs.getD 1 0 = a1 := ⟨_, rfl⟩
        obtain ⟨a2, ha2⟩ : ∃ a2, vs.getD 2 0 = a2 := ⟨_, rfl⟩
        have HA : Hid (vs.getD 0 0 = a0 ∧ vs.getD 1 0 = a1 ∧ vs.getD 2 0 = a2) := ⟨ha0, ha1, ha2⟩
        rw [ha0, ha1, ha2] at HY
        clear ha0 ha1 ha2
        go_wp2_with (first | (go_at_call 30; refine (hname _).mono ?_; rintro e w2 ⟨rfl, rfl⟩) | (at_builtin; refine wpList_append_own _ rfl _ _ 23 rfl w.heap.size 3 i0 (.int .i64 0) 1 8 Tryd.underlying23 hi hz0 hz1 hz2 rfl (by decide) _ _ _ rfl (hown.alloc _) ⟨w1.heap.size, 0, none⟩ 3 3 [.int .i64 0, .int .i64 0, .int .i64 0] rfl rfl (World.news_of_block (cs := #[.int .i64 0, .int .i64 0, .int .i64 0]) (fr := (0, 0)) (heap_alloc_new w1 _)) (fun x hx => by simp at hx; subst hx; rfl) (by unfold maxLen; omega) (by omega) (by have := hb1.size; simp; omega) ?_; intro v' w2 hown' hgrow3 hnil3; obtain ⟨g, cap2, rfl, _, hglt⟩ := hown'.form (by omega); have l0 := (hown'.cellAt 0 (by simp)).trans (nums3 vs 0 (by omega)); have l1 := (hown'.cellAt 1 (by simp)).trans (nums3 vs 1 (by omega)); have l2 := (hown'.cellAt 2 (by simp)).trans (nums3 vs 2 (by omega)); rw [HA.out.1] at l0; rw [HA.out.2.1] at l1; rw [HA.out.2.2] at l2; have hB2 : Below w.heap.size w w2 := (hb1.alloc hb1.size _).grown hgrow3 (by have := hb1.size; simp; omega) (fun q hq => (hown.lt q hq).1); obtain ⟨ta, tc, hT⟩ := order_at HP.out hp HNN.out; obtain ⟨tl, htl⟩ : ∃ tl, (st.ths.getD p []).length = tl := ⟨_, rfl⟩; rw [htl] at hT hlen; obtain ⟨c0, c1, f1, hgc, hpb⟩ := order_cells HP.out hp HNN.out hT hB2; obtain ⟨g3, cap3, w3, hrun3, q0, q1, qf, HFIN⟩ := order_run HP.out hp HNN.out hT htl hlen hB2.drew (q, a0, a1, a2); have hrun3 : (AppSem #[33, 33] 33 #[.slice ta tl tc, .slice (some ⟨w2.heap.size, 0, none⟩) 1 1]).run Tryd.prog (w2.alloc (.cells #[.int .i64 q, .int .i64 a0, .int .i64 a1, .int .i64 a2] 48)).drew = .ok (.slice (some ⟨g3, 0, none⟩) (tl + 1) cap3) w3 := hrun3; clear hgrow3 hnil3 hown' hT htl))
        go_region
        all_goals go_wp2
        all_goals go_ret
        all_goals rw [HY.out]
        all_goals rw [show st.ths.length - 1 = p by have := HNN.out; omega]
        all_goals exact ⟨HFIN.out.1, rfl, _, _, HFIN.out.2⟩
      · have HNO' : Hid (∀ j : Nat, 1 ≤ j → j < q + 1 → ¬ (nm (j : Int) = N ∧ (ks (j : Int)).size = vs.length)) := fun j a b => by
          by_cases e : j = q
          · subst e; rw [HNQ.out, HKQ.out]; exact hit
          · exact HNO.out j a (by omega)
        by_cases hn : NQ = N
        · subst hn
          have hk : ((KQ.size : Int) == (vs.length : Int)) = false := by
            have : KQ.size ≠ vs.length := fun e => hit ⟨rfl, e⟩
            simp; omega
          clear hit HNO
          go_wp2_with (first | (go_at_call 30; refine (hname _).mono ?_; rintro e w2 ⟨rfl, rfl⟩))
          go_round
          case rel => exact ⟨q + 1, by omega, rfl, by go_num, HNO'⟩
          case measure => simp [intOf]; omega
        · have hk : (NQ.toList == N.toList) = false := ne_str (fun e => hn (ByteArray.ext (Array.toList_inj.mp e)))
          clear hit HNO hn
          go_wp2_with (first | (go_at_call 30; refine (hname _).mono ?_; rintro e w2 ⟨rfl, rfl⟩))
          go_round
          case rel => exact ⟨q + 1, by omega, rfl, by go_num, HNO'⟩
          case measure => simp [intOf]; omega
    · have hq19 : q = 19 := by omega
      subst hq19
      have HO : Hid (ordS st (nameL s.data.toList) vs = none) := by
        show _ = _
        rw [← HNM.out]
        exact ordS_no HNO.out
      go_wp2
      go_ret
      rw [HO.out]
      exact ⟨Kept.of_below hb1 HP.out.le, rfl⟩

end Go.Proofs.YthbebnegmenejaaDoor
