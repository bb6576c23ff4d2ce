/-
  The document's use.
  The document's node: what is asked of it, in plain words.
  The program's checker in memory.
-/
import Derived.Test.YtggfbfjdiikaeaaGreatDoorChkD3
import Derived.Test.YtggfbfjdiikaeaaGreatDoorLexA8
import Derived.Test.YtggfbfjdiikaeaaGreatDoorSqA
import Derived.Maps.OwnSet
import Derived.Maps.OwnOps
namespace Go.Proofs.YtggfbfjdiikaeaaGreatDoor
section
open Go.RowKit

theorem find_last {L : List Nat} {p : Nat → Bool} {j d : Nat} (hd : L.reverse[j]? = some d) (hp : p d = true) (hno : ∀ e, e ∈ L.reverse.drop (j + 1) → p e = false) : L.find? p = some d := by
  have hj : j < L.reverse.length := by
    rcases Nat.lt_or_ge j L.reverse.length with h | h
    · exact h
    · rw [List.getElem?_eq_none h] at hd; cases hd
  have h1 : L.reverse = L.reverse.take j ++ d :: L.reverse.drop (j + 1) := by
    have := List.take_append_drop j L.reverse
    rw [List.drop_eq_getElem_cons hj] at this
    rw [List.getElem?_eq_getElem hj] at hd
    rw [Option.some.inj hd] at this
    exact this.symm
  have h2 : L = (L.reverse.drop (j + 1)).reverse ++ d :: (L.reverse.take j).reverse := by
    have := congrArg List.reverse h1
    rw [List.reverse_reverse] at this
    rw [List.reverse_append, List.reverse_cons] at this
    simpa using this
  rw [h2, List.find?_append]
  have h3 : (L.reverse.drop (j + 1)).reverse.find? p = none := by
    rw [List.find?_eq_none]
    intro e he
    have := hno e (by simpa using he)
    simp [this]
  rw [h3, List.find?_cons, hp]
  rfl
theorem find_no {L : List Nat} {p : Nat → Bool} (hno : ∀ e, e ∈ L.reverse.drop 0 → p e = false) : L.find? p = none := by
  rw [List.find?_eq_none]
  intro e he
  have := hno e (by simpa using he)
  simp [this]
/-- What a name's use leaves. -/
def useD (rows : List Row) (i : Nat) (lk : Bool) (s : Cs) : Cs × (Int × Int) := match findC rows s.sc (rowA rows i).text with
  | none => (s, (7, (rowA rows i).pos))
  | some d => ({ s with us := s.us.set i (d : Int) }, if isLok (rowA rows d).kind = lk then (0, 0) else (9, (rowA rows i).pos))
section
variable {w0 w : World} {a : Option Addr} {c : Nat} {rows : List Row} {P : Nat} {v : Rc → Value} {s : Cs}
set_option maxRecDepth 100000 in
set_option maxHeartbeats 3200000 in
theorem ruse_any (h : CDs w0 w a c rows P v s (0, 0)) (hok : CsOk rows s) {i : Nat} (hi : i < rows.length) (hn : s.sc.flatten.length ≤ 100000) (lk : Bool) (hlk : lk = ((rowA rows i).kind == 12 || (rowA rows i).kind == 13)) :
    Calls Tryz.prog 35 #[.pointer (some ⟨P, 0, none⟩), .int .i64 (i : Int)] w fun e w' => e = .returned (.tuple #[]) ∧ CDs w0 w' a c rows P v (useD rows i lk s).1 (useD rows i lk s).2 ∧ KpD w w' := by
  obtain ⟨g, ka, kc, rfl, hnd⟩ := h.node hi
  obtain ⟨ta, tc, htv⟩ := fam_form (h.fam.own .th)
  have htv' : v .th = .slice ta s.sc.flatten.length tc := htv
  obtain ⟨ub, uc, huv, hub, -, hul⟩ := fam_block (h.fam.own .us) (by show 0 < s.us.length; rw [hok.us]; omega)
  have huv' : v .us = .slice (some ⟨ub, 0, none⟩) s.us.length uc := huv
  rw [hok.us] at huv'
  obtain ⟨n, hnn⟩ : ∃ n, n = s.sc.flatten.length := ⟨_, rfl⟩
  have c0 := h.c0
  have c2 := h.c2
  rw [htv', ← hnn] at c2
  have x0 := hnd.k
  have x1 := hnd.n
  have x2 := hnd.p
  have x3 := hnd.t
  have x4 := hnd.ks
  obtain ⟨KI, hKI⟩ : ∃ x, (rowA rows i).kind = x := ⟨_, rfl⟩
  obtain ⟨NI, hNI⟩ : ∃ x, (rowA rows i).num = x := ⟨_, rfl⟩
  obtain ⟨PI, hPI⟩ : ∃ x, (rowA rows i).pos = x := ⟨_, rfl⟩
  obtain ⟨TI, hTI⟩ : ∃ T : ByteArray, ⟨⟨(rowA rows i).text⟩⟩ = T := ⟨_, rfl⟩
  obtain ⟨LI, hLI⟩ : ∃ x, (rowA rows i).kids.length = x := ⟨_, rfl⟩
  rw [hKI] at x0 hlk
  rw [hNI] at x1
  rw [hPI] at x2
  rw [hTI] at x3
  rw [hLI] at x4
  obtain ⟨o, ho⟩ : ∃ o, o = Obj.cells #[.int .i64 KI, .int .i64 NI, .int .i64 PI, .string TI, .slice ka LI kc] 60 := ⟨_, rfl⟩
  have hA := (Below.refl w.heap.size w).alloc (Nat.le_refl _) o
  have hnb : n ≤ 100000 := by omega
  have HFl : Hid (∀ W s' code, CDs w0 W (some ⟨g, 0, none⟩) c rows P v s' (0, 0) → Calls Tryz.prog 32 #[.pointer (some ⟨P, 0, none⟩), .int .i64 code, .int .i64 (i : Int)] W fun e w' => e = .returned (.tuple #[]) ∧ CDs w0 w' (some ⟨g, 0, none⟩) c rows P v s' (code, (rowA rows i).pos) ∧ KpD W w') := fun W s' code hW => by
    have := rfail_any hW hi code
    rw [if_pos rfl] at this
    exact this
  have HK : Hid (∀ (j : Nat), j < n → ∃ (d : Nat) (T : ByteArray) (tb : Nat), s.sc.flatten.reverse[j]? = some d ∧ d < rows.length ∧ ta = some ⟨tb, 0, none⟩ ∧ (∀ W s' f, CDs w0 W (some ⟨g, 0, none⟩) c rows P v s' f → W.cell? ⟨g, d * 5 + 3, none⟩ = some (.string T) ∧ W.cell? ⟨g, d * 5, none⟩ = some (.int .i64 (rowA rows d).kind) ∧ W.cell? ⟨P, 0, none⟩ = some (.slice (some ⟨g, 0, none⟩) rows.length c) ∧ W.cell? ⟨P, 1, none⟩ = some (.slice (some ⟨ub, 0, none⟩) rows.length uc) ∧ W.cell? ⟨P, 2, none⟩ = some (.slice (some ⟨tb, 0, none⟩) n tc)) ∧ (∀ W f, CDs w0 W (some ⟨g, 0, none⟩) c rows P v s f → W.cell? ⟨tb, j, none⟩ = some (.int .i64 (d : Int))) ∧
      ((T.toList == TI.toList) = true ∧ (rowA rows d).text = (rowA rows i).text ∨ (T.toList == TI.toList) = false ∧ ¬ (rowA rows d).text = (rowA rows i).text)) := fun j hj => by
    obtain ⟨d, hd⟩ : ∃ d, s.sc.flatten.reverse[j]? = some d := ⟨_, List.getElem?_eq_getElem (by simp only [List.length_reverse]; omega)⟩
    have hdm : d ∈ s.sc.flatten := by have := List.mem_of_getElem? hd; simpa using this
    obtain ⟨S9, hS9, hdS⟩ := List.mem_flatten.1 hdm
    have hdl := (hok.mem S9 hS9 d hdS).1
    obtain ⟨tb, cap, e1, e2, -, -⟩ := fam_block (h.fam.own .th) (by show 0 < s.sc.flatten.length; omega)
    rw [htv] at e1
    simp only [Value.slice.injEq] at e1
    have e1' := e1.1
    refine ⟨d, ⟨⟨(rowA rows d).text⟩⟩, tb, hd, hdl, e1', fun W s' f hW => ?_, fun W f hW => hW.fam.cell e2 (iV_at (thL_at hd)), ?_⟩
    · obtain ⟨g1, ka1, kc1, hg1, hn1⟩ := hW.node hdl
      simp only [Option.some.injEq, Addr.mk.injEq, and_true] at hg1
      obtain rfl := hg1
      have hc2 := hW.c2
      rw [htv', e1', ← hnn] at hc2
      have hc1 := hW.c1
      rw [huv'] at hc1
      exact ⟨hn1.t, hn1.k, hW.c0, hc1, hc2⟩
    · by_cases ht : (rowA rows d).text = (rowA rows i).text
      · exact Or.inl ⟨str_yes (by rw [← hTI]; exact ht), ht⟩
      · exact Or.inr ⟨ne_str (by rw [← hTI]; exact ht), ht⟩
  have HU : Hid (∀ W (d : Nat), CDs w0 W (some ⟨g, 0, none⟩) c rows P v s (0, 0) → (∃ u, W.cell? ⟨ub, i, none⟩ = some u) ∧ W.frozen? ⟨ub, i, none⟩ = false ∧ CDs w0 (W.setCell ⟨ub, i, none⟩ (.int .i64 (d : Int))) (some ⟨g, 0, none⟩) c rows P v { s with us := s.us.set i (d : Int) } (0, 0) ∧ KpD W (W.setCell ⟨ub, i, none⟩ (.int .i64 (d : Int))) ∧ ub ≠ w.heap.size) := fun W d hW => by
    obtain ⟨x, hx⟩ : ∃ x, s.us[i]? = some x := ⟨_, List.getElem?_eq_getElem (by rw [hok.us]; exact hi)⟩
    exact ⟨⟨_, hW.fam.cell hub (iV_at hx)⟩, hW.fam.frozen hub i, hW.setU hub i (d : Int), hW.kept hub i _, by omega⟩
  have HD : Hid (CDs w0 (w.alloc o) (some ⟨g, 0, none⟩) c rows P v s (0, 0) ∧ KpD w (w.alloc o)) := ⟨h.below hA, KpD.of_below hA⟩
  have HO : Hid (o = Obj.cells #[.int .i64 KI, .int .i64 NI, .int .i64 PI, .string TI, .slice ka LI kc] 60 ∧ (w.alloc o).heap[w.heap.size]? = some o ∧ ¬ BadD o) := ⟨ho, heap_alloc_new _ _, by rw [ho]; exact bad_node _⟩
  have hi' : (i : Int) < (rows.length : Int) := by omega
  have HN : Hid (n = s.sc.flatten.reverse.length) := by show _ = _; rw [List.length_reverse]; exact hnn
  clear h hok hi hn hnd htv htv' huv huv' hub hKI hNI hPI hTI hLI hnn hA hul
  go_enter Tryz.func35, Tryz.ntmps35
  have hc2u := fun o => cell_up c2 o
  go_wp2_with fail
  rw [← ho]
  clear x0 x1 x2 x3 x4 c0 c2 hc2u ho
  go_loopw [5] (fun x wr => ∃ j : Nat, j ≤ n ∧ x = .int .i64 ((j : Int) - 1) ∧ Hid (CDs w0 wr (some ⟨g, 0, none⟩) c rows P v s (0, 0) ∧ KpD (w.alloc o) wr ∧ ∀ e, e ∈ s.sc.flatten.reverse.drop j → decide ((rowA rows e).text = (rowA rows i).text) = false)) (fun x _ => (intOf x + 1).toNat)
  case atStart => exact ⟨n, Nat.le_refl _, rfl, ⟨HD.out.1, KpD.refl _, fun e he => by rw [HN.out, List.drop_length] at he; cases he⟩⟩
  case round =>
    obtain ⟨j, hj, rfl, HJ⟩ := hrel
    by_cases h0 : j = 0
    · have h0' : ¬ (0 : Int) ≤ (j : Int) - 1 := by omega
      have H0 := Hid.out (p := Hid _) h0
      clear h0
      go_wp2_with fail
      refine Calls.mono (HFl.out _ s 7 HJ.out.1) ?_
      rintro e w2 ⟨rfl, h2, h3⟩
      have HZ := Hid.out (p := Hid _) (And.intro h2 h3)
      clear h2 h3
      go_wp2_with fail
      go_end0
      have hno := HJ.out.2.2
      rw [H0.out] at hno
      have hf : findC rows s.sc (rowA rows i).text = none := find_no hno
      refine ⟨rfl, ?_, (HD.out.2.trans HJ.out.2.1).trans HZ.out.2⟩
      unfold useD
      rw [hf]
      exact HZ.out.1
    · obtain ⟨q, rfl⟩ : ∃ q, j = q + 1 := ⟨j - 1, by omega⟩
      have hqe : ((q + 1 : Nat) : Int) - 1 = (q : Int) := by omega
      rw [hqe]
      obtain ⟨d, T, tb, hd, hdl, rfl, hcs, hcd, hor⟩ := HK.out q (by omega)
      obtain ⟨z1, z2, z3, z5, z4⟩ := hcs _ _ _ HJ.out.1
      have z0 := hcd _ _ HJ.out.1
      have hqn : (q : Int) < (n : Int) := by omega
      have hdl' : (d : Int) < (rows.length : Int) := by omega
      have hxo := (HJ.out.2.1.at' _ _ HO.out.2.1 HO.out.2.2).trans HO.out.2.1
      rw [HO.out.1] at hxo
      obtain ⟨e0, e1, e2, e3, e4, ef⟩ := box5 hxo
      have HC := Hid.out (p := Hid _) hcs
      have HDD := Hid.out (p := Hid _) hd
      have hq0 : (0 : Int) ≤ (q : Int) := by omega
      clear hcs hcd hd hxo h0 hqe
      rcases hor with ⟨heq, ht⟩ | ⟨heq, ht⟩
      · have HTX := Hid.out (p := Hid _) ht
        clear ht
        go_wp2_with fail
        go_quiet (fail)
        have hB : Below wr.heap.size wr (wr.drewN nq) := below_drewN (Below.refl wr.heap.size wr)
        obtain ⟨⟨u, u1⟩, u2, u3, u4, u5⟩ := HU.out _ d (HJ.out.1.below hB)
        have u5' : ¬ w.heap.size = ub := fun e => u5 e.symm
        have HK2 : Hid (KpD w ((wr.drewN nq).setCell ⟨ub, i, none⟩ (.int .i64 (d : Int)))) := ((HD.out.2.trans HJ.out.2.1).trans (KpD.of_below hB)).trans u4
        have hxo := ((KpD.of_below hB).trans u4).at' _ _ ((HJ.out.2.1.at' _ _ HO.out.2.1 HO.out.2.2).trans HO.out.2.1) HO.out.2.2
        have hxo2 := hxo.trans ((HJ.out.2.1.at' _ _ HO.out.2.1 HO.out.2.2).trans HO.out.2.1)
        rw [HO.out.1] at hxo2
        obtain ⟨d0, d1, d2, d3, d4, df⟩ := box5 hxo2
        obtain ⟨q1, q2, q3, q5, q4⟩ := HC.out _ _ _ u3
        have HU3 := Hid.out (p := Hid _) u3
        obtain ⟨KD, hKD⟩ : ∃ x, (rowA rows d).kind = x := ⟨_, rfl⟩
        rw [hKD] at z2 q2
        have HF : Hid (findC rows s.sc (rowA rows i).text = some d) := find_last HDD.out (by simpa using HTX.out) HJ.out.2.2
        have HKD := Hid.out (p := Hid _) hKD
        have HLK := Hid.out (p := Hid _) hlk
        clear u3 u4 hB hxo hxo2 hKD
        have hlb : ((KI == 12) = true ∨ (KI == 12) = false ∧ (KI == 13) = true) ∨ (KI == 12) = false ∧ (KI == 13) = false := by
          cases KI == 12 <;> cases KI == 13 <;> simp
        have hkb : (KD == 3) = true ∨ (KD == 3) = false := by cases KD == 3 <;> simp
        clear hlk
        rcases hlb with (h12 | ⟨h12, h13⟩) | ⟨h12, h13⟩
        · rcases hkb with h3 | h3
          · go_wp2_with fail
            refine bodyPost_ret (v := .tuple #[]) (results_none rfl _ _ _) rfl ?_
            refine ⟨rfl, ?_, HK2.out⟩
            have hl := HLK.out
            unfold useD
            rw [HF.out]
            simp only
            rw [if_pos (by rw [HKD.out, hl]; unfold isLok; simp only [h12, h3]; rfl)]
            exact HU3.out
          · go_wp2_with fail
            refine Calls.mono (HFl.out _ _ 9 HU3.out) ?_
            rintro e w2 ⟨rfl, h2, h9⟩
            have HZ := Hid.out (p := Hid _) (And.intro h2 h9)
            clear h2 h9
            go_wp2_with fail
            refine bodyPost_ret (v := .tuple #[]) (results_none rfl _ _ _) rfl ?_
            refine ⟨rfl, ?_, HK2.out.trans HZ.out.2⟩
            have hl := HLK.out
            unfold useD
            rw [HF.out]
            simp only
            rw [if_neg (by rw [HKD.out, hl]; unfold isLok; simp [h12, h3])]
            exact HZ.out.1
        · rcases hkb with h3 | h3
          · go_wp2_with fail
            refine bodyPost_ret (v := .tuple #[]) (results_none rfl _ _ _) rfl ?_
            refine ⟨rfl, ?_, HK2.out⟩
            have hl := HLK.out
            unfold useD
            rw [HF.out]
            simp only
            rw [if_pos (by rw [HKD.out, hl]; unfold isLok; simp only [h12, h13, h3]; rfl)]
            exact HU3.out
          · go_wp2_with fail
            refine Calls.mono (HFl.out _ _ 9 HU3.out) ?_
            rintro e w2 ⟨rfl, h2, h9⟩
            have HZ := Hid.out (p := Hid _) (And.intro h2 h9)
            clear h2 h9
            go_wp2_with fail
            refine bodyPost_ret (v := .tuple #[]) (results_none rfl _ _ _) rfl ?_
            refine ⟨rfl, ?_, HK2.out.trans HZ.out.2⟩
            have hl := HLK.out
            unfold useD
            rw [HF.out]
            simp only
            rw [if_neg (by rw [HKD.out, hl]; unfold isLok; simp only [h12, h13, h3]; decide)]
            exact HZ.out.1
        · rcases hkb with h3 | h3
          · go_wp2_with fail
            refine Calls.mono (HFl.out _ _ 9 HU3.out) ?_
            rintro e w2 ⟨rfl, h2, h9⟩
            have HZ := Hid.out (p := Hid _) (And.intro h2 h9)
            clear h2 h9
            go_wp2_with fail
            refine bodyPost_ret (v := .tuple #[]) (results_none rfl _ _ _) rfl ?_
            refine ⟨rfl, ?_, HK2.out.trans HZ.out.2⟩
            have hl := HLK.out
            unfold useD
            rw [HF.out]
            simp only
            rw [if_neg (by rw [HKD.out, hl]; unfold isLok; simp only [h12, h13, h3]; decide)]
            exact HZ.out.1
          · go_wp2_with fail
            refine bodyPost_ret (v := .tuple #[]) (results_none rfl _ _ _) rfl ?_
            refine ⟨rfl, ?_, HK2.out⟩
            have hl := HLK.out
            unfold useD
            rw [HF.out]
            simp only
            rw [if_pos (by rw [HKD.out, hl]; unfold isLok; simp only [h12, h13, h3]; rfl)]
            exact HU3.out
      · have HTX := Hid.out (p := Hid _) ht
        clear ht
        go_wp2_with fail
        go_quiet (fail)
        go_wp2_with fail
        go_roundw
        case rel =>
          refine ⟨q, by omega, by go_num, ⟨HJ.out.1.below (below_drewN (Below.refl _ _)), HJ.out.2.1.trans (KpD.of_below (below_drewN (Below.refl _ _))), fun e he => ?_⟩⟩
          have hql : q < s.sc.flatten.reverse.length := by rw [← HN.out]; omega
          rw [List.drop_eq_getElem_cons hql] at he
          rcases List.mem_cons.1 he with he | he
          · have := HDD.out
            rw [List.getElem?_eq_getElem hql] at this
            rw [he, Option.some.inj this]
            exact decide_eq_false HTX.out
          · exact HJ.out.2.2 e he
        case measure => simp [intOf]
end
end

section
open Go.RowKit

/-- What a call leaves. -/
def CQ (w0 : World) (a : Option Addr) (c : Nat) (rows : List Row) (P : Nat) (R : CRes) (w' : World) : Prop := match R with
  | .ok s' => ∃ v', CDs w0 w' a c rows P v' s' (0, 0)
  | .error f => f.1 ≠ 0 ∧ ∃ v' s', CDs w0 w' a c rows P v' s' f
/-- Trees of a program. -/
def Wk (x : Nd) : Prop := WfN x ∨ WfG x ∨ WfT x
theorem wfx_wk {x : Nd} (h : WfX x) : Wk x := Or.inl (kind_x h).2.1
theorem wk_kids {k n p : Int} {t : List UInt8} {ks : List Nd} (h : Wk (.mk k n p t ks)) : (∀ y, y ∈ ks → Wk y) ∧ (k = 8 → ∃ p' t' r, ks = .mk 16 0 p' t' [] :: r) := by
  rcases h with h | h | h
  · unfold WfN at h
    split at h
    · rename_i hk
      rcases wfx_cases h with ⟨n, p, e, _, _⟩ | ⟨p, t, e, _⟩ | ⟨k', p, a, e, hk', ha⟩ | ⟨p, t, a, b, e, hl, ha, hb⟩
      · rw [Nd.mk.injEq] at e
        rw [e.2.2.2.2]
        exact ⟨fun y hy => by simp at hy, fun h8 => by omega⟩
      · rw [Nd.mk.injEq] at e
        rw [e.2.2.2.2]
        exact ⟨fun y hy => by simp at hy, fun h8 => by omega⟩
      · rw [Nd.mk.injEq] at e
        rw [e.2.2.2.2]
        refine ⟨fun y hy => ?_, fun h8 => by omega⟩
        obtain rfl : y = a := by simpa using hy
        exact wfx_wk ha
      · rw [Nd.mk.injEq] at e
        rw [e.2.2.2.2]
        refine ⟨fun y hy => ?_, fun h8 => by omega⟩
        have hy' : y = a ∨ y = b := by simpa using hy
        rcases hy' with rfl | rfl
        · exact wfx_wk ha
        · exact wfx_wk hb
    · obtain ⟨rfl, hs, hks⟩ := h
      refine ⟨fun y hy => Or.inl (wfNs_mem hks hy), fun h8 => ?_⟩
      subst h8
      rcases hs with h | h | h | ⟨-, ht, b, c, hq, hb, hc⟩ | h | h | h | h | h
      · omega
      · omega
      · omega
      · obtain ⟨x, y, z, rfl, kx, -, -⟩ := three_kids hq
        have hx := (wfN_x (wfNs_mem hks (List.mem_cons_self ..)) (by omega)).1
        rcases wfx_cases hx with ⟨n, p, e, _, _⟩ | ⟨p, t, e, _⟩ | ⟨k', p, a, e, hk', ha⟩ | ⟨p, t, a, b, e, hl, ha, hb⟩
        · rw [e] at kx
          have kx' : (15 : Int) = 16 := kx
          omega
        · exact ⟨p, t, _, by rw [e]⟩
        · rw [e] at kx
          have kx' : k' = 16 := kx
          omega
        · rw [e] at kx
          have kx' : (19 : Int) = 16 := kx
          omega
      · omega
      · omega
      · omega
      · omega
      · omega
  · unfold WfG at h
    rcases h with ⟨rfl, _, _, rfl⟩ | ⟨rfl, _, _, rfl⟩
    · exact ⟨fun y hy => by simp at hy, fun h8 => by omega⟩
    · exact ⟨fun y hy => by simp at hy, fun h8 => by omega⟩
  · unfold WfT at h
    obtain ⟨rfl, _, _, b, rfl, hb, _⟩ := h
    refine ⟨fun y hy => ?_, fun h8 => by omega⟩
    obtain rfl : y = b := by simpa using hy
    exact Or.inl hb
/-- The document looks at a tree. -/
def NdC (rows : List Row) (x : Nd) (b : Nat) : Prop := ∀ (w0 w : World) (a : Option Addr) (c P : Nat) (v : Rc → Value) (s : Cs), FAt rows x b → CDs w0 w a c rows P v s (0, 0) → CsOk rows s → s.sc.length + ndSize x ≤ 10000 → s.sc.flatten.length + ndSize x ≤ 10000 →
  Calls Tryz.prog 15 #[.pointer (some ⟨P, 0, none⟩), .int .i64 ((b + ndSize x - 1 : Nat) : Int)] w fun e w' => e = .returned (.tuple #[]) ∧ CQ w0 a c rows P (ckN rows x b s) w' ∧ KpD w w'
theorem Grw.len {rows : List Row} {m : Nat} {s s' : Cs} (h : Grw rows m s s') (hne : s.sc ≠ []) : s'.sc.length = s.sc.length ∧ s'.sc.flatten.length ≤ s.sc.flatten.length + m := by
  have h1 := sc_cons hne
  have h2 := sc_cons (h.ne hne)
  obtain ⟨T, hT, hl⟩ := h.hd
  refine ⟨?_, ?_⟩
  · rw [h1, h2, h.sc]
    rfl
  · have e1 : s.sc.flatten.length = (s.sc.headD []).length + s.sc.tail.flatten.length := by
      conv => lhs; rw [h1]
      rw [List.flatten_cons, List.length_append]
    have e2 : s'.sc.flatten.length = (s'.sc.headD []).length + s'.sc.tail.flatten.length := by
      conv => lhs; rw [h2]
      rw [List.flatten_cons, List.length_append]
    rw [e2, h.sc, hT, List.length_append, e1]
    omega
theorem drop_cons {ks : List Nd} {j : Nat} {y : Nd} (h : ks[j]? = some y) : ks.drop j = y :: ks.drop (j + 1) := by
  have hj : j < ks.length := by
    rcases Nat.lt_or_ge j ks.length with h1 | h1
    · exact h1
    · rw [List.getElem?_eq_none h1] at h; cases h
  rw [List.drop_eq_getElem_cons hj]
  rw [List.getElem?_eq_getElem hj] at h
  rw [Option.some.inj h]
theorem nds_snoc : ∀ {ks : List Nd} {j : Nat} {y : Nd}, ks[j]? = some y → ndsSize (ks.take (j + 1)) = ndsSize (ks.take j) + ndSize y
  | [], _, _, h => by simp at h
  | x :: r, 0, y, h => by
    simp only [List.getElem?_cons_zero, Option.some.injEq] at h
    subst h
    simp [ndsSize]
  | x :: r, j + 1, y, h => by
    simp only [List.getElem?_cons_succ] at h
    have := nds_snoc h
    rw [List.take_succ_cons, List.take_succ_cons, ndsSize, ndsSize]
    omega
/-- While kids are gone through. -/
structure KdI (rows : List Row) (R : CRes) (s1 : Cs) (cs : Bool) (ks : List Nd) (b j : Nat) (sj : Cs) : Prop where
  ok : CsOk rows sj
  rest : ckNs rows (cs && decide (j = 0)) (ks.drop j) (b + ndsSize (ks.take j)) sj = R
  fat : FsAt rows (ks.drop j) (b + ndsSize (ks.take j))
  grw : Grw rows (ndsSize (ks.take j)) s1 sj
theorem KdI.start {rows : List Row} {s1 : Cs} {cs : Bool} {ks : List Nd} {b : Nat} (hok : CsOk rows s1) (hf : FsAt rows ks b) : KdI rows (ckNs rows cs ks b s1) s1 cs ks b 0 s1 := by
  refine ⟨hok, by simp [ndsSize], by simpa [ndsSize] using hf, ?_⟩
  simpa [ndsSize] using Grw.refl (rows := rows) s1
theorem KdI.fatOne {rows : List Row} {R : CRes} {s1 sj : Cs} {cs : Bool} {ks : List Nd} {b j : Nat} {y : Nd} (h : KdI rows R s1 cs ks b j sj) (hy : ks[j]? = some y) : FAt rows y (b + ndsSize (ks.take j)) := by
  have := h.fat
  rw [drop_cons hy] at this
  exact this.head.1
/-- The next kid, where it goes well. -/
theorem KdI.next {rows : List Row} {R : CRes} {s1 sj s' : Cs} {cs : Bool} {ks : List Nd} {b j : Nat} {y : Nd} (h : KdI rows R s1 cs ks b j sj) (hy : ks[j]? = some y) (hck : (if cs && decide (j = 0) then useC rows (b + ndsSize (ks.take j) + ndSize y - 1) isGlo sj else ckN rows y (b + ndsSize (ks.take j)) sj) = .ok s') : KdI rows R s1 cs ks b (j + 1) s' := by
  have hr := h.rest
  have hf := h.fat
  rw [drop_cons hy] at hr hf
  rw [ckNs, hck] at hr
  have hg : Grw rows (ndSize y) sj s' := by
    split at hck
    · exact (use_ok hck).mono (Nat.zero_le _)
    · exact ck_ok y _ sj s' hf.head.1 hck h.ok.ne
  refine ⟨hg.ok h.ok, ?_, ?_, ?_⟩
  · rw [show (cs && decide (j + 1 = 0)) = false by simp, nds_snoc hy, ← Nat.add_assoc]
    exact hr
  · rw [nds_snoc hy, ← Nat.add_assoc]
    exact hf.head.2
  · rw [nds_snoc hy]
    exact h.grw.trans hg
/-- .. where it fails. -/
theorem KdI.bad {rows : List Row} {R : CRes} {s1 sj : Cs} {cs : Bool} {ks : List Nd} {b j : Nat} {y : Nd} {f : Int × Int} (h : KdI rows R s1 cs ks b j sj) (hy : ks[j]? = some y) (hck : (if cs && decide (j = 0) then useC rows (b + ndsSize (ks.take j) + ndSize y - 1) isGlo sj else ckN rows y (b + ndsSize (ks.take j)) sj) = .error f) : R = .error f := by
  have hr := h.rest
  rw [drop_cons hy, ckNs, hck] at hr
  exact hr.symm
theorem KdI.done {rows : List Row} {R : CRes} {s1 sj : Cs} {cs : Bool} {ks : List Nd} {b j : Nat} (h : KdI rows R s1 cs ks b j sj) (hj : j = ks.length) : R = .ok sj := by
  have hr := h.rest
  rw [hj, List.drop_length, ckNs] at hr
  exact hr.symm
end

section
open Go.RowKit

theorem keyStr : Maps.Keyed Tryz.prog 9 := Maps.string_keyed Tryz.underlying9
theorem keyInt : Maps.Keyed Tryz.prog 3 := Maps.int_keyed Tryz.underlying3
/-- A scope's names, in memory. -/
def mapS (w : World) (rows : List Row) (S : List Nat) (b : Nat) : Prop := ∃ n D, n ≤ S.length ∧ w.ownsMap Tryz.prog 9 (plainElem (H := Unit) Tryz.prog 3) b n D ∧ (∀ t : List UInt8, Maps.has D (.string t) = true ↔ ∃ d, d ∈ S ∧ (rowA rows d).text = t) ∧ ∀ d, d ∈ S → D.atKey (.string (rowA rows d).text) (.lit (.int .i64 0)) = .lit (.int .i64 (d : Int))
/-- How many of a kind, in memory. -/
def mapC (w : World) (cn : Int → Nat) (b : Nat) : Prop := ∃ n D, n ≤ cn 2 + cn 3 + cn 4 ∧ w.ownsMap Tryz.prog 3 (plainElem (H := Unit) Tryz.prog 3) b n D ∧ ∀ k : Int, 0 ≤ k → k < 30 → D.atKey (.int .i64 k) (.lit (.int .i64 0)) = .lit (.int .i64 (cn k : Int))
theorem ownsMap_keep {w w' : World} {k : TypeId} {R : Value → Option (DataW Unit × List MemPlace)} {b n : Nat} {D : DataW Unit} (h : w.ownsMap Tryz.prog k R b n D) (hb : w'.heap[b]? = w.heap[b]?) : w'.ownsMap Tryz.prog k R b n D := by
  obtain ⟨es, cl, h1, h2⟩ := h
  exact ⟨es, cl, hb.trans h1, h2⟩
theorem mapS.keep {w w' : World} {rows : List Row} {S : List Nat} {b : Nat} (h : mapS w rows S b) (hb : w'.heap[b]? = w.heap[b]?) : mapS w' rows S b := by
  obtain ⟨n, D, h1, h2, h3⟩ := h
  exact ⟨n, D, h1, ownsMap_keep h2 hb, h3⟩
theorem mapC.keep {w w' : World} {cn : Int → Nat} {b : Nat} (h : mapC w cn b) (hb : w'.heap[b]? = w.heap[b]?) : mapC w' cn b := by
  obtain ⟨n, D, h1, h2, h3⟩ := h
  exact ⟨n, D, h1, ownsMap_keep h2 hb, h3⟩
theorem mapS.is {w : World} {rows : List Row} {S : List Nat} {b : Nat} (h : mapS w rows S b) : ∃ es cl, w.heap[b]? = some (.map es cl) := by
  obtain ⟨n, D, h1, ⟨es, cl, h2, _⟩, h3⟩ := h
  exact ⟨es, cl, h2⟩
theorem mapC.is {w : World} {cn : Int → Nat} {b : Nat} (h : mapC w cn b) : ∃ es cl, w.heap[b]? = some (.map es cl) := by
  obtain ⟨n, D, h1, ⟨es, cl, h2, _⟩, h3⟩ := h
  exact ⟨es, cl, h2⟩
inductive Rk where
  | box
  | ow
  | sc
deriving DecidableEq
def kTy : Rk → TypeId
  | .box => 94
  | .ow => 3
  | .sc => 114
def kSz : Rk → Nat
  | .box => 4
  | _ => 1
def mV (ms : List Nat) : List Value := ms.reverse.map fun b => .map (some b)
def kN (s : Cs) (ms : List Nat) : Rk → Nat
  | .box => 1
  | .ow => s.us.length
  | .sc => ms.length
def kX (a : Option Addr) (n c : Nat) (v : Rk → Value) (ms : List Nat) (cm : Nat) (s : Cs) : Rk → List Value
  | .box => [.slice a n c, v .ow, v .sc, .map (some cm)]
  | .ow => iV s.us
  | .sc => mV ms
structure CPs (w0 w : World) (a : Option Addr) (c : Nat) (rows : List Row) (P : Nat) (v : Rk → Value) (ms : List Nat) (cm : Nat) (s : Cs) : Prop where
  fam : Fam w w0.heap.size kTy kSz v (kN s ms) (kX a rows.length c v ms cm s)
  box : v .box = boxV P
  low : Below w0.heap.size w0 w
  nds : NdsR w0 a rows
  len : ms.length = s.sc.length
  maps : ∀ (j : Nat) S b, s.sc[j]? = some S → ms[j]? = some b → mapS w rows S b
  cnt : mapC w s.cn cm
  ge : ∀ b, b ∈ cm :: ms → w0.heap.size ≤ b
  nod : (cm :: ms).Nodup
/-- What is sure of it when a fault is told. -/
structure CPw (w0 w : World) (P L : Nat) : Prop where
  box : ∃ x0 x1 x3 sa cap, w.heap[P]? = some (.cells #[x0, x1, .slice sa L cap, x3] 94) ∧ L ≤ cap
  le : w0.heap.size ≤ P
  low : Below w0.heap.size w0 w
/-- What may turn. -/
def BadC (o : Obj) : Prop := (∃ c f, o = .cells c 3 f ∨ o = .cells c 94 f ∨ o = .cells c 114 f) ∨ ∃ es cl, o = .map es cl
structure KpC (w w' : World) : Prop where
  at' : ∀ (k : Nat) (o : Obj), w.heap[k]? = some o → ¬ BadC o → w'.heap[k]? = w.heap[k]?
theorem badC_node (cs : Array Value) : ¬ BadC (.cells cs 60) := by
  rintro (⟨c, f, h | h | h⟩ | ⟨es, cl, h⟩) <;> simp at h
theorem KpC.refl (w : World) : KpC w w := ⟨fun _ _ _ _ => rfl⟩
theorem KpC.trans {a b c : World} (h : KpC a b) (k : KpC b c) : KpC a c := ⟨fun i o e h1 => (k.at' i o ((h.at' i o e h1).trans e) h1).trans (h.at' i o e h1)⟩
theorem KpC.of_below {w w' : World} (h : Below w.heap.size w w') : KpC w w' := ⟨fun k _ e _ => h.block k (heap_ltD e)⟩
theorem KpC.map {w w' : World} {b : Nat} {es : Array MapEntry} {cl : Nat} (hb : w.heap[b]? = some (.map es cl)) (hg : w.grownBy w' (some b)) : KpC w w' := ⟨fun k o e h1 => by
  refine hg.block k (heap_ltD e) (fun h2 => h1 ?_)
  have hk : k = b := by simpa using h2
  subst hk
  rw [hb] at e
  exact Or.inr ⟨es, cl, (Option.some.inj e).symm⟩⟩
section
variable {w0 w w' : World} {a : Option Addr} {c : Nat} {rows : List Row} {P : Nat} {v : Rk → Value} {ms : List Nat} {cm : Nat} {s s' : Cs}
theorem CPs.mapLt (h : CPs w0 w a c rows P v ms cm s) {b : Nat} (hb : b ∈ cm :: ms) : ∃ es cl, w.heap[b]? = some (.map es cl) := by
  rcases List.mem_cons.1 hb with rfl | hb
  · exact h.cnt.is
  · obtain ⟨j, hj⟩ := List.mem_iff_getElem?.1 hb
    have hl : j < s.sc.length := by
      rw [← h.len]
      rcases Nat.lt_or_ge j ms.length with h1 | h1
      · exact h1
      · rw [List.getElem?_eq_none h1] at hj; cases hj
    exact (h.maps j _ b (List.getElem?_eq_getElem hl) hj).is
theorem CPs.below (h : CPs w0 w a c rows P v ms cm s) (hb : Below w.heap.size w w') : CPs w0 w' a c rows P v ms cm s := by
  have hm : ∀ b, b ∈ cm :: ms → w'.heap[b]? = w.heap[b]? := fun b hb' => by
    obtain ⟨es, cl, e⟩ := h.mapLt hb'
    exact hb.block b (heap_ltD e)
  exact ⟨h.fam.below hb, h.box, h.low.trans (hb.mono h.low.size), h.nds, h.len, fun j S b h1 h2 => (h.maps j S b h1 h2).keep (hm b (List.mem_cons_of_mem _ (List.mem_of_getElem? h2))), h.cnt.keep (hm cm (List.mem_cons_self ..)), h.ge, h.nod⟩
theorem CPs.blk (h : CPs w0 w a c rows P v ms cm s) : (v .box).ownBlock = some P := by rw [h.box]; rfl
theorem CPs.lt (h : CPs w0 w a c rows P v ms cm s) : P < w.heap.size := h.fam.lt h.blk
theorem CPs.le (h : CPs w0 w a c rows P v ms cm s) : w0.heap.size ≤ P := h.fam.low _ _ h.blk
theorem CPs.fz (h : CPs w0 w a c rows P v ms cm s) (j : Nat) : w.frozen? ⟨P, j, none⟩ = false := h.fam.frozen h.blk j
theorem CPs.c0 (h : CPs w0 w a c rows P v ms cm s) : w.cell? ⟨P, 0, none⟩ = some (.slice a rows.length c) := h.fam.cell h.blk rfl
theorem CPs.c1 (h : CPs w0 w a c rows P v ms cm s) : w.cell? ⟨P, 1, none⟩ = some (v .ow) := h.fam.cell h.blk rfl
theorem CPs.c2 (h : CPs w0 w a c rows P v ms cm s) : w.cell? ⟨P, 2, none⟩ = some (v .sc) := h.fam.cell h.blk rfl
theorem CPs.c3 (h : CPs w0 w a c rows P v ms cm s) : w.cell? ⟨P, 3, none⟩ = some (.map (some cm)) := h.fam.cell h.blk rfl
theorem CPs.node (h : CPs w0 w a c rows P v ms cm s) {i : Nat} (hi : i < rows.length) : ∃ g ka kc, a = some ⟨g, 0, none⟩ ∧ NdR w g i (rowA rows i) ka kc := by
  obtain ⟨g, ka, kc, e, hn⟩ := h.nds.get i hi
  exact ⟨g, ka, kc, e, hn.below h.low⟩
/-- A row's block is no map. -/
theorem CPs.cells (h : CPs w0 w a c rows P v ms cm s) {r : Rk} {g : Nat} (e : (v r).ownBlock = some g) : ∃ cur, w.heap[g]? = some (.cells cur (kTy r) (0, 0)) := by
  rcases (h.fam.own r).2 with ⟨h0, _⟩ | ⟨g', cap', cur, hv, _, hh, _⟩
  · rw [h0] at e; simp [Value.ownBlock] at e
  · rw [hv] at e
    have e' : g' = g := by simpa [Value.ownBlock] using e
    subst e'
    exact ⟨cur, hh⟩
theorem CPs.noMap (h : CPs w0 w a c rows P v ms cm s) {r : Rk} {g b : Nat} (e : (v r).ownBlock = some g) (hb : b ∈ cm :: ms) : g ≠ b := fun he => by
  obtain ⟨cur, h1⟩ := h.cells e
  obtain ⟨es, cl, h2⟩ := h.mapLt hb
  rw [he, h2] at h1
  cases h1
theorem CPs.weak (h : CPs w0 w a c rows P v ms cm s) : CPw w0 w P s.sc.length := by
  obtain ⟨sa, cap, hv⟩ := fam_form (h.fam.own .sc)
  have hv' : v .sc = .slice sa ms.length cap := hv
  have hc : ms.length ≤ cap := by
    have := h.fam.own .sc
    rw [hv'] at this
    exact own_cap this
  obtain ⟨cur, hcur⟩ := h.cells h.blk
  have ho := (h.fam.own .box).2
  rw [h.box] at ho
  rcases ho with ⟨h0, _⟩ | ⟨g', cap', cur', hv9, _, hh, _, _, hsz, htk⟩
  · cases h0
  · simp only [Value.slice.injEq, Option.some.injEq, Addr.mk.injEq, and_true] at hv9
    rw [← hv9.1] at hh
    have hcs : cur' = #[.slice a rows.length c, v .ow, v .sc, .map (some cm)] := by
      have h4 : cur'.toList = kX a rows.length c v ms cm s .box := by
        rw [← htk]
        refine (List.take_of_length_le ?_).symm
        have : cur'.size = 4 := by rw [hsz, ← hv9.2.2]; rfl
        simp [this, kSz, kN]
      rw [← Array.toList_inj, h4]
      rfl
    rw [hcs, hv'] at hh
    refine ⟨⟨_, _, _, sa, cap, by rw [← h.len]; exact hh, by rw [← h.len]; exact hc⟩, h.le, h.low⟩
/-- A store into a row of it: what does not turn. -/
theorem CPs.kept (h : CPs w0 w a c rows P v ms cm s) {r : Rk} {g : Nat} (e : (v r).ownBlock = some g) (i : Nat) (u : Value) : KpC w (w.setCell ⟨g, i, none⟩ u) := ⟨fun k o ho hb => by
  refine Below.heap_setCell _ _ _ _ (fun hk => hb ?_)
  have hk' : k = g := hk
  obtain ⟨cur, h1⟩ := h.cells e
  rw [← hk', ho] at h1
  have := Option.some.inj h1
  subst this
  cases r with
  | box => exact Or.inl ⟨cur, (0, 0), Or.inr (Or.inl rfl)⟩
  | ow => exact Or.inl ⟨cur, (0, 0), Or.inl rfl⟩
  | sc => exact Or.inl ⟨cur, (0, 0), Or.inr (Or.inr rfl)⟩⟩
theorem CPs.lowSet (h : CPs w0 w a c rows P v ms cm s) {r : Rk} {g : Nat} (e : (v r).ownBlock = some g) (i : Nat) (u : Value) : Below w0.heap.size w0 (w.setCell ⟨g, i, none⟩ u) := h.low.setCell (p := ⟨g, i, none⟩) (h.fam.low r g e) u
/-- Maps stay when a row's cell is set. -/
theorem CPs.mapsSet (h : CPs w0 w a c rows P v ms cm s) {r : Rk} {g : Nat} (e : (v r).ownBlock = some g) (i : Nat) (u : Value) {b : Nat} (hb : b ∈ cm :: ms) : (w.setCell ⟨g, i, none⟩ u).heap[b]? = w.heap[b]? := Below.heap_setCell _ _ _ _ (fun he => h.noMap e hb he.symm)
/-- A store into what names are of. -/
theorem CPs.setU (h : CPs w0 w a c rows P v ms cm s) {g : Nat} (e : (v .ow).ownBlock = some g) (i : Nat) (x : Int) : CPs w0 (w.setCell ⟨g, i, none⟩ (.int .i64 x)) a c rows P v ms cm { s with us := s.us.set i x } :=
  ⟨h.fam.put e i _ (fun q => by cases q <;> simp [kN]) (iV_set _ _ _) (fun q hq => by cases q <;> first | exact absurd rfl hq | rfl), h.box, h.lowSet e i _, h.nds, h.len, fun j S b h1 h2 => (h.maps j S b h1 h2).keep (h.mapsSet e i _ (List.mem_cons_of_mem _ (List.mem_of_getElem? h2))), h.cnt.keep (h.mapsSet e i _ (List.mem_cons_self ..)), h.ge, h.nod⟩
/-- A map alone turns. -/
theorem CPs.famMap (h : CPs w0 w a c rows P v ms cm s) {b : Nat} (hb : b ∈ cm :: ms) (hg : w.grownBy w' (some b)) : Fam w' w0.heap.size kTy kSz v (kN s ms) (kX a rows.length c v ms cm s) ∧ Below w0.heap.size w0 w' ∧ KpC w w' ∧ ∀ q, q ∈ cm :: ms → q ≠ b → w'.heap[q]? = w.heap[q]? := by
  obtain ⟨es, cl, e⟩ := h.mapLt hb
  refine ⟨⟨fun r => fam_keeps (h.fam.own r) fun g hgb => hg.block g (h.fam.lt hgb) (fun he => h.noMap hgb hb (by simpa using he)), h.fam.apart⟩, h.low.grown hg h.low.size (fun k hk => ?_), KpC.map e hg, fun q hq hne => ?_⟩
  · have hk' : b = k := by simpa using hk
    rw [← hk']
    exact h.ge b hb
  · obtain ⟨es', cl', e'⟩ := h.mapLt hq
    exact hg.block q (heap_ltD e') (fun he => hne (by simpa using he))
end
end

end Go.Proofs.YtggfbfjdiikaeaaGreatDoor
