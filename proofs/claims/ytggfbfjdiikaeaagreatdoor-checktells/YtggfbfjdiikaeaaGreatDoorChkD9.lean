/-
  The document's node: what is no block.
-/
import Derived.Test.YtggfbfjdiikaeaaGreatDoorChkD8
namespace Go.Proofs.YtggfbfjdiikaeaaGreatDoor
open Go.RowKit

section
variable {w0 w : World} {a : Option Addr} {c : Nat} {rows : List Row} {P : Nat} {v : Rc → Value} {s : Cs} {i : Nat}
theorem look_put (h : ∃ v', CDs w0 w a c rows P v' (pushC s i) (if twiceC rows s i then (8, (rowA rows i).pos) else (0, 0))) : CQ w0 a c rows P (putC rows i s) w := by
  unfold putC
  split
  · rename_i ht
    rw [if_pos ht] at h
    obtain ⟨v', h⟩ := h
    exact ⟨by show (8 : Int) ≠ 0; decide, v', _, h⟩
  · rename_i ht
    rw [if_neg ht] at h
    exact h
theorem look_most {m : Nat} {k : Int} (hk : (rowA rows i).kind = k) (h : ∃ v', CDs w0 w a c rows P v' (moreC s k) (if m < s.cn k + 1 then (1, (rowA rows i).pos) else (0, 0))) : CQ w0 a c rows P (mostC rows i m s) w := by
  unfold mostC
  rw [hk]
  split
  · rename_i ht
    rw [if_pos (by omega)] at h
    obtain ⟨v', h⟩ := h
    exact ⟨by show (1 : Int) ≠ 0; decide, v', _, h⟩
  · rename_i ht
    rw [if_neg (by omega)] at h
    exact h
theorem look_pm {m : Nat} {k : Int} {F : Int × Int} (hk : (rowA rows i).kind = k) (hF : F = if twiceC rows s i then (8, (rowA rows i).pos) else (0, 0)) (h : ∃ v', CDs w0 w a c rows P v' (moreC (pushC s i) k) (if F.1 = 0 ∧ m < (pushC s i).cn k + 1 then (1, (rowA rows i).pos) else F)) : CQ w0 a c rows P ((putC rows i s).and (mostC rows i m)) w := by
  unfold putC
  split
  · rename_i ht
    rw [if_pos ht] at hF
    subst hF
    obtain ⟨v', h⟩ := h
    rw [if_neg (fun e => by have : (8 : Int) = 0 := e.1; omega)] at h
    exact ⟨by show (8 : Int) ≠ 0; decide, v', _, h⟩
  · rename_i ht
    rw [if_neg ht] at hF
    subst hF
    refine look_most hk ?_
    simpa using h
theorem look_use {lk : Bool} (hok : CsOk rows s) (h : CDs w0 w a c rows P v (useD rows i lk s).1 (useD rows i lk s).2) : CQ w0 a c rows P (useC rows i (if lk then isLok else isVar) s) w := by
  unfold useD at h
  unfold useC
  cases hf : findC rows s.sc (rowA rows i).text with
  | none =>
    rw [hf] at h
    exact ⟨by show (7 : Int) ≠ 0; decide, v, _, h⟩
  | some d =>
    rw [hf] at h
    simp only at h ⊢
    obtain ⟨⟨S, hS, hd⟩, -⟩ := find_mem hf
    have hm := (hok.mem S hS d hd).2
    have hp : (if lk then isLok else isVar) (rowA rows d).kind = true ↔ isLok (rowA rows d).kind = lk := by
      cases lk with
      | true => simp
      | false =>
        simp only [Bool.false_eq_true, if_false]
        unfold isVar isLok
        rcases hm with e | e | e <;> rw [e] <;> decide
    by_cases hq : isLok (rowA rows d).kind = lk
    · rw [if_pos hq] at h
      rw [if_pos (hp.2 hq)]
      exact ⟨v, h⟩
    · rw [if_neg hq] at h
      rw [if_neg (fun e => hq (hp.1 e))]
      exact ⟨by show (9 : Int) ≠ 0; decide, v, _, h⟩
end
section
variable {rows : List Row}
attribute [local go_sem ↓] appS_eq
set_option maxRecDepth 100000 in
set_option maxHeartbeats 12800000 in
theorem rnode_other {k n p : Int} {t : List UInt8} {ks : List Nd} {b : Nat} (h5 : k ≠ 5) (h8 : k = 8 → ∃ p' t' r, ks = .mk 16 0 p' t' [] :: r) (hks : ∀ j y, ks[j]? = some y → NdC rows y (b + ndsSize (ks.take j))) : NdC rows (.mk k n p t ks) b := by
  intro w0 w a c P v s hf h hok hb1 hb2
  have hlt := hf.lt
  have hrow := hf.rowA
  rw [ndSize] at hb1 hb2 hlt ⊢
  rw [show b + (ndsSize ks + 1) - 1 = b + ndsSize ks by omega]
  obtain ⟨i, hi⟩ : ∃ i, i = b + ndsSize ks := ⟨_, rfl⟩
  rw [← hi] at hrow ⊢
  have hil : i < rows.length := by omega
  obtain ⟨g, ka, kc, hag, hnd⟩ := h.nds.get i hil
  subst hag
  have hnd' : NdR w0 g i ⟨k, n, p, t, idxs b ks⟩ ka kc := by rw [← hrow]; exact hnd
  have hn := hnd'.below h.low
  have x0 := hn.k
  have x1 := hn.n
  have x2 := hn.p
  have x3 := hn.t
  have x4 := hn.ks
  have hkin := hnd'.kin
  have hkl := idxs_len9 ks b
  simp only at x0 x1 x2 x3 x4 hkin
  obtain ⟨m, hm⟩ : ∃ m, m = ks.length := ⟨_, rfl⟩
  rw [hkl, ← hm] at x4
  have hm1 : m ≤ 10000 := by have := nds_len9 ks; omega
  obtain ⟨o, ho⟩ : ∃ o, o = Obj.cells #[.int .i64 k, .int .i64 n, .int .i64 p, .string ⟨⟨t⟩⟩, .slice ka m kc] 60 := ⟨_, rfl⟩
  have hA := (Below.refl w.heap.size w).alloc (Nat.le_refl _) o
  have hD := h.below hA
  have c0 := h.c0
  obtain ⟨ta, tc, htv⟩ := fam_form (h.fam.own .th)
  have htv' : v .th = .slice ta s.sc.flatten.length tc := htv
  have c2 := hD.c2
  rw [htv'] at c2
  obtain ⟨q, hq⟩ : ∃ q, q = s.sc.flatten.length := ⟨_, rfl⟩
  rw [← hq] at c2
  obtain ⟨cs, hcs⟩ : ∃ cs, cs = (k == 8) := ⟨_, rfl⟩
  have hI0 : KdI rows (ckNs rows cs ks b s) s cs ks b 0 s := KdI.start hok hf.kids
  obtain ⟨Rk, hRk⟩ : ∃ R, R = ckNs rows cs ks b s := ⟨_, rfl⟩
  rw [← hRk] at hI0
  have hR : ckN rows (.mk k n p t ks) b s = Rk.and (lookC rows k i) := by
    rw [ckN, if_neg h5, ← hi, ← hcs, ← hRk]
  obtain ⟨R, hRR⟩ : ∃ R, R = ckN rows (.mk k n p t ks) b s := ⟨_, rfl⟩
  rw [← hRR] at hR ⊢
  have HR := Hid.out (p := Hid _) hR
  have HK : Hid (∀ (j : Nat), j < m → ∃ (kb ko : Nat) (y : Nd), ka = some ⟨kb, ko, none⟩ ∧ ks[j]? = some y ∧ (∀ W, Below w0.heap.size w0 W → W.cell? ⟨kb, ko + j, none⟩ = some (.int .i64 ((b + ndsSize (ks.take j) + ndSize y - 1 : Nat) : Int))) ∧ b + ndsSize (ks.take j) + ndSize y - 1 < rows.length ∧ ∀ W vj sj, CDs w0 W (some ⟨g, 0, none⟩) c rows P vj sj (0, 0) → KdI rows Rk s cs ks b j sj → Calls Tryz.prog 15 #[.pointer (some ⟨P, 0, none⟩), .int .i64 ((b + ndsSize (ks.take j) + ndSize y - 1 : Nat) : Int)] W fun e w' => e = .returned (.tuple #[]) ∧ CQ w0 (some ⟨g, 0, none⟩) c rows P (ckN rows y (b + ndsSize (ks.take j)) sj) w' ∧ KpD W w') := fun j hj => by
    obtain ⟨y, hy⟩ : ∃ y, ks[j]? = some y := ⟨_, List.getElem?_eq_getElem (by omega)⟩
    obtain ⟨kb, ko, e, hc⟩ := kid_num hkin hy
    have hnt := nds_take9 hy
    have hyp := size_pos y
    refine ⟨kb, ko, y, e, hy, hc, by omega, fun W vj sj hW hI => ?_⟩
    have hgl := hI.grw.len hok.ne
    exact hks j y hy w0 W _ c P vj sj (hI.fatOne hy) hW hI.ok (by omega) (by omega)
  have HO : Hid (o = Obj.cells #[.int .i64 k, .int .i64 n, .int .i64 p, .string ⟨⟨t⟩⟩, .slice ka m kc] 60 ∧ (w.alloc o).heap[w.heap.size]? = some o ∧ ¬ BadD o ∧ KpD w (w.alloc o)) := ⟨ho, heap_alloc_new _ _, by rw [ho]; exact bad_node _, KpD.of_below hA⟩
  have HI0 : Hid (∃ vj sj, CDs w0 (w.alloc o) (some ⟨g, 0, none⟩) c rows P vj sj (0, 0) ∧ KdI rows Rk s cs ks b 0 sj ∧ KpD (w.alloc o) (w.alloc o)) := ⟨v, s, hD, hI0, KpD.refl _⟩
  have HS : Hid (m = ks.length ∧ s.sc ≠ [] ∧ s.sc.length + ndsSize ks ≤ 10000 ∧ s.sc.flatten.length + ndsSize ks ≤ 10000 ∧ (rowA rows i).kind = k ∧ i < rows.length ∧ i = b + ndsSize ks) := ⟨hm, hok.ne, by omega, by omega, by rw [hrow], hil, hi⟩
  have H8 : Hid (k = 8 → ∃ p' t' r, ks = .mk 16 0 p' t' [] :: r) := h8
  have HCS := Hid.out (p := Hid _) hcs
  have hi' : (i : Int) < (rows.length : Int) := by omega
  have hqb : q ≤ 10000 := by omega
  have b5 : (k == 5) = false := by simpa using h5
  clear hks hf h hok hb1 hb2 hrow hlt hi hil hnd hnd' hn hkin hkl hm hA hD htv htv' hq hI0 hRk hR hRR h5 h8 hcs
  rw [ho] at c2
  go_enter Tryz.func15, Tryz.ntmps15
  go_wp2_with fail
  rw [← ho]
  clear x0 x1 x2 x3 x4 c0 c2 ho
  go_loopw [6] (fun x wr => ∃ j : Nat, j ≤ m ∧ x = .int .i64 j ∧ Hid (∃ vj sj, CDs w0 wr (some ⟨g, 0, none⟩) c rows P vj sj (0, 0) ∧ KdI rows Rk s cs ks b j sj ∧ KpD (w.alloc o) wr)) (fun x _ => m - (intOf x).toNat)
  case atStart => exact ⟨0, Nat.zero_le _, rfl, HI0⟩
  case round =>
    obtain ⟨j, hj, rfl, HJ⟩ := hrel
    clear HI0
    obtain ⟨vj, sj, hJ1, hJ2, hJ3⟩ := HJ.out
    have hxo := (hJ3.at' _ _ HO.out.2.1 HO.out.2.2.1).trans HO.out.2.1
    rw [HO.out.1] at hxo
    obtain ⟨e0, e1, e2, e3, e4, ef⟩ := box5 hxo
    have HJ3 := Hid.out (p := Hid _) (HO.out.2.2.2.trans hJ3)
    have HJ4 := Hid.out (p := Hid _) hJ3
    by_cases hlt : j < m
    · obtain ⟨kb, ko, y, rfl, hy, hc, hNl, hX⟩ := HK.out j hlt
      have y0 := hc _ hJ1.low
      have hX2 := hX wr vj sj hJ1 hJ2
      obtain ⟨N, hN⟩ : ∃ N : Nat, N = b + ndsSize (ks.take j) + ndSize y - 1 := ⟨_, rfl⟩
      rw [← hN] at y0 hX2 hNl
      have HX := Hid.out (p := Hid _) hX2
      have hlt' : (j : Int) < (m : Int) := by omega
      cases hck : ckN rows y (b + ndsSize (ks.take j)) sj with
      | error f =>
        rw [hck] at HX
        have HE : Hid (R = .error f) := by
          show _ = _
          have hb : (if cs && decide (j = 0) then useC rows (b + ndsSize (ks.take j) + ndSize y - 1) isGlo sj else ckN rows y (b + ndsSize (ks.take j)) sj) = .error f := by
            split
            · rename_i h0
              simp only [Bool.and_eq_true, decide_eq_true_eq] at h0
              have hk8 : k = 8 := by have := HCS.out; rw [h0.1] at this; simpa using this.symm
              obtain ⟨p', t', r, hkk⟩ := H8.out hk8
              have hyy : y = .mk 16 0 p' t' [] := by
                rw [hkk, h0.2] at hy
                simpa using hy.symm
              subst hyy
              exact cas_first.1 f hck
            · exact hck
          rw [HR.out, hJ2.bad hy hb]
          rfl
        clear hX hX2 hJ1 hJ2 hJ3 hxo hN hck hc hy HJ
        go_wp2_with fail
        refine Calls.mono HX.out ?_
        rintro e w2 ⟨rfl, ⟨hf0, v', s', hD'⟩, hK'⟩
        have c5 := hD'.c5
        have hfb : (f.1 != 0) = true := by simpa using hf0
        have HD' : Hid (CQ w0 (some ⟨g, 0, none⟩) c rows P (.error f) w2 ∧ KpD w w2) := ⟨⟨hf0, v', s', hD'⟩, HJ3.out.trans hK'⟩
        clear hD' hK' hf0 e0 e1 e2 e3 e4 ef y0
        go_wp2_with fail
        refine bodyPost_ret (v := .tuple #[]) (results_none rfl _ _ _) rfl ⟨rfl, ?_, HD'.out.2⟩
        rw [HE.out]
        exact HD'.out.1
      | ok s' =>
        rw [hck] at HX
        by_cases h0 : (cs && decide (j = 0)) = true
        · have h00 := h0
          simp only [Bool.and_eq_true, decide_eq_true_eq] at h00
          have hk8 : k = 8 := by have := HCS.out; rw [h00.1] at this; simpa using this.symm
          obtain ⟨p', t', r, hkk⟩ := H8.out hk8
          have hyy : y = .mk 16 0 p' t' [] := by
            rw [hkk, h00.2] at hy
            simpa using hy.symm
          subst hyy
          obtain ⟨d, hfd, hs', hus⟩ := cas_first.2 s' hck
          have hNb : b + ndsSize (ks.take j) = N := by rw [hN]; simp [ndSize, ndsSize]
          rw [hNb] at hfd hs'
          have hus2 : useC rows (b + ndsSize (ks.take j) + ndSize (.mk 16 0 p' t' []) - 1) isGlo sj = if (rowA rows d).kind = 2 then .ok s' else .error (9, (rowA rows N).pos) := by rw [hus, hNb]
          obtain ⟨⟨S9, hS9, hd9⟩, -⟩ := find_mem hfd
          have hdl := (hJ2.ok.mem S9 hS9 d hd9).1
          have hul := hJ2.ok.us
          obtain ⟨KD, hKD⟩ : ∃ x, (rowA rows d).kind = x := ⟨_, rfl⟩
          rw [hKD] at hus2
          have HNX : Hid (KD = 2 → KdI rows Rk s cs ks b (j + 1) s') := fun e => hJ2.next hy (by rw [h0, if_pos rfl, hus2, if_pos e])
          have HBD : Hid (KD ≠ 2 → R = .error (9, (rowA rows N).pos)) := fun e => by
            rw [HR.out, hJ2.bad hy (f := (9, (rowA rows N).pos)) (by rw [h0, if_pos rfl, hus2, if_neg e])]
            rfl
          have hb8 : (k == 8) = true := by simp [hk8]
          have hj0 : ((j : Int) == 0) = true := by rw [h00.2]; rfl
          have HJ0 := Hid.out (p := Hid _) h00.2
          have HCC : Hid (∀ W, Below w0.heap.size w0 W → W.cell? ⟨kb, ko, none⟩ = some (.int .i64 (N : Int))) := fun W hW => by
            have := hc W hW
            rw [← hN, h00.2] at this
            exact this
          have HSU : Hid (s'.us[N]? = some (d : Int) ∧ s'.us.length = rows.length) := by
            rw [hs']
            refine ⟨?_, by simp [hul]⟩
            rw [List.getElem?_set, if_pos rfl, if_pos (by omega)]
          have HKD := Hid.out (p := Hid _) hKD
          clear hX hX2 hJ1 hJ2 hJ3 hxo hN hck hc hy HJ h0 h00 hk8 hkk hs' hus hus2 hNb hfd hS9 hd9 hul hKD
          go_wp2_with fail
          refine Calls.mono HX.out ?_
          rintro e w2 ⟨rfl, ⟨v', hD'⟩, hK'⟩
          have c5 := hD'.c5
          simp only at c5
          have c0 := hD'.c0
          have c1 := hD'.c1
          obtain ⟨ub, uc, huv, hub, -, hul⟩ := fam_block (hD'.fam.own .us) (by show 0 < s'.us.length; rw [HSU.out.2]; omega)
          have huv' : v' .us = .slice (some ⟨ub, 0, none⟩) s'.us.length uc := huv
          rw [huv', HSU.out.2] at c1
          have z1 : w2.cell? ⟨ub, N, none⟩ = some (.int .i64 (d : Int)) := hD'.fam.cell hub (iV_at HSU.out.1)
          obtain ⟨g1, ka1, kc1, hg1, hn1⟩ := hD'.node hdl
          simp only [Option.some.injEq, Addr.mk.injEq, and_true] at hg1
          obtain rfl := hg1
          have z2 := hn1.k
          rw [HKD.out] at z2
          have z3 := HCC.out _ hD'.low
          have hK2 := HJ4.out.trans hK'
          have hxo := (hK2.at' _ _ HO.out.2.1 HO.out.2.2.1).trans HO.out.2.1
          rw [HO.out.1] at hxo
          clear e0 e1 e2 e3 e4 ef y0
          obtain ⟨e0, e1, e2, e3, e4, ef⟩ := box5 hxo
          have HD' : Hid (∀ q, CDs w0 (w2.drewN q) (some ⟨g, 0, none⟩) c rows P v' s' (0, 0) ∧ KpD (w.alloc o) (w2.drewN q)) := fun q => ⟨hD'.below (below_drewN (Below.refl _ _)), hK2.trans (KpD.of_below (below_drewN (Below.refl _ _)))⟩
          have hNl' : (N : Int) < (rows.length : Int) := by omega
          have hdl' : (d : Int) < (rows.length : Int) := by omega
          have hm0 : (0 : Int) < (m : Int) := by omega
          clear hD' hK' hK2 hxo huv huv' hub hul hn1
          by_cases hkd : KD = 2
          · have hkb : (KD != 2) = false := by simp [hkd]
            have HKK := Hid.out (p := Hid _) hkd
            clear hkd
            go_wp2_with fail
            go_quiet (fail)
            go_wp2_with fail
            go_roundw
            case rel => exact ⟨j + 1, by omega, by go_num, ⟨v', s', (HD'.out _).1, HNX.out HKK.out, (HD'.out _).2⟩⟩
            case measure => simp [intOf]; omega
          · have hkb : (KD != 2) = true := by simp [hkd]
            have HKK := Hid.out (p := Hid _) hkd
            clear hkd
            go_wp2_with fail
            go_quiet (fail)
            go_wp2_with fail
            have hfl := rfail_any (HD'.out nq).1 hNl 9
            rw [if_pos rfl] at hfl
            refine Calls.mono hfl ?_
            rintro e w3 ⟨rfl, h2, h3⟩
            have HZ : Hid (CQ w0 (some ⟨g, 0, none⟩) c rows P (.error (9, (rowA rows N).pos)) w3 ∧ KpD w w3) := ⟨⟨by show (9 : Int) ≠ 0; decide, v', s', h2⟩, (HO.out.2.2.2.trans (HD'.out nq).2).trans h3⟩
            clear h2 h3 hfl e0 e1 e2 e3 e4 ef z1 z2 z3 c0 c1 c5
            go_wp2_with fail
            refine bodyPost_ret (v := .tuple #[]) (results_none rfl _ _ _) rfl ⟨rfl, ?_, HZ.out.2⟩
            rw [HBD.out HKK.out]
            exact HZ.out.1
        · have h00 : (cs && decide (j = 0)) = false := by simpa using h0
          have HNX := Hid.out (p := Hid _) (hJ2.next hy (by rw [h00, if_neg (by decide)]; exact hck))
          have hor : (k == 8) = false ∨ (k == 8) = true ∧ ((j : Int) == 0) = false := by
            rw [← HCS.out]
            cases cs with
            | false => exact Or.inl rfl
            | true =>
              refine Or.inr ⟨rfl, ?_⟩
              have : ¬ j = 0 := by simpa using h00
              simp only [beq_eq_false_iff_ne, ne_eq]
              omega
          clear hX hX2 hJ1 hJ2 hJ3 hxo hN hck hc hy HJ h0 h00
          go_wp2_with fail
          refine Calls.mono HX.out ?_
          rintro e w2 ⟨rfl, ⟨v', hD'⟩, hK'⟩
          have c5 := hD'.c5
          simp only at c5
          have hK2 := HJ4.out.trans hK'
          have hxo := (hK2.at' _ _ HO.out.2.1 HO.out.2.2.1).trans HO.out.2.1
          rw [HO.out.1] at hxo
          clear e0 e1 e2 e3 e4 ef
          obtain ⟨e0, e1, e2, e3, e4, ef⟩ := box5 hxo
          have HD' : Hid (∀ q, ∃ vj sj, CDs w0 (w2.drewN q) (some ⟨g, 0, none⟩) c rows P vj sj (0, 0) ∧ KdI rows Rk s cs ks b (j + 1) sj ∧ KpD (w.alloc o) (w2.drewN q)) := fun q => ⟨v', s', hD'.below (below_drewN (Below.refl _ _)), HNX.out, hK2.trans (KpD.of_below (below_drewN (Below.refl _ _)))⟩
          clear hD' hK' hK2 hxo y0
          rcases hor with hb8 | ⟨hb8, hj0⟩
          · go_wp2_with fail
            go_quiet (fail)
            go_wp2_with fail
            go_roundw
            case rel => exact ⟨j + 1, by omega, by go_num, HD'.out _⟩
            case measure => simp [intOf]; omega
          · go_wp2_with fail
            go_quiet (fail)
            go_wp2_with fail
            go_roundw
            case rel => exact ⟨j + 1, by omega, by go_num, HD'.out _⟩
            case measure => simp [intOf]; omega
    · obtain rfl : j = m := by omega
      have hdone := hJ2.done HS.out.1
      have hgl := hJ2.grw.len HS.out.2.1
      have htk : ndsSize (ks.take j) = ndsSize ks := by rw [HS.out.1, List.take_length]
      rw [htk] at hgl
      have hRj : R = lookC rows k i sj := by
        rw [HR.out, hdone]
        rfl
      have hok := hJ2.ok
      have hbn : sj.sc.length ≤ 100000 := by have := HS.out.2.2.1; omega
      have hbf : sj.sc.flatten.length ≤ 100000 := by have := HS.out.2.2.2.1; omega
      have hkd := HS.out.2.2.2.2.1
      have hil := HS.out.2.2.2.2.2.1
      have HPT : Hid (Calls Tryz.prog 33 #[.pointer (some ⟨P, 0, none⟩), .int .i64 (i : Int)] wr fun e w' => e = .returned (.tuple #[]) ∧ (∃ v', CDs w0 w' (some ⟨g, 0, none⟩) c rows P v' (pushC sj i) (if twiceC rows sj i then (8, (rowA rows i).pos) else (0, 0))) ∧ KpD wr w') := rput_any hJ1 hok hil hbf hbn
      have HUS : Hid (∀ lk : Bool, lk = (k == 12 || k == 13) → Calls Tryz.prog 35 #[.pointer (some ⟨P, 0, none⟩), .int .i64 (i : Int)] wr fun e w' => e = .returned (.tuple #[]) ∧ CQ w0 (some ⟨g, 0, none⟩) c rows P (useC rows i (if lk then isLok else isVar) sj) w' ∧ KpD wr w') := fun lk hlk => by
        refine (ruse_any hJ1 hok hil hbf lk (by rw [hkd]; exact hlk)).mono ?_
        rintro e w' ⟨rfl, h1, h2⟩
        exact ⟨rfl, look_use hok h1, h2⟩
      have HMS : Hid (∀ (kn mx : Nat) W v' s' f, k = (kn : Int) → kn < 30 → s'.cn k ≤ 100 → CDs w0 W (some ⟨g, 0, none⟩) c rows P v' s' f → Calls Tryz.prog 34 #[.pointer (some ⟨P, 0, none⟩), .int .i64 (i : Int), .int .i64 (mx : Int)] W fun e w' => e = .returned (.tuple #[]) ∧ CDs w0 w' (some ⟨g, 0, none⟩) c rows P v' (moreC s' k) (if f.1 = 0 ∧ mx < s'.cn k + 1 then (1, (rowA rows i).pos) else f) ∧ KpD W w') := fun kn mx W v' s' f hkn hk30 hcn hW => by
        have := rmost_any hW hil (k := kn) (by rw [hkd]; exact hkn) hk30 (by rw [← hkn]; exact hcn) mx
        rw [← hkn] at this
        exact this
      have HJ1 := Hid.out (p := Hid _) (And.intro hJ1 hok)
      have HRJ := Hid.out (p := Hid _) hRj
      have HKD := Hid.out (p := Hid _) hkd
      have hkind : k = 2 ∨ k = 3 ∨ k = 4 ∨ k = 6 ∨ k = 16 ∨ k = 7 ∨ k = 8 ∨ k = 12 ∨ k = 13 ∨ (k ≠ 2 ∧ k ≠ 3 ∧ k ≠ 4 ∧ k ≠ 6 ∧ k ≠ 16 ∧ k ≠ 7 ∧ k ≠ 8 ∧ k ≠ 12 ∧ k ≠ 13) := by omega
      clear hdone hgl htk hRj hok hJ1 hJ2 hJ3 hxo HJ hbn hbf hkd hil
      rcases hkind with hk | hk | hk | hk | hk | hk | hk | hk | hk | hk
      · have b2 : (k == 2) = true := by simp [hk]
        have HKK := Hid.out (p := Hid _) hk
        clear hk
        go_wp2_with fail
        refine Calls.mono HPT.out ?_
        rintro e w2 ⟨rfl, ⟨v2, h2⟩, h3⟩
        obtain ⟨F, hF⟩ : ∃ F : Int × Int, F = (if twiceC rows sj i then (8, (rowA rows i).pos) else (0, 0)) := ⟨_, rfl⟩
        rw [← hF] at h2
        have HM2 := Hid.out (p := Hid _) (HMS.out 2 16 w2 v2 (pushC sj i) F HKK.out (by decide) (Nat.le_trans (HJ1.out.2.cn k) (by decide)) h2)
        have HF := Hid.out (p := Hid _) hF
        have HK3 := Hid.out (p := Hid _) (HJ3.out.trans h3)
        clear h2 h3 hF e0 e1 e2 e3 e4 ef
        go_wp2_with fail
        refine Calls.mono HM2.out ?_
        rintro e w3 ⟨rfl, h2, h3⟩
        have HZ := Hid.out (p := Hid _) (And.intro h2 h3)
        clear h2 h3
        go_wp2_with fail
        go_end0
        refine ⟨rfl, ?_, HK3.out.trans HZ.out.2⟩
        rw [HRJ.out]
        unfold lookC
        rw [if_pos HKK.out]
        exact look_pm HKD.out HF.out ⟨_, HZ.out.1⟩
      · have b2 : (k == 2) = false := by simp [hk]
        have b3 : (k == 3) = true := by simp [hk]
        have HKK := Hid.out (p := Hid _) hk
        clear hk
        go_wp2_with fail
        refine Calls.mono HPT.out ?_
        rintro e w2 ⟨rfl, ⟨v2, h2⟩, h3⟩
        obtain ⟨F, hF⟩ : ∃ F : Int × Int, F = (if twiceC rows sj i then (8, (rowA rows i).pos) else (0, 0)) := ⟨_, rfl⟩
        rw [← hF] at h2
        have HM2 := Hid.out (p := Hid _) (HMS.out 3 4 w2 v2 (pushC sj i) F HKK.out (by decide) (Nat.le_trans (HJ1.out.2.cn k) (by decide)) h2)
        have HF := Hid.out (p := Hid _) hF
        have HK3 := Hid.out (p := Hid _) (HJ3.out.trans h3)
        clear h2 h3 hF e0 e1 e2 e3 e4 ef
        go_wp2_with fail
        refine Calls.mono HM2.out ?_
        rintro e w3 ⟨rfl, h2, h3⟩
        have HZ := Hid.out (p := Hid _) (And.intro h2 h3)
        clear h2 h3
        go_wp2_with fail
        go_end0
        refine ⟨rfl, ?_, HK3.out.trans HZ.out.2⟩
        rw [HRJ.out]
        unfold lookC
        rw [if_neg (by rw [HKK.out]; decide), if_pos HKK.out]
        exact look_pm HKD.out HF.out ⟨_, HZ.out.1⟩
      · have b2 : (k == 2) = false := by simp [hk]
        have b3 : (k == 3) = false := by simp [hk]
        have b4 : (k == 4) = true := by simp [hk]
        have HKK := Hid.out (p := Hid _) hk
        clear hk
        have HM2 := Hid.out (p := Hid _) (HMS.out 4 4 wr vj sj (0, 0) HKK.out (by decide) (Nat.le_trans (HJ1.out.2.cn k) (by decide)) HJ1.out.1)
        go_wp2_with fail
        refine Calls.mono HM2.out ?_
        rintro e w3 ⟨rfl, h2, h3⟩
        have HZ := Hid.out (p := Hid _) (And.intro h2 h3)
        clear h2 h3
        go_wp2_with fail
        go_end0
        refine ⟨rfl, ?_, HJ3.out.trans HZ.out.2⟩
        rw [HRJ.out]
        unfold lookC
        rw [if_neg (by rw [HKK.out]; decide), if_neg (by rw [HKK.out]; decide), if_pos HKK.out]
        exact look_most HKD.out ⟨vj, by simpa using HZ.out.1⟩
      · have b2 : (k == 2) = false := by simp [hk]
        have b3 : (k == 3) = false := by simp [hk]
        have b4 : (k == 4) = false := by simp [hk]
        have b6 : (k == 6) = true := by simp [hk]
        have HKK := Hid.out (p := Hid _) hk
        clear hk
        go_wp2_with fail
        refine Calls.mono HPT.out ?_
        rintro e w2 ⟨rfl, h2, h3⟩
        have HZ := Hid.out (p := Hid _) (And.intro h2 h3)
        clear h2 h3
        go_wp2_with fail
        go_end0
        refine ⟨rfl, ?_, HJ3.out.trans HZ.out.2⟩
        rw [HRJ.out]
        unfold lookC
        rw [if_neg (by rw [HKK.out]; decide), if_neg (by rw [HKK.out]; decide), if_neg (by rw [HKK.out]; decide), if_pos HKK.out]
        exact look_put HZ.out.1
      · have b2 : (k == 2) = false := by simp [hk]
        have b3 : (k == 3) = false := by simp [hk]
        have b4 : (k == 4) = false := by simp [hk]
        have b6 : (k == 6) = false := by simp [hk]
        have b16 : (k == 16) = true := by simp [hk]
        have HKK := Hid.out (p := Hid _) hk
        clear hk
        have HM2 := Hid.out (p := Hid _) (HUS.out false (by rw [HKK.out]; decide))
        go_wp2_with fail
        refine Calls.mono HM2.out ?_
        rintro e w2 ⟨rfl, h2, h3⟩
        have HZ := Hid.out (p := Hid _) (And.intro h2 h3)
        clear h2 h3
        go_wp2_with fail
        go_end0
        refine ⟨rfl, ?_, HJ3.out.trans HZ.out.2⟩
        rw [HRJ.out]
        unfold lookC
        rw [if_neg (by rw [HKK.out]; decide), if_neg (by rw [HKK.out]; decide), if_neg (by rw [HKK.out]; decide), if_neg (by rw [HKK.out]; decide), if_pos (by rw [HKK.out]; decide)]
        exact HZ.out.1
      · have b2 : (k == 2) = false := by simp [hk]
        have b3 : (k == 3) = false := by simp [hk]
        have b4 : (k == 4) = false := by simp [hk]
        have b6 : (k == 6) = false := by simp [hk]
        have b16 : (k == 16) = false := by simp [hk]
        have b7 : (k == 7) = true := by simp [hk]
        have HKK := Hid.out (p := Hid _) hk
        clear hk
        have HM2 := Hid.out (p := Hid _) (HUS.out false (by rw [HKK.out]; decide))
        go_wp2_with fail
        refine Calls.mono HM2.out ?_
        rintro e w2 ⟨rfl, h2, h3⟩
        have HZ := Hid.out (p := Hid _) (And.intro h2 h3)
        clear h2 h3
        go_wp2_with fail
        go_end0
        refine ⟨rfl, ?_, HJ3.out.trans HZ.out.2⟩
        rw [HRJ.out]
        unfold lookC
        rw [if_neg (by rw [HKK.out]; decide), if_neg (by rw [HKK.out]; decide), if_neg (by rw [HKK.out]; decide), if_neg (by rw [HKK.out]; decide), if_pos (by rw [HKK.out]; decide)]
        exact HZ.out.1
      · have b2 : (k == 2) = false := by simp [hk]
        have b3 : (k == 3) = false := by simp [hk]
        have b4 : (k == 4) = false := by simp [hk]
        have b6 : (k == 6) = false := by simp [hk]
        have b16 : (k == 16) = false := by simp [hk]
        have b7 : (k == 7) = false := by simp [hk]
        have b8 : (k == 8) = true := by simp [hk]
        have HKK := Hid.out (p := Hid _) hk
        clear hk
        have HM2 := Hid.out (p := Hid _) (HUS.out false (by rw [HKK.out]; decide))
        go_wp2_with fail
        refine Calls.mono HM2.out ?_
        rintro e w2 ⟨rfl, h2, h3⟩
        have HZ := Hid.out (p := Hid _) (And.intro h2 h3)
        clear h2 h3
        go_wp2_with fail
        go_end0
        refine ⟨rfl, ?_, HJ3.out.trans HZ.out.2⟩
        rw [HRJ.out]
        unfold lookC
        rw [if_neg (by rw [HKK.out]; decide), if_neg (by rw [HKK.out]; decide), if_neg (by rw [HKK.out]; decide), if_neg (by rw [HKK.out]; decide), if_pos (by rw [HKK.out]; decide)]
        exact HZ.out.1
      · have b2 : (k == 2) = false := by simp [hk]
        have b3 : (k == 3) = false := by simp [hk]
        have b4 : (k == 4) = false := by simp [hk]
        have b6 : (k == 6) = false := by simp [hk]
        have b16 : (k == 16) = false := by simp [hk]
        have b7 : (k == 7) = false := by simp [hk]
        have b8 : (k == 8) = false := by simp [hk]
        have b12 : (k == 12) = true := by simp [hk]
        have HKK := Hid.out (p := Hid _) hk
        clear hk
        have HM2 := Hid.out (p := Hid _) (HUS.out true (by rw [HKK.out]; decide))
        go_wp2_with fail
        refine Calls.mono HM2.out ?_
        rintro e w2 ⟨rfl, h2, h3⟩
        have HZ := Hid.out (p := Hid _) (And.intro h2 h3)
        clear h2 h3
        go_wp2_with fail
        go_end0
        refine ⟨rfl, ?_, HJ3.out.trans HZ.out.2⟩
        rw [HRJ.out]
        unfold lookC
        rw [if_neg (by rw [HKK.out]; decide), if_neg (by rw [HKK.out]; decide), if_neg (by rw [HKK.out]; decide), if_neg (by rw [HKK.out]; decide), if_neg (by rw [HKK.out]; decide), if_pos (by rw [HKK.out]; decide)]
        exact HZ.out.1
      · have b2 : (k == 2) = false := by simp [hk]
        have b3 : (k == 3) = false := by simp [hk]
        have b4 : (k == 4) = false := by simp [hk]
        have b6 : (k == 6) = false := by simp [hk]
        have b16 : (k == 16) = false := by simp [hk]
        have b7 : (k == 7) = false := by simp [hk]
        have b8 : (k == 8) = false := by simp [hk]
        have b12 : (k == 12) = false := by simp [hk]
        have b13 : (k == 13) = true := by simp [hk]
        have HKK := Hid.out (p := Hid _) hk
        clear hk
        have HM2 := Hid.out (p := Hid _) (HUS.out true (by rw [HKK.out]; decide))
        go_wp2_with fail
        refine Calls.mono HM2.out ?_
        rintro e w2 ⟨rfl, h2, h3⟩
        have HZ := Hid.out (p := Hid _) (And.intro h2 h3)
        clear h2 h3
        go_wp2_with fail
        go_end0
        refine ⟨rfl, ?_, HJ3.out.trans HZ.out.2⟩
        rw [HRJ.out]
        unfold lookC
        rw [if_neg (by rw [HKK.out]; decide), if_neg (by rw [HKK.out]; decide), if_neg (by rw [HKK.out]; decide), if_neg (by rw [HKK.out]; decide), if_neg (by rw [HKK.out]; decide), if_pos (by rw [HKK.out]; decide)]
        exact HZ.out.1
      · obtain ⟨h2, h3, h4, h6, h16, h7, h8, h12, h13⟩ := hk
        have b2 : (k == 2) = false := by simp [h2]
        have b3 : (k == 3) = false := by simp [h3]
        have b4 : (k == 4) = false := by simp [h4]
        have b6 : (k == 6) = false := by simp [h6]
        have b16 : (k == 16) = false := by simp [h16]
        have b7 : (k == 7) = false := by simp [h7]
        have b8 : (k == 8) = false := by simp [h8]
        have b12 : (k == 12) = false := by simp [h12]
        have b13 : (k == 13) = false := by simp [h13]
        have HL : Hid (lookC rows k i sj = .ok sj) := by
          show _ = _
          unfold lookC
          rw [if_neg h2, if_neg h3, if_neg h4, if_neg h6, if_neg (by omega), if_neg (by omega)]
        clear h2 h3 h4 h6 h16 h7 h8 h12 h13
        go_wp2_with fail
        go_end0
        refine ⟨rfl, ?_, HJ3.out⟩
        rw [HRJ.out, HL.out]
        exact ⟨vj, HJ1.out.1⟩
end

end Go.Proofs.YtggfbfjdiikaeaaGreatDoor
