/-
  The document's node: what is no block.
  The program's checker goes through trees.
  The program's checker goes through every tree.
  The program's checker goes through blocks and through cas.
-/
import Derived.Test.YtggfbfjdiikaeaaGreatDoorChkD7
namespace Go.Proofs.YtggfbfjdiikaeaaGreatDoor
section
open Go.RowKit

/-- A cas's first kid: what the document does with it is the plain use of a global. -/
theorem cas_first {rows : List Row} {b : Nat} {p : Int} {t : List UInt8} {s : Cs} : (∀ f, ckN rows (.mk 16 0 p t []) b s = .error f → useC rows (b + ndSize (.mk 16 0 p t []) - 1) isGlo s = .error f) ∧ (∀ s', ckN rows (.mk 16 0 p t []) b s = .ok s' → ∃ d : Nat, findC rows s.sc (rowA rows b).text = some d ∧ s' = { s with us := s.us.set b (d : Int) } ∧ useC rows (b + ndSize (.mk 16 0 p t []) - 1) isGlo s = if (rowA rows d).kind = 2 then .ok s' else .error (9, (rowA rows b).pos)) := by
  have e1 : ckN rows (.mk 16 0 p t []) b s = useC rows b isVar s := by
    rw [ckN, if_neg (by decide)]
    show (ckNs rows _ [] b s).and _ = _
    rw [ckNs]
    rfl
  have e2 : b + ndSize (.mk 16 0 p t []) - 1 = b := by simp [ndSize, ndsSize]
  rw [e1, e2]
  unfold useC
  cases hf : findC rows s.sc (rowA rows b).text with
  | none => exact ⟨fun f h => h, fun s' h => by cases h⟩
  | some d =>
    simp only
    refine ⟨fun f h => ?_, fun s' h => ?_⟩
    · split at h
      · cases h
      · rename_i hv
        rw [if_neg (fun hg => hv (by unfold isVar isGlo at *; simp only [Bool.or_eq_true, beq_iff_eq] at *; exact Or.inl hg))]
        exact h
    · split at h
      · refine ⟨d, rfl, (Except.ok.inj h).symm, ?_⟩
        rw [← Except.ok.inj h]
        unfold isGlo
        simp only [beq_iff_eq]
      · cases h
end

section
open Go.RowKit

section
variable {rows : List Row}
/-- The program looks at a tree. -/
def WkP (rows : List Row) (x : Nd) (b : Nat) : Prop := ∀ (w0 w : World) (a : Option Addr) (c P : Nat) (v : Rk → Value) (ms : List Nat) (cm : Nat) (s : Cs), FAt rows x b → CPs w0 w a c rows P v ms cm s → CsOk rows s → TxtOk rows → rows.length ≤ 10000 → s.sc.length + ndSize x ≤ 10000 → s.sc.flatten.length + ndSize x ≤ 10000 →
  Calls Tryz.prog 65 #[.pointer (some ⟨P, 0, none⟩), .int .i64 ((b + ndSize x - 1 : Nat) : Int)] w fun e w' => PQ w0 a c rows P s.sc.length (ckN rows x b s) e w' ∧ KpC w w'
set_option maxRecDepth 100000 in
set_option maxHeartbeats 3200000 in
theorem cwalkAll_any {ks : List Nd} {b : Nat} (hks : ∀ j y, ks[j]? = some y → WkP rows y (b + ndsSize (ks.take j))) (w0 w : World) (a : Option Addr) (c P : Nat) (v : Rk → Value) (ms : List Nat) (cm : Nat) (s : Cs) (hf : FsAt rows ks b) (h : CPs w0 w a c rows P v ms cm s) (hok : CsOk rows s) (ht : TxtOk rows) (hrl : rows.length ≤ 10000) (hb1 : s.sc.length + ndsSize ks ≤ 10000) (hb2 : s.sc.flatten.length + ndsSize ks ≤ 10000) (ka : Option Addr) (m kc : Nat) (hm : m = ks.length)
    (hc : ∀ (j : Nat) y, ks[j]? = some y → ∃ kb ko, ka = some ⟨kb, ko, none⟩ ∧ ∀ W, Below w0.heap.size w0 W → W.cell? ⟨kb, ko + j, none⟩ = some (.int .i64 ((b + ndsSize (ks.take j) + ndSize y - 1 : Nat) : Int))) :
    Calls Tryz.prog 90 #[.pointer (some ⟨P, 0, none⟩), .slice ka m kc] w fun e w' => PQ w0 a c rows P s.sc.length (ckNs rows false ks b s) e w' ∧ KpC w w' := by
  have hml : m ≤ 10000 := by have := nds_len9 ks; omega
  have hI0 : KdI rows (ckNs rows false ks b s) s false ks b 0 s := KdI.start hok hf
  obtain ⟨Rk, hRk⟩ : ∃ R, R = ckNs rows false ks b s := ⟨_, rfl⟩
  rw [← hRk] at hI0 ⊢
  obtain ⟨L, hL⟩ : ∃ L, L = s.sc.length := ⟨_, rfl⟩
  rw [← hL]
  have HK : Hid (∀ (j : Nat), j < m → ∃ (kb ko : Nat) (y : Nd), ka = some ⟨kb, ko, none⟩ ∧ ks[j]? = some y ∧ (∀ W, Below w0.heap.size w0 W → W.cell? ⟨kb, ko + j, none⟩ = some (.int .i64 ((b + ndsSize (ks.take j) + ndSize y - 1 : Nat) : Int))) ∧ ∀ W vj msj cmj sj, CPs w0 W a c rows P vj msj cmj sj → KdI rows Rk s false ks b j sj → Calls Tryz.prog 65 #[.pointer (some ⟨P, 0, none⟩), .int .i64 ((b + ndsSize (ks.take j) + ndSize y - 1 : Nat) : Int)] W fun e w' => PQ w0 a c rows P L (ckN rows y (b + ndsSize (ks.take j)) sj) e w' ∧ KpC W w') := fun j hj => by
    obtain ⟨y, hy⟩ : ∃ y, ks[j]? = some y := ⟨_, List.getElem?_eq_getElem (by omega)⟩
    obtain ⟨kb, ko, e, hcc⟩ := hc j y hy
    refine ⟨kb, ko, y, e, hy, hcc, fun W vj msj cmj sj hW hI => ?_⟩
    have hgl := hI.grw.len hok.ne
    have hnt := nds_take9 hy
    have := hks j y hy w0 W a c P vj msj cmj sj (hI.fatOne hy) hW hI.ok ht hrl (by omega) (by omega)
    rw [hgl.1, ← hL] at this
    exact this
  have HI0 : Hid (∃ vj msj cmj sj, CPs w0 w a c rows P vj msj cmj sj ∧ KdI rows Rk s false ks b 0 sj ∧ KpC w w) := ⟨v, ms, cm, s, h, hI0, KpC.refl _⟩
  have HM := Hid.out (p := Hid _) hm
  clear hks hf h hok ht hrl hb1 hb2 hm hc hI0 hRk hL
  go_enter Tryz.func90, Tryz.ntmps90
  go_wp2_with fail
  go_loopw [8] (fun x wr => ∃ j : Nat, j ≤ m ∧ x = .int .i64 j ∧ Hid (∃ vj msj cmj sj, CPs w0 wr a c rows P vj msj cmj sj ∧ KdI rows Rk s false ks b j sj ∧ KpC w wr)) (fun x _ => m - (intOf x).toNat)
  case atStart => exact ⟨0, Nat.zero_le _, rfl, HI0⟩
  case round =>
    obtain ⟨j, hj, rfl, HJ⟩ := hrel
    clear HI0
    obtain ⟨vj, msj, cmj, sj, hJ1, hJ2, hJ3⟩ := HJ.out
    by_cases hlt : j < m
    · obtain ⟨kb, ko, y, rfl, hy, hcc, hX⟩ := HK.out j hlt
      have y0 := hcc _ hJ1.low
      have hX2 := hX wr vj msj cmj sj hJ1 hJ2
      obtain ⟨N, hN⟩ : ∃ N : Nat, N = b + ndsSize (ks.take j) + ndSize y - 1 := ⟨_, rfl⟩
      rw [← hN] at y0 hX2
      have hlt' : (j : Int) < (m : Int) := by omega
      have HJ3 := Hid.out (p := Hid _) hJ3
      cases hck : ckN rows y (b + ndsSize (ks.take j)) sj with
      | error f =>
        rw [hck] at hX2
        have HX : Hid (Calls Tryz.prog 65 #[.pointer (some ⟨P, 0, none⟩), .int .i64 (N : Int)] wr fun e w' => PQ w0 a c rows P L (.error f) e w' ∧ KpC wr w') := hX2
        have HE : Hid (Rk = .error f) := hJ2.bad hy (by simpa using hck)
        clear hX hX2 hJ1 hJ2 hJ3 hN hck hcc hy HJ
        go_wp2_with fail
        refine Calls.mono HX.out ?_
        rintro e w2 ⟨⟨rfl, hw⟩, hk2⟩
        refine ⟨rfl, ?_, HJ3.out.trans hk2⟩
        show PQ _ _ _ _ _ _ Rk _ _
        rw [HE.out]
        exact ⟨rfl, hw⟩
      | ok s' =>
        rw [hck] at hX2
        have HX : Hid (Calls Tryz.prog 65 #[.pointer (some ⟨P, 0, none⟩), .int .i64 (N : Int)] wr fun e w' => PQ w0 a c rows P L (.ok s') e w' ∧ KpC wr w') := hX2
        have HNX := Hid.out (p := Hid _) (hJ2.next hy (by simpa using hck))
        clear hX hX2 hJ1 hJ2 hJ3 hN hck hcc hy HJ
        go_wp2_with fail
        refine Calls.mono HX.out ?_
        rintro e w2 ⟨⟨rfl, v2, ms2, cm2, hP2⟩, hk2⟩
        have HZ : Hid (∃ vj msj cmj sj, CPs w0 w2 a c rows P vj msj cmj sj ∧ KdI rows Rk s false ks b (j + 1) sj ∧ KpC w w2) := ⟨v2, ms2, cm2, s', hP2, HNX.out, HJ3.out.trans hk2⟩
        clear hP2 hk2 y0
        go_wp2_with fail
        go_roundw
        case rel => exact ⟨j + 1, by omega, by go_num, HZ⟩
        case measure => simp [intOf]; omega
    · obtain rfl : j = m := by omega
      have HE : Hid (Rk = .ok sj) := hJ2.done HM.out
      have HZ : Hid ((∃ vj msj cmj, CPs w0 wr a c rows P vj msj cmj sj) ∧ KpC w wr) := ⟨⟨vj, msj, cmj, hJ1⟩, hJ3⟩
      clear hJ1 hJ2 hJ3 HJ
      go_wp2_with fail
      go_end0
      rw [HE.out]
      exact ⟨⟨rfl, HZ.out.1⟩, HZ.out.2⟩
end
end

section
open Go.RowKit

section
variable {rows : List Row}
/-- What stands behind a node's kids: the node itself. -/
theorem look_after {w0 : World} {a : Option Addr} {c P : Nat} {k : Int} {i : Nat} (hi : i < rows.length) (hk : (rowA rows i).kind = k) (ht : TxtOk rows) (hrl : rows.length ≤ 10000) {m : Nat} {s s' : Cs} (hok : CsOk rows s) (hg : Grw rows m s s') (hb1 : s.sc.length ≤ 10000) (hb2 : s.sc.flatten.length + m ≤ 10000) (W : World) (v : Rk → Value) (ms : List Nat) (cm : Nat) (h : CPs w0 W a c rows P v ms cm s') :
    Calls Tryz.prog 91 #[.pointer (some ⟨P, 0, none⟩), .int .i64 (i : Int)] W fun e w' => PQ w0 a c rows P s.sc.length (lookC rows k i s') e w' ∧ KpC W w' := by
  have hl := hg.len hok.ne
  have := clook_any h (hg.ok hok) ht hi hk (by omega) (by omega) hrl
  rw [hl.1] at this
  exact this
theorem grw_block {ks : List Nd} {b : Nat} {s s2 : Cs} (hf : FsAt rows ks b) (h : ckNs rows false ks b { s with sc := [] :: s.sc } = .ok s2) : s2.sc.tail = s.sc ∧ s2.sc ≠ [] ∧ (s.sc ≠ [] → Grw rows 0 s { s2 with sc := s2.sc.tail }) := by
  have g := cks_ok ks false b _ s2 hf h (by simp)
  have e : s2.sc.tail = s.sc := g.sc
  refine ⟨e, g.ne (by simp), fun hne => ⟨by rw [e], ⟨[], by rw [e]; rfl, Nat.le_refl _⟩, fun q => ?_, fun q => by rw [e]; exact q⟩⟩
  have q2 := g.ok ⟨fun S hS d hd => by
    rcases List.mem_cons.1 hS with rfl | hS
    · cases hd
    · exact q.mem S hS d hd, fun S hS => by
    rcases List.mem_cons.1 hS with rfl | hS
    · exact List.Pairwise.nil
    · exact q.one S hS, by simp, q.us, q.cn, q.c4⟩
  exact ⟨fun S hS => q2.mem S (List.mem_of_mem_tail hS), fun S hS => q2.one S (List.mem_of_mem_tail hS), by rw [e]; exact hne, q2.us, q2.cn, q2.c4⟩
/-- A node's copy, and its kids' numbers. -/
theorem walk_node {k n p : Int} {t : List UInt8} {ks : List Nd} {b : Nat} {w0 w : World} {a : Option Addr} {c P : Nat} {v : Rk → Value} {ms : List Nat} {cm : Nat} {s : Cs} (hf : FAt rows (.mk k n p t ks) b) (h : CPs w0 w a c rows P v ms cm s) : ∃ (g : Nat) (ka : Option Addr) (kc : Nat), a = some ⟨g, 0, none⟩ ∧ NdR w g (b + ndsSize ks) ⟨k, n, p, t, idxs b ks⟩ ka kc ∧ ks.length ≤ kc ∧ (idxs b ks).length = ks.length ∧ ∀ (j : Nat) y, ks[j]? = some y → ∃ kb ko, ka = some ⟨kb, ko, none⟩ ∧ ∀ W, Below w0.heap.size w0 W → W.cell? ⟨kb, ko + j, none⟩ = some (.int .i64 ((b + ndsSize (ks.take j) + ndSize y - 1 : Nat) : Int)) := by
  have hil : b + ndsSize ks < rows.length := by have := hf.lt; rw [ndSize] at this; omega
  obtain ⟨g, ka, kc, hag, hnd⟩ := h.nds.get _ hil
  have hrow := hf.rowA
  have hnd' : NdR w0 g (b + ndsSize ks) ⟨k, n, p, t, idxs b ks⟩ ka kc := by rw [← hrow]; exact hnd
  have hcap := hnd'.cap
  have hl := idxs_len9 ks b
  simp only at hcap
  exact ⟨g, ka, kc, hag, hnd'.below h.low, by omega, hl, fun j y hy => kid_num hnd'.kin hy⟩
set_option maxRecDepth 100000 in
set_option maxHeartbeats 6400000 in
theorem cwalk_other {k n p : Int} {t : List UInt8} {ks : List Nd} {b : Nat} (h5 : k ≠ 5) (h8 : k ≠ 8) (hks : ∀ j y, ks[j]? = some y → WkP rows y (b + ndsSize (ks.take j))) : WkP rows (.mk k n p t ks) b := by
  intro w0 w a c P v ms cm s hf h hok ht hrl hb1 hb2
  obtain ⟨g, ka, kc, rfl, hn, hcap, hil, hkc⟩ := walk_node hf h
  have hlt := hf.lt
  have hrow := hf.rowA
  rw [ndSize] at hb1 hb2 hlt ⊢
  rw [show b + (ndsSize ks + 1) - 1 = b + ndsSize ks by omega]
  obtain ⟨i, hi⟩ : ∃ i, i = b + ndsSize ks := ⟨_, rfl⟩
  rw [← hi] at hrow hn ⊢
  have hir : i < rows.length := by omega
  have x0 := hn.k
  have x1 := hn.n
  have x2 := hn.p
  have x3 := hn.t
  have x4 := hn.ks
  simp only at x0 x1 x2 x3 x4
  rw [hil] at x4
  obtain ⟨m, hm⟩ : ∃ m, m = ks.length := ⟨_, rfl⟩
  rw [← hm] at x4
  obtain ⟨o, ho⟩ : ∃ o, o = Obj.cells #[.int .i64 k, .int .i64 n, .int .i64 p, .string ⟨⟨t⟩⟩, .slice ka m kc] 60 := ⟨_, rfl⟩
  have hA := (Below.refl w.heap.size w).alloc (Nat.le_refl _) o
  have HWA : Hid (Calls Tryz.prog 90 #[.pointer (some ⟨P, 0, none⟩), .slice ka m kc] (w.alloc o) fun e w' => PQ w0 (some ⟨g, 0, none⟩) c rows P s.sc.length (ckNs rows false ks b s) e w' ∧ KpC (w.alloc o) w') := cwalkAll_any hks w0 _ _ c P v ms cm s hf.kids (h.below hA) hok ht hrl (by omega) (by omega) ka m kc hm hkc
  have c0 := h.c0
  have hR : ckN rows (.mk k n p t ks) b s = (ckNs rows false ks b s).and (lookC rows k i) := by
    rw [ckN, if_neg h5, ← hi, show (k == 8) = false by simpa using h8]
  obtain ⟨L, hL⟩ : ∃ L, L = s.sc.length := ⟨_, rfl⟩
  have HLK : Hid (∀ s', ckNs rows false ks b s = .ok s' → ∀ W v' ms' cm', CPs w0 W (some ⟨g, 0, none⟩) c rows P v' ms' cm' s' → Calls Tryz.prog 91 #[.pointer (some ⟨P, 0, none⟩), .int .i64 (i : Int)] W fun e w' => PQ w0 (some ⟨g, 0, none⟩) c rows P L (lookC rows k i s') e w' ∧ KpC W w') := fun s' hs' W v' ms' cm' hW => by
    rw [hL]
    exact look_after hir (by rw [hrow]) ht hrl hok (cks_ok ks false b s s' hf.kids hs' hok.ne) (by omega) (by omega) W v' ms' cm' hW
  rw [hR, ← hL]
  rw [← hL] at HWA
  have HO := Hid.out (p := Hid _) ho
  have HKA := Hid.out (p := Hid _) (KpC.of_below hA)
  have hi' : (i : Int) < (rows.length : Int) := by omega
  have b5 : (k == 5) = false := by simpa using h5
  have b8 : (k == 8) = false := by simpa using h8
  clear hks hf h hok ht hb1 hb2 hlt hrow hi hir hn hcap hil hkc hm hA hR hL h5 h8
  cases hck : ckNs rows false ks b s with
  | error f =>
    rw [hck] at HWA
    clear hck
    go_enter Tryz.func65, Tryz.ntmps65
    go_wp2_with fail
    rw [← ho]
    refine Calls.mono HWA.out ?_
    rintro e w2 ⟨⟨rfl, hw⟩, hk2⟩
    exact ⟨rfl, ⟨rfl, hw⟩, HKA.out.trans hk2⟩
  | ok s' =>
    rw [hck] at HWA
    have HL2 := Hid.out (p := Hid _) (HLK.out s' hck)
    clear hck HLK
    go_enter Tryz.func65, Tryz.ntmps65
    go_wp2_with fail
    rw [← ho]
    refine Calls.mono HWA.out ?_
    rintro e w2 ⟨⟨rfl, v2, ms2, cm2, hP2⟩, hk2⟩
    have HLL : Hid (Calls Tryz.prog 91 #[.pointer (some ⟨P, 0, none⟩), .int .i64 (i : Int)] w2 fun e w' => PQ w0 (some ⟨g, 0, none⟩) c rows P L (lookC rows k i s') e w' ∧ KpC w2 w') := HL2.out w2 v2 ms2 cm2 hP2
    have HK2 := Hid.out (p := Hid _) (HKA.out.trans hk2)
    clear hP2 hk2 x0 x1 x2 x3 x4 c0
    go_wp2_with fail
    refine Calls.mono HLL.out ?_
    cases hq : lookC rows k i s' with
    | error f =>
      rintro e w3 ⟨⟨rfl, hw⟩, hk3⟩
      refine ⟨rfl, ?_, HK2.out.trans hk3⟩
      show PQ _ _ _ _ _ _ (lookC rows k i s') _ _
      rw [hq]
      exact ⟨rfl, hw⟩
    | ok s3 =>
      rintro e w3 ⟨⟨rfl, hw⟩, hk3⟩
      have HZ := Hid.out (p := Hid _) (And.intro hw hk3)
      clear hw hk3
      go_wp2_with fail
      go_end0
      refine ⟨?_, HK2.out.trans HZ.out.2⟩
      show PQ _ _ _ _ _ _ (lookC rows k i s') _ _
      rw [hq]
      exact ⟨rfl, HZ.out.1⟩
end
end

section
open Go.RowKit

section
variable {rows : List Row}
set_option maxRecDepth 100000 in
set_option maxHeartbeats 6400000 in
theorem cwalk_block {n p : Int} {t : List UInt8} {ks : List Nd} {b : Nat} (hks : ∀ j y, ks[j]? = some y → WkP rows y (b + ndsSize (ks.take j))) : WkP rows (.mk 5 n p t ks) b := by
  intro w0 w a c P v ms cm s hf h hok ht hrl hb1 hb2
  obtain ⟨g, ka, kc, rfl, hn, hcap, hil, hkc⟩ := walk_node hf h
  have hlt := hf.lt
  have hrow := hf.rowA
  rw [ndSize] at hb1 hb2 hlt ⊢
  rw [show b + (ndsSize ks + 1) - 1 = b + ndsSize ks by omega]
  obtain ⟨i, hi⟩ : ∃ i, i = b + ndsSize ks := ⟨_, rfl⟩
  rw [← hi] at hrow hn ⊢
  have hir : i < rows.length := by omega
  have x0 := hn.k
  have x1 := hn.n
  have x2 := hn.p
  have x3 := hn.t
  have x4 := hn.ks
  simp only at x0 x1 x2 x3 x4
  rw [hil] at x4
  obtain ⟨m, hm⟩ : ∃ m, m = ks.length := ⟨_, rfl⟩
  rw [← hm] at x4
  obtain ⟨o, ho⟩ : ∃ o, o = Obj.cells #[.int .i64 5, .int .i64 n, .int .i64 p, .string ⟨⟨t⟩⟩, .slice ka m kc] 60 := ⟨_, rfl⟩
  have hA := (Below.refl w.heap.size w).alloc (Nat.le_refl _) o
  obtain ⟨R1, hR1⟩ : ∃ R1 : CRes, R1 = (ckNs rows false ks b { s with sc := [] :: s.sc }).and fun s' => .ok { s' with sc := s'.sc.tail } := ⟨_, rfl⟩
  have HWA : Hid (Calls Tryz.prog 88 #[.pointer (some ⟨P, 0, none⟩), .slice ka m kc] (w.alloc o) fun e w' => PQ w0 (some ⟨g, 0, none⟩) c rows P s.sc.length R1 e w' ∧ KpC (w.alloc o) w') := by
    rw [hR1]
    refine cblock_any (h.below hA) (by omega) ka m kc (fun W v' ms' cm' hW => ?_) (fun s' hs' => ⟨(grw_block hf.kids hs').1, (grw_block hf.kids hs').2.1⟩)
    have hok1 : CsOk rows { s with sc := [] :: s.sc } := ⟨fun S hS d hd => by
      rcases List.mem_cons.1 hS with rfl | hS
      · cases hd
      · exact hok.mem S hS d hd, fun S hS => by
      rcases List.mem_cons.1 hS with rfl | hS
      · exact List.Pairwise.nil
      · exact hok.one S hS, by simp, hok.us, hok.cn, hok.c4⟩
    exact cwalkAll_any hks w0 W _ c P v' ms' cm' _ hf.kids hW hok1 ht hrl (by show s.sc.length + 1 + _ ≤ _; omega) (by show (([] : List Nat) :: s.sc).flatten.length + _ ≤ _; simp only [List.flatten_cons, List.nil_append]; omega) ka m kc hm hkc
  have c0 := h.c0
  have hR : ckN rows (.mk 5 n p t ks) b s = R1.and (lookC rows 5 i) := by
    rw [ckN, if_pos rfl, ← hi, hR1]
  obtain ⟨L, hL⟩ : ∃ L, L = s.sc.length := ⟨_, rfl⟩
  have HLK : Hid (∀ s', R1 = .ok s' → ∀ W v' ms' cm', CPs w0 W (some ⟨g, 0, none⟩) c rows P v' ms' cm' s' → Calls Tryz.prog 91 #[.pointer (some ⟨P, 0, none⟩), .int .i64 (i : Int)] W fun e w' => PQ w0 (some ⟨g, 0, none⟩) c rows P L (lookC rows 5 i s') e w' ∧ KpC W w') := fun s' hs' W v' ms' cm' hW => by
    rw [hL]
    rw [hR1] at hs'
    obtain ⟨s2, h1, h2⟩ := CRes.and_ok hs'
    obtain rfl := (Except.ok.inj h2).symm
    exact look_after hir (by rw [hrow]) ht hrl hok ((grw_block hf.kids h1).2.2 hok.ne) (by omega) (by omega) W v' ms' cm' hW
  rw [hR, ← hL]
  rw [← hL] at HWA
  have HO := Hid.out (p := Hid _) ho
  have HKA := Hid.out (p := Hid _) (KpC.of_below hA)
  have hi' : (i : Int) < (rows.length : Int) := by omega
  clear hks hf h hok ht hb1 hb2 hlt hrow hi hir hn hcap hil hkc hm hA hR hL hR1
  cases hck : R1 with
  | error f =>
    rw [hck] at HWA
    clear hck
    go_enter Tryz.func65, Tryz.ntmps65
    go_wp2_with fail
    rw [← ho]
    refine Calls.mono HWA.out ?_
    rintro e w2 ⟨⟨rfl, hw⟩, hk2⟩
    exact ⟨rfl, ⟨rfl, hw⟩, HKA.out.trans hk2⟩
  | ok s' =>
    rw [hck] at HWA
    have HL2 := Hid.out (p := Hid _) (HLK.out s' hck)
    clear hck HLK
    go_enter Tryz.func65, Tryz.ntmps65
    go_wp2_with fail
    rw [← ho]
    refine Calls.mono HWA.out ?_
    rintro e w2 ⟨⟨rfl, v2, ms2, cm2, hP2⟩, hk2⟩
    have HLL : Hid (Calls Tryz.prog 91 #[.pointer (some ⟨P, 0, none⟩), .int .i64 (i : Int)] w2 fun e w' => PQ w0 (some ⟨g, 0, none⟩) c rows P L (lookC rows 5 i s') e w' ∧ KpC w2 w') := HL2.out w2 v2 ms2 cm2 hP2
    have HK2 := Hid.out (p := Hid _) (HKA.out.trans hk2)
    clear hP2 hk2 x0 x1 x2 x3 x4 c0
    go_wp2_with fail
    refine Calls.mono HLL.out ?_
    cases hq : lookC rows 5 i s' with
    | error f =>
      rintro e w3 ⟨⟨rfl, hw⟩, hk3⟩
      refine ⟨rfl, ?_, HK2.out.trans hk3⟩
      show PQ _ _ _ _ _ _ (lookC rows 5 i s') _ _
      rw [hq]
      exact ⟨rfl, hw⟩
    | ok s3 =>
      rintro e w3 ⟨⟨rfl, hw⟩, hk3⟩
      have HZ := Hid.out (p := Hid _) (And.intro hw hk3)
      clear hw hk3
      go_wp2_with fail
      go_end0
      refine ⟨?_, HK2.out.trans HZ.out.2⟩
      show PQ _ _ _ _ _ _ (lookC rows 5 i s') _ _
      rw [hq]
      exact ⟨rfl, HZ.out.1⟩
set_option maxRecDepth 100000 in
set_option maxHeartbeats 6400000 in
theorem cwalk_cas {n p p' : Int} {t t' : List UInt8} {r : List Nd} {b : Nat} (hr0 : r ≠ []) (hks : ∀ j y, (Nd.mk 16 0 p' t' [] :: r)[j]? = some y → WkP rows y (b + ndsSize ((Nd.mk 16 0 p' t' [] :: r).take j))) : WkP rows (.mk 8 n p t (.mk 16 0 p' t' [] :: r)) b := by
  obtain ⟨ks, hkse⟩ : ∃ ks, ks = Nd.mk 16 0 p' t' [] :: r := ⟨_, rfl⟩
  rw [← hkse] at hks ⊢
  intro w0 w a c P v ms cm s hf h hok ht hrl hb1 hb2
  obtain ⟨g, ka, kc, rfl, hn, hcap, hil, hkc⟩ := walk_node hf h
  have hlt := hf.lt
  have hrow := hf.rowA
  rw [ndSize] at hb1 hb2 hlt ⊢
  rw [show b + (ndsSize ks + 1) - 1 = b + ndsSize ks by omega]
  obtain ⟨i, hi⟩ : ∃ i, i = b + ndsSize ks := ⟨_, rfl⟩
  rw [← hi] at hrow hn ⊢
  have hir : i < rows.length := by omega
  have x0 := hn.k
  have x1 := hn.n
  have x2 := hn.p
  have x3 := hn.t
  have x4 := hn.ks
  simp only at x0 x1 x2 x3 x4
  rw [hil] at x4
  obtain ⟨m, hm⟩ : ∃ m, m = ks.length := ⟨_, rfl⟩
  rw [← hm] at x4
  obtain ⟨o, ho⟩ : ∃ o, o = Obj.cells #[.int .i64 8, .int .i64 n, .int .i64 p, .string ⟨⟨t⟩⟩, .slice ka m kc] 60 := ⟨_, rfl⟩
  have hA := (Below.refl w.heap.size w).alloc (Nat.le_refl _) o
  have hx1 : ndSize (.mk 16 0 p' t' []) = 1 := by simp [ndSize, ndsSize]
  obtain ⟨kb, ko, rfl, hkb⟩ := hkc 0 (.mk 16 0 p' t' []) (by rw [hkse]; rfl)
  have hksz : ndsSize ks = 1 + ndsSize r := by rw [hkse, ndsSize, hx1]
  have HK0 : Hid (∀ W, Below w0.heap.size w0 W → W.cell? ⟨kb, ko, none⟩ = some (.int .i64 (b : Int))) := fun W hW => by
    have := hkb W hW
    rw [hx1] at this
    simpa [ndsSize] using this
  have hff := hf.kids
  rw [hkse] at hff
  have hfr := hff.head.2
  rw [hx1] at hfr
  have hbl : b < rows.length := by omega
  have HUS : Hid (Calls Tryz.prog 89 #[.pointer (some ⟨P, 0, none⟩), .int .i64 (b : Int), .slice (some ⟨w.heap.size + 1, 0, none⟩) 1 1] ((w.alloc o).alloc (.cells #[.int .i64 2] 3)) fun e w' => PQ w0 (some ⟨g, 0, none⟩) c rows P s.sc.length (useC rows b isGlo s) e w' ∧ KpC (w.alloc o) w') := by
    have hA2 := (Below.refl (w.alloc o).heap.size (w.alloc o)).alloc (Nat.le_refl _) (.cells #[.int .i64 2] 3)
    have hnew := heap_alloc_new (w.alloc o) (.cells #[.int .i64 2] 3)
    rw [World.size_alloc] at hnew
    refine (cuse_any ((h.below hA).below hA2) hok ht hbl (by rw [h.len]; omega) (by omega) (w.heap.size + 1) [2] 1 rfl (by decide) (fun j hj => ?_) isGlo (fun q => by unfold isGlo; rw [Bool.eq_iff_iff]; simp)).mono ?_
    · have hj0 : j = 0 := by simpa using hj
      subst hj0
      exact box_cell hnew rfl
    · rintro e w' ⟨h1, h2⟩
      exact ⟨h1, (KpC.of_below hA2).trans h2⟩
  have HWA : Hid (∀ s1, useC rows b isGlo s = .ok s1 → ∀ W v' ms' cm', CPs w0 W (some ⟨g, 0, none⟩) c rows P v' ms' cm' s1 → Calls Tryz.prog 90 #[.pointer (some ⟨P, 0, none⟩), .slice (some ⟨kb, ko + 1, none⟩) (m - 1) (kc - 1)] W fun e w' => PQ w0 (some ⟨g, 0, none⟩) c rows P s.sc.length (ckNs rows false r (b + 1) s1) e w' ∧ KpC W w') := fun s1 hs1 W v' ms' cm' hW => by
    have hg1 := use_ok hs1
    have hl1 := hg1.len hok.ne
    have := cwalkAll_any (ks := r) (b := b + 1) (fun j y hy => by
      have h9 := hks (j + 1) y (by rw [hkse]; simpa using hy)
      rw [hkse, List.take_succ_cons, ndsSize, hx1, ← Nat.add_assoc] at h9
      exact h9) w0 W _ c P v' ms' cm' s1 hfr hW (hg1.ok hok) ht hrl (by omega) (by omega) (some ⟨kb, ko + 1, none⟩) (m - 1) (kc - 1) (by rw [hm, hkse]; simp) (fun j y hy => by
      refine ⟨kb, ko + 1, rfl, fun W' hW' => ?_⟩
      obtain ⟨kb2, ko2, e2, h9⟩ := hkc (j + 1) y (by rw [hkse]; simpa using hy)
      simp only [Option.some.injEq, Addr.mk.injEq, and_true] at e2
      obtain ⟨rfl, rfl⟩ := e2
      have h10 := h9 W' hW'
      rw [hkse, List.take_succ_cons, ndsSize, hx1, show b + (1 + ndsSize (r.take j)) + ndSize y - 1 = b + 1 + ndsSize (r.take j) + ndSize y - 1 by omega] at h10
      rw [show ko + 1 + j = ko + (j + 1) by omega]
      exact h10)
    rw [hl1.1] at this
    exact this
  have hm1 : 1 ≤ m := by rw [hm, hkse]; simp
  have hm1' : (1 : Int) ≤ (m : Int) := by omega
  have hkc2 : m ≤ kc := by omega
  have hkc1 : ¬ kc = 1 := by
    have : r.length ≠ 0 := fun h0 => hr0 (List.eq_nil_of_length_eq_zero h0)
    rw [hkse, List.length_cons] at hm
    omega
  have c0 := h.c0
  have hR : ckN rows (.mk 8 n p t ks) b s = ((useC rows b isGlo s).and (ckNs rows false r (b + 1))).and (lookC rows 8 i) := by
    rw [ckN, if_neg (by decide), ← hi, hkse]
    show (ckNs rows true _ b s).and _ = _
    rw [ckNs, if_pos rfl, hx1, show b + 1 - 1 = b by omega]
  obtain ⟨L, hL⟩ : ∃ L, L = s.sc.length := ⟨_, rfl⟩
  have HLK : Hid (∀ s1 s', useC rows b isGlo s = .ok s1 → ckNs rows false r (b + 1) s1 = .ok s' → ∀ W v' ms' cm', CPs w0 W (some ⟨g, 0, none⟩) c rows P v' ms' cm' s' → Calls Tryz.prog 91 #[.pointer (some ⟨P, 0, none⟩), .int .i64 (i : Int)] W fun e w' => PQ w0 (some ⟨g, 0, none⟩) c rows P L (lookC rows 8 i s') e w' ∧ KpC W w') := fun s1 s' hs1 hs' W v' ms' cm' hW => by
    rw [hL]
    have hg1 := use_ok hs1
    exact look_after hir (by rw [hrow]) ht hrl hok (hg1.trans (cks_ok r false (b + 1) s1 s' hfr hs' (hg1.ne hok.ne))) (by omega) (by omega) W v' ms' cm' hW
  rw [hR, ← hL]
  rw [← hL] at HUS HWA
  have HO := Hid.out (p := Hid _) ho
  have HKA := Hid.out (p := Hid _) (KpC.of_below hA)
  have hi' : (i : Int) < (rows.length : Int) := by omega
  have HNB : Hid (∀ W, KpC (w.alloc o) W → W.heap[w.heap.size]? = some o) := fun W hW => (hW.at' _ _ (heap_alloc_new w o) (by rw [ho]; exact badC_node _)).trans (heap_alloc_new w o)
  have y0 := HK0.out _ (h.below hA).low
  rw [ho] at y0
  clear hks hf h hok ht hb1 hb2 hlt hrow hi hir hn hcap hil hkc hm hA hR hL hkse hkb hff hfr hbl hksz hx1
  cases hck : useC rows b isGlo s with
  | error f =>
    rw [hck] at HUS
    clear hck
    go_enter Tryz.func65, Tryz.ntmps65
    go_wp2_with fail
    rw [← ho]
    refine Calls.mono HUS.out ?_
    rintro e w2 ⟨⟨rfl, hw⟩, hk2⟩
    exact ⟨rfl, ⟨rfl, hw⟩, HKA.out.trans hk2⟩
  | ok s1 =>
    rw [hck] at HUS
    have HW1 := Hid.out (p := Hid _) (HWA.out s1 hck)
    have HL1 := Hid.out (p := Hid _) (fun s' => HLK.out s1 s' hck)
    clear hck HWA HLK
    cases hcr : ckNs rows false r (b + 1) s1 with
    | error f =>
      rw [hcr] at HW1
      have HCR := Hid.out (p := Hid _) hcr
      clear hcr
      go_enter Tryz.func65, Tryz.ntmps65
      go_wp2_with fail
      rw [← ho]
      refine Calls.mono HUS.out ?_
      rintro e w2 ⟨⟨rfl, v2, ms2, cm2, hP2⟩, hk2⟩
      have hxb := HNB.out w2 hk2
      rw [HO.out] at hxb
      obtain ⟨e0, e1, e2, e3, e4, ef⟩ := box5 hxb
      have HLL : Hid (Calls Tryz.prog 90 #[.pointer (some ⟨P, 0, none⟩), .slice (some ⟨kb, ko + 1, none⟩) (m - 1) (kc - 1)] w2 fun e w' => PQ w0 (some ⟨g, 0, none⟩) c rows P L (.error f) e w' ∧ KpC w2 w') := HW1.out w2 v2 ms2 cm2 hP2
      have HK2 := Hid.out (p := Hid _) (HKA.out.trans hk2)
      clear hP2 hk2 hxb x0 x1 x2 x3 x4 c0 y0
      go_wp2_with fail
      refine Calls.mono HLL.out ?_
      rintro e w3 ⟨⟨rfl, hw⟩, hk3⟩
      refine ⟨rfl, ?_, HK2.out.trans hk3⟩
      show PQ _ _ _ _ _ _ ((ckNs rows false r (b + 1) s1).and (lookC rows 8 i)) _ _
      rw [HCR.out]
      exact ⟨rfl, hw⟩
    | ok s' =>
      rw [hcr] at HW1
      have HL2 := Hid.out (p := Hid _) (HL1.out s' hcr)
      have HCR := Hid.out (p := Hid _) hcr
      clear hcr HL1
      go_enter Tryz.func65, Tryz.ntmps65
      go_wp2_with fail
      rw [← ho]
      refine Calls.mono HUS.out ?_
      rintro e w2 ⟨⟨rfl, v2, ms2, cm2, hP2⟩, hk2⟩
      have hxb := HNB.out w2 hk2
      rw [HO.out] at hxb
      obtain ⟨e0, e1, e2, e3, e4, ef⟩ := box5 hxb
      have HLL : Hid (Calls Tryz.prog 90 #[.pointer (some ⟨P, 0, none⟩), .slice (some ⟨kb, ko + 1, none⟩) (m - 1) (kc - 1)] w2 fun e w' => PQ w0 (some ⟨g, 0, none⟩) c rows P L (.ok s') e w' ∧ KpC w2 w') := HW1.out w2 v2 ms2 cm2 hP2
      have HK2 := Hid.out (p := Hid _) (HKA.out.trans hk2)
      clear hP2 hk2 hxb x0 x1 x2 x3 x4 c0 y0
      go_wp2_with fail
      refine Calls.mono HLL.out ?_
      rintro e w3 ⟨⟨rfl, v3, ms3, cm3, hP3⟩, hk3⟩
      have HLL2 : Hid (Calls Tryz.prog 91 #[.pointer (some ⟨P, 0, none⟩), .int .i64 (i : Int)] w3 fun e w' => PQ w0 (some ⟨g, 0, none⟩) c rows P L (lookC rows 8 i s') e w' ∧ KpC w3 w') := HL2.out w3 v3 ms3 cm3 hP3
      have HK3 := Hid.out (p := Hid _) (HK2.out.trans hk3)
      clear hP3 hk3 e0 e1 e2 e3 e4 ef
      go_wp2_with fail
      refine Calls.mono HLL2.out ?_
      cases hq : lookC rows 8 i s' with
      | error f =>
        rintro e w4 ⟨⟨rfl, hw⟩, hk4⟩
        refine ⟨rfl, ?_, HK3.out.trans hk4⟩
        show PQ _ _ _ _ _ _ ((ckNs rows false r (b + 1) s1).and (lookC rows 8 i)) _ _
        rw [HCR.out]
        show PQ _ _ _ _ _ _ (lookC rows 8 i s') _ _
        rw [hq]
        exact ⟨rfl, hw⟩
      | ok s3 =>
        rintro e w4 ⟨⟨rfl, hw⟩, hk4⟩
        have HZ := Hid.out (p := Hid _) (And.intro hw hk4)
        clear hw hk4
        go_wp2_with fail
        go_end0
        refine ⟨?_, HK3.out.trans HZ.out.2⟩
        show PQ _ _ _ _ _ _ ((ckNs rows false r (b + 1) s1).and (lookC rows 8 i)) _ _
        rw [HCR.out]
        show PQ _ _ _ _ _ _ (lookC rows 8 i s') _ _
        rw [hq]
        exact ⟨rfl, HZ.out.1⟩
end
end

end Go.Proofs.YtggfbfjdiikaeaaGreatDoor
