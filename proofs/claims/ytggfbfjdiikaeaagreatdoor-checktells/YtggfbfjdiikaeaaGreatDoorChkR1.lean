/-
  The program's checker goes through every tree; a whole program.
  slices.Repeat of one number.
  The program's checker is made.
-/
import Derived.Test.YtggfbfjdiikaeaaGreatDoorChkD8
import Derived.Test.YtggfbfjdiikaeaaGreatDoorLexA9
import Derived.Test.YtggfbfjdiikaeaaGreatDoorShelf
import Derived.Laws.CopyRow
import Derived.Deep.OwnRows
import Derived.WalkKit
import Derived.WalkSpells
import Derived.WalkLawsBesides
import Derived.Lib.SmallJoins
namespace Go.Proofs.YtggfbfjdiikaeaaGreatDoor
section
open Go.RowKit

theorem wk_three {n p : Int} {t : List UInt8} {ks : List Nd} (h : Wk (.mk 8 n p t ks)) : 2 ≤ ks.length := by
  rcases h with h | h | h
  · unfold WfN at h
    rw [if_neg (by decide)] at h
    obtain ⟨rfl, hs, hks⟩ := h
    rcases hs with h | h | h | ⟨-, ht, b, c, hq, hb, hc⟩ | h | h | h | h | h
    · omega
    · omega
    · omega
    · obtain ⟨x, y, z, rfl, -⟩ := three_kids hq
      simp
    · omega
    · omega
    · omega
    · omega
    · omega
  · unfold WfG at h
    rcases h with ⟨h, _⟩ | ⟨h, _⟩ <;> omega
  · unfold WfT at h
    have := h.1
    omega
theorem cwalk_all {rows : List Row} : ∀ N x b, ndSize x ≤ N → Wk x → WkP rows x b
  | 0, x, _, hN, _ => by have := size_pos x; omega
  | N + 1, .mk k n p t ks, b, hN, hw => by
    obtain ⟨h1, h2⟩ := wk_kids hw
    have hsz : ndSize (.mk k n p t ks) = ndsSize ks + 1 := by rw [ndSize]
    have hk : ∀ j y, ks[j]? = some y → WkP rows y (b + ndsSize (ks.take j)) := fun j y hy => by
      have h3 := nds_take9 hy
      exact cwalk_all N y _ (by omega) (h1 y (List.mem_of_getElem? hy))
    by_cases h5 : k = 5
    · subst h5
      exact cwalk_block hk
    · by_cases h8 : k = 8
      · subst h8
        have h9 := wk_three hw
        obtain ⟨p', t', r, rfl⟩ := h2 rfl
        exact cwalk_cas (fun e => by rw [e] at h9; simp at h9) hk
      · exact cwalk_other h5 h8 hk
theorem cwalk_prog {ks : List Nd} (hw : ∀ x, x ∈ ks → WfG x ∨ WfT x) : WkP (rowsP ks) (.mk 1 0 0 [] ks) 0 :=
  cwalk_other (by decide) (by decide) fun j y hy => cwalk_all _ y _ (Nat.le_refl _) (Or.inr (hw y (List.mem_of_getElem? hy)))
/-- What a look at a whole program leaves. -/
def PgC (w0 : World) (a : Option Addr) (c : Nat) (ks : List Nd) (P : Nat) (R : Except (Int × Int) (List Int)) (e : Ending) (w' : World) : Prop := match R with
  | .error f => e = .panicked (badF f) ∧ Below w0.heap.size w0 w'
  | .ok us => e = .returned (.tuple #[]) ∧ ∃ v' ms' cm' s', s'.us = us ∧ CPs w0 w' a c (rowsP ks) P v' ms' cm' s'
set_option maxRecDepth 100000 in
set_option maxHeartbeats 3200000 in
theorem cprogram_any {ks : List Nd} {w0 w : World} {a : Option Addr} {c P : Nat} {v : Rk → Value} {ms : List Nat} {cm : Nat} (h : CPs w0 w a c (rowsP ks) P v ms cm (csN (rowsP ks).length)) (hw : WfP ks) (hsz : ndsSize ks + 1 ≤ 600) (ht : TxtOk (rowsP ks)) :
    Calls Tryz.prog 48 #[.pointer (some ⟨P, 0, none⟩)] w fun e w' => PgC w0 a c ks P (checkC ks) e w' := by
  have hrl : (rowsP ks).length = ndsSize ks + 1 := by unfold rowsP; rw [List.length_append, flats_len]; rfl
  have hok : CsOk (rowsP ks) (csN (rowsP ks).length) := csN_ok rfl
  have hx := cwalk_prog (wfp_mem9 hw) w0 w a c P v ms cm _ (fat_prog ks) h hok ht (by omega) (by show 1 + _ ≤ _; rw [ndSize]; omega) (by show 0 + _ ≤ _; rw [ndSize]; omega)
  rw [ckN_prog] at hx
  have hrow : (rowA (rowsP ks) (ndsSize ks)).pos = 0 := by
    have h9 := (fat_prog ks).rowA
    rw [Nat.zero_add] at h9
    rw [h9]
  obtain ⟨n, hn⟩ : ∃ n, n = (rowsP ks).length := ⟨_, rfl⟩
  have hpl : (0 + ndSize (.mk 1 0 0 [] ks) - 1 : Nat) = n - 1 := by rw [ndSize]; omega
  rw [hpl] at hx
  rw [show ndsSize ks = n - 1 by omega] at hrow
  have c0 := h.c0
  rw [← hn] at c0
  have hc1 : (n : Int) - 1 = ((n - 1 : Nat) : Int) := by omega
  have hn1 : n - 1 < (rowsP ks).length := by omega
  have hn6 : n ≤ 600 := by omega
  cases hck : ckNs (rowsP ks) false ks 0 (csN (rowsP ks).length) with
  | error f =>
    rw [hck] at hx
    have HX : Hid (Calls Tryz.prog 65 #[.pointer (some ⟨P, 0, none⟩), .int .i64 ((n - 1 : Nat) : Int)] w fun e w' => PQ w0 a c (rowsP ks) P (csN (rowsP ks).length).sc.length (.error f) e w' ∧ KpC w w') := hx
    rw [ckC_err hck]
    clear hx hck hpl hrow h hw ht hok hrl hn hsz hn1
    go_enter Tryz.func48, Tryz.ntmps48
    go_wp2_with fail
    refine Calls.mono HX.out ?_
    rintro e w2 ⟨⟨rfl, hw⟩, -⟩
    exact ⟨rfl, rfl, hw.low⟩
  | ok s' =>
    rw [hck] at hx
    have HX : Hid (Calls Tryz.prog 65 #[.pointer (some ⟨P, 0, none⟩), .int .i64 ((n - 1 : Nat) : Int)] w fun e w' => PQ w0 a c (rowsP ks) P (csN (rowsP ks).length).sc.length (.ok s') e w' ∧ KpC w w') := hx
    obtain ⟨q, hq⟩ : ∃ q : Nat, s'.cn 4 = q := ⟨_, rfl⟩
    have hcc := ckC_ok hck
    rw [hq] at hcc
    have HE := Hid.out (p := Hid _) hcc
    have HQ := Hid.out (p := Hid _) hq
    have HN1 := Hid.out (p := Hid _) (And.intro hn1 hrow)
    have hkey : keyOf Tryz.prog 3 (.int .i64 4) = some (.int .i64 4) := Maps.keyOf_int_mk Tryz.underlying3 (wf_nat9 (n := 4) (by omega))
    clear hx hck hcc hpl hrow h hw ht hok hrl hn hsz hn1 hq
    go_enter Tryz.func48, Tryz.ntmps48
    go_wp2_with fail
    refine Calls.mono HX.out ?_
    rintro e w2 ⟨⟨rfl, v2, ms2, cm2, hP⟩, -⟩
    obtain ⟨m, D, -, hown, hat⟩ := hP.cnt
    have HAT : Hid (D.atKey (.int .i64 4) (.lit (.int .i64 0)) = .lit (.int .i64 (q : Int))) := by
      show _ = _
      rw [hat 4 (by decide) (by decide), HQ.out]
    have HO := Hid.out (p := Hid _) hown
    have c3 := hP.c3
    have HP := Hid.out (p := Hid _) hP
    clear hP hown hat c0
    by_cases h4 : q = 0
    · have hb4 : ((q : Int) == 0) = true := by rw [h4]; rfl
      have HE2 : Hid (checkC ks = .error (1, 0)) := by
        show _ = _
        rw [HE.out, if_pos h4]
      have HFL : Hid (Calls Tryz.prog 66 #[.pointer (some ⟨P, 0, none⟩), .int .i64 1, .int .i64 ((n - 1 : Nat) : Int)] w2 fun e w' => e = .returned (.agg #[.int .i64 1, .int .i64 0, .int .i64 0]) ∧ Below w2.heap.size w2 w') := by
        have := cfault_any HP.out HN1.out.1 1
        rw [HN1.out.2] at this
        exact this
      clear h4
      go_wp2_with (at_lookup; refine wpList_lookup_own_int _ rfl _ _ 79 rfl 3 3 .i64 keyInt Tryz.underlying79 Tryz.underlying3 (zeroIntC _) cm2 m D rfl HO.out _ _ rfl hkey ?_; intro cx hatx hwx; have hcx : cx = (q : Int) := (by have := hatx.symm.trans HAT.out; simpa using this); clear hatx hwx; subst hcx)
      refine Calls.mono HFL.out ?_
      rintro e w3 ⟨rfl, hb3⟩
      have HB3 := Hid.out (p := Hid _) hb3
      clear hb3
      go_wp2_with fail
      rw [HE2.out]
      exact ⟨rfl, rfl, HP.out.low.trans (HB3.out.mono HP.out.low.size)⟩
    · have hb4 : ((q : Int) == 0) = false := by simpa using h4
      have HE2 : Hid (checkC ks = .ok s'.us) := by
        show _ = _
        rw [HE.out, if_neg h4]
      clear h4
      go_wp2_with (at_lookup; refine wpList_lookup_own_int _ rfl _ _ 79 rfl 3 3 .i64 keyInt Tryz.underlying79 Tryz.underlying3 (zeroIntC _) cm2 m D rfl HO.out _ _ rfl hkey ?_; intro cx hatx hwx; have hcx : cx = (q : Int) := (by have := hatx.symm.trans HAT.out; simpa using this); clear hatx hwx; subst hcx)
      go_end0
      rw [HE2.out]
      exact ⟨rfl, _, _, _, s', rfl, HP.out⟩
end

section
open Go.RowKit

def CpS9 (ts : Array TypeId) (ty : TypeId) (args : Array Value) : Sem Value := Builtin.copy_ ts ty args
theorem cpS9_eq (ts : Array TypeId) (ty : TypeId) (args : Array Value) : Builtin.copy_ ts ty args = CpS9 ts ty args := rfl
theorem sizeI9 : (Tryz.prog.info? 3).map (·.size) = some 1 := by kernel_rfl
theorem iV_one (l : List Int) : ∀ u ∈ iV l, u.oneCell' = true := fun u hu => by
  simp only [iV, List.mem_map] at hu
  obtain ⟨x, _, rfl⟩ := hu
  rfl
/-- The first j of k are there. -/
def repV (j k : Nat) : List Value := iV (List.replicate j (-1) ++ List.replicate (k - j) 0)
theorem repV_len {j k : Nat} (h : j ≤ k) : (repV j k).length = k := by simp [repV, iV_len]; omega
theorem heap_setR {w : World} {g : Nat} {c d : Array Value} {t : TypeId} (h : w.heap[g]? = some (.cells c t (0, 0))) : (w.setRow g d).heap[g]? = some (.cells d t (0, 0)) := by
  unfold World.setRow
  simp only [Array.getElem?_modify, if_true, h, Option.map_some]
theorem heap_setR_ne {w : World} {g k : Nat} {d : Array Value} (h : k ≠ g) : (w.setRow g d).heap[k]? = w.heap[k]? := by
  unfold World.setRow
  simp only [Array.getElem?_modify]
  rw [if_neg (fun e => h e.symm)]
theorem repV_copy {j k c : Nat} (_hj : j ≤ k) (_hc : c ≤ k - j) : ((repV j k).take j ++ iV (List.replicate c (-1)) ++ (repV j k).drop (j + c)) = repV (j + c) k := by
  have e : repV j k = iV (List.replicate j (-1)) ++ iV (List.replicate (k - j) 0) := by simp [repV, iV]
  rw [e, List.take_append_of_le_length (by simp [iV_len]), List.take_of_length_le (by simp [iV_len]), List.drop_append, List.drop_of_length_le (by simp [iV_len])]
  simp only [iV_len, List.length_replicate, List.nil_append]
  rw [show j + c - j = c by omega]
  simp only [repV, iV, List.map_append, List.map_replicate, List.drop_replicate, List.replicate_append_replicate]
  rw [show k - j - c = k - (j + c) by omega]
attribute [local go_sem ↓] cpS9_eq
set_option maxRecDepth 100000 in
set_option maxHeartbeats 3200000 in
theorem repeat9 (w : World) (xb k : Nat) (hx : w.cell? ⟨xb, 0, none⟩ = some (.int .i64 (-1))) (hk : k ≤ 1000) :
    Calls Tryz.prog 64 #[.slice (some ⟨xb, 0, none⟩) 1 1, .int .i64 (k : Int)] w fun e w' => e = .returned (.slice (some ⟨w.heap.size, 0, none⟩) k k) ∧ w'.heap[w.heap.size]? = some (.cells (iV (List.replicate k (-1))).toArray 3 (0, 0)) ∧ Below w.heap.size w w' := by
  have hmk := fun W => run_make_row' (P := Tryz.prog) 22 3 (.int .i64 0) 8 Tryz.underlying22 infoIntC rfl .i64 .i64 k (by omega) (by omega) W
  have hlx := lt_of_cell hx
  obtain ⟨W1, hW1⟩ : ∃ W, W = w.alloc (.cells (madeCells #[.int .i64 0] k) 3) := ⟨_, rfl⟩
  have hh1 : W1.heap[w.heap.size]? = some (.cells (repV 0 k).toArray 3 (0, 0)) := by
    rw [hW1, heap_alloc_new]
    have : madeCells #[Value.int .i64 0] k = (repV 0 k).toArray := by
      rw [← Array.toList_inj, made_ints9]
      simp [repV, iV]
    rw [this]
  have hx1 : W1.cell? ⟨xb, 0, none⟩ = some (.int .i64 (-1)) := by rw [hW1]; exact cell_up hx _
  have hc1 := run_copy_row (P := Tryz.prog) W1 22 22 3 3 w.heap.size 0 k k ⟨xb, 0, none⟩ 1 1 (repV 0 k).toArray 3 (iV (List.replicate (min 1 k) (-1))) Tryz.underlying22 sizeI9 hh1 (by simp [iV_len, Nat.min_def]) (fun j u hu => by
    have hj : j = 0 := by
      rcases Nat.lt_or_ge j (min 1 k) with h | h
      · omega
      · rw [List.getElem?_eq_none (by simp [iV_len]; omega)] at hu; cases hu
    subst hj
    have hu' : u = .int .i64 (-1) := by
      simp only [iV, List.map_replicate, List.getElem?_replicate] at hu
      split at hu
      · simpa using hu.symm
      · cases hu
    rw [hu']
    exact hx1) (by simp [iV_len, repV_len (Nat.zero_le k)]; omega) (iV_one _)
  obtain ⟨W2, hW2⟩ : ∃ W, W = W1.setRow w.heap.size ((repV 0 k).toArray.toList.take 0 ++ iV (List.replicate (min 1 k) (-1)) ++ (repV 0 k).toArray.toList.drop (0 + (iV (List.replicate (min 1 k) (-1))).length)).toArray := ⟨_, rfl⟩
  rw [← hW2] at hc1
  have hh2 : W2.heap[w.heap.size]? = some (.cells (repV (min 1 k) k).toArray 3 (0, 0)) := by
    rw [hW2, heap_setR hh1]
    have := repV_copy (j := 0) (k := k) (c := min 1 k) (Nat.zero_le _) (by omega)
    simp only [iV_len, List.length_replicate]
    rw [Nat.zero_add] at this ⊢
    rw [← this]
  have hb2 : Below w.heap.size w W2 := by
    rw [hW2, hW1]
    exact ⟨rfl, rfl, rfl, by simp [World.setRow], fun j hj => by rw [heap_setR_ne (by omega), Below.heap_alloc _ _ _ hj]⟩
  have hcl : (iV (List.replicate (min 1 k) (-1))).length = min 1 k := by simp [iV_len]
  rw [hcl, hW1] at hc1
  have hrun1 : (CpS9 #[22, 22] 3 #[.slice (some ⟨w.heap.size, 0, none⟩) k k, .slice (some ⟨xb, 0, none⟩) 1 1]).run Tryz.prog (w.alloc (.cells (madeCells #[.int .i64 0] k) 3)) = .ok (.int .i64 ((min 1 k : Nat) : Int)) W2 := hc1
  have HRND : Hid (∀ wr j, 1 ≤ j → j < k → wr.heap[w.heap.size]? = some (.cells (repV j k).toArray 3 (0, 0)) → Below w.heap.size w wr → ∃ W3, (CpS9 #[22, 22] 3 #[.slice (some ⟨w.heap.size, j, none⟩) (k - j) (k - j), .slice (some ⟨w.heap.size, 0, none⟩) j k]).run Tryz.prog wr.drew = .ok (.int .i64 ((min j (k - j) : Nat) : Int)) W3 ∧ W3.heap[w.heap.size]? = some (.cells (repV (j + min j (k - j)) k).toArray 3 (0, 0)) ∧ Below w.heap.size w W3) := fun wr j h1 hj hh hb => by
    have hh' : wr.drew.heap[w.heap.size]? = some (.cells (repV j k).toArray 3 (0, 0)) := hh
    have hc := run_copy_row (P := Tryz.prog) wr.drew 22 22 3 3 w.heap.size j (k - j) (k - j) ⟨w.heap.size, 0, none⟩ j k (repV j k).toArray 3 (iV (List.replicate (min j (k - j)) (-1))) Tryz.underlying22 sizeI9 hh' (by simp [iV_len, Nat.min_def]) (fun p u hu => by
      have hp : p < min j (k - j) := by
        rcases Nat.lt_or_ge p (min j (k - j)) with h | h
        · exact h
        · rw [List.getElem?_eq_none (by simp [iV_len]; omega)] at hu; cases hu
      have hu' : u = .int .i64 (-1) := by
        simp only [iV, List.map_replicate, List.getElem?_replicate, if_pos hp] at hu
        simpa using hu.symm
      have hadd : (⟨w.heap.size, 0, none⟩ : Addr).add p = ⟨w.heap.size, p, none⟩ := by unfold Addr.add; split <;> simp_all
      rw [hu', hadd, cell_of_row _ _ _ _ _ _ hh']
      have : p < j := by omega
      simp [repV, iV, List.getElem?_append, this]) (by simp [iV_len, repV_len (Nat.le_of_lt hj)]; omega) (iV_one _)
    have hcl2 : (iV (List.replicate (min j (k - j)) (-1))).length = min j (k - j) := by simp [iV_len]
    rw [hcl2] at hc
    refine ⟨_, hc, ?_, ?_⟩
    · rw [heap_setR hh']
      have := repV_copy (j := j) (k := k) (c := min j (k - j)) (by omega) (by omega)
      rw [← this]
    · exact ⟨hb.os, hb.tape, hb.output, by simp [World.setRow]; exact hb.size, fun p hp => by rw [heap_setR_ne (by omega)]; exact hb.block p hp⟩
  have HFIN : Hid (repV k k = iV (List.replicate k (-1))) := by show _ = _; simp [repV]
  have HML : Hid (Calls Tryz.prog 87 #[.int .u64 1, .int .u64 (k : Int)] w fun e w' => e = .returned (.tuple #[.int .u64 0, .int .u64 (k : Int)]) ∧ w' = w) := by
    have := Tryz.bits_Mul 1 k (by omega) (by omega) w
    rw [Nat.one_mul, Nat.div_eq_of_lt (by omega), Nat.mod_eq_of_lt (by omega)] at this
    exact this
  clear hc1 hW2 hW1 hh1 hx1 hcl
  go_enter Tryz.func64, Tryz.ntmps64
  go_wp2_with fail
  refine Calls.mono HML.out ?_
  rintro e w1 ⟨rfl, rfl⟩
  go_wp2_with fail
  go_loopw [8] (fun nv wr => ∃ j : Nat, j ≤ k ∧ (0 < k → 1 ≤ j) ∧ nv = .int .i64 j ∧ Hid (wr.heap[w1.heap.size]? = some (.cells (repV j k).toArray 3 (0, 0)) ∧ Below w1.heap.size w1 wr)) (fun nv _ => k - (intOf nv).toNat)
  case atStart => exact ⟨min 1 k, by omega, by omega, rfl, hh2, hb2⟩
  case round =>
    obtain ⟨j, hj, hj1, rfl, HJ⟩ := hrel
    by_cases hlt : j < k
    · obtain ⟨W3, hrun3, h3, h4⟩ := HRND.out wr j (by omega) hlt HJ.out.1 HJ.out.2
      have HN := Hid.out (p := Hid _) (And.intro h3 h4)
      clear h3 h4
      go_wp2
      go_region
      all_goals go_wp2
      all_goals go_roundw
      case rel => exact ⟨j + min j (k - j), by omega, by omega, by go_num, HN⟩
      case measure => simp [intOf]; omega
    · obtain rfl : j = k := by omega
      go_wp2
      go_ret
      exact ⟨rfl, by rw [← HFIN.out]; exact HJ.out.1, HJ.out.2⟩
end

section
open Go.RowKit

theorem mkCnt (w : World) : (Instr.makeMap 79 none).run Tryz.prog w = .ok (.map (some w.heap.size)) (w.alloc (.map #[] 0)) := by kernel_rfl
theorem own_full {w : World} {B b : Nat} {e : TypeId} {xs : List Value} (hB : B ≤ b) (h1 : xs.length ≤ 1000) (h : w.heap[b]? = some (.cells xs.toArray e)) : w.ownsRow B e 1 (.slice (some ⟨b, 0, none⟩) xs.length xs.length) xs.length xs := by
  refine ⟨by simp, Or.inr ⟨b, xs.length, xs.toArray, rfl, hB, h, Nat.le_refl _, by unfold maxLen; omega, by simp, by simp⟩⟩
/-- The checker at its beginning. -/
theorem CPs.first {w w2 : World} {a : Option Addr} {c g : Nat} {rows : List Row} (hr : NdsR w a rows) (hn : rows.length ≤ 1000) (hg : w.heap.size ≤ g) (h2 : w2.heap[g]? = some (.cells (iV (List.replicate rows.length (-1))).toArray 3)) (hb2 : Below w.heap.size w w2) :
    ∃ v, CPs w ((((w2.alloc (.map #[] 0)).alloc (.cells #[.map (some w2.heap.size)] 114)).alloc (.map #[] 0)).alloc (.cells #[.slice a rows.length c, .slice (some ⟨g, 0, none⟩) rows.length rows.length, .slice (some ⟨w2.heap.size + 1, 0, none⟩) 1 1, .map (some (w2.heap.size + 1 + 1))] 94)) a c rows (w2.heap.size + 1 + 1 + 1) v [w2.heap.size] (w2.heap.size + 1 + 1) (csN rows.length) := by
  have hgl := heap_ltD h2
  have hs2 := hb2.size
  obtain ⟨A, hA⟩ : ∃ A, A = w2.alloc (.map #[] 0) := ⟨_, rfl⟩
  have hAs : A.heap.size = w2.heap.size + 1 := by rw [hA]; simp
  have hA0 : A.heap[w2.heap.size]? = some (.map #[] 0) := by rw [hA]; exact World.alloc_heap_new w2 _
  have hA1 : Below w2.heap.size w2 A := by rw [hA]; exact (Below.refl _ _).alloc (Nat.le_refl _) _
  have hmA := World.ownsMap_made (H := Unit) w2 Tryz.prog 9 (plainElem (H := Unit) Tryz.prog 3)
  rw [← hA] at hmA ⊢
  obtain ⟨S, hS⟩ : ∃ S, S = A.alloc (.cells #[.map (some w2.heap.size)] 114) := ⟨_, rfl⟩
  have hSs : S.heap.size = w2.heap.size + 1 + 1 := by rw [hS]; simp [hAs]
  have hS0 : S.heap[w2.heap.size + 1]? = some (.cells #[.map (some w2.heap.size)] 114) := by rw [hS, ← hAs]; exact heap_alloc_new A _
  have hS1 : Below A.heap.size A S := by rw [hS]; exact (Below.refl _ _).alloc (Nat.le_refl _) _
  rw [← hS]
  obtain ⟨C, hC⟩ : ∃ C, C = S.alloc (.map #[] 0) := ⟨_, rfl⟩
  have hCs : C.heap.size = w2.heap.size + 1 + 1 + 1 := by rw [hC]; simp [hSs]
  have hC1 : Below S.heap.size S C := by rw [hC]; exact (Below.refl _ _).alloc (Nat.le_refl _) _
  have hmC := World.ownsMap_made (H := Unit) S Tryz.prog 3 (plainElem (H := Unit) Tryz.prog 3)
  rw [← hC, hSs] at hmC
  rw [← hC]
  obtain ⟨X, hX⟩ : ∃ X, X = C.alloc (.cells #[.slice a rows.length c, .slice (some ⟨g, 0, none⟩) rows.length rows.length, .slice (some ⟨w2.heap.size + 1, 0, none⟩) 1 1, .map (some (w2.heap.size + 1 + 1))] 94) := ⟨_, rfl⟩
  have hX0 : X.heap[w2.heap.size + 1 + 1 + 1]? = some (.cells #[.slice a rows.length c, .slice (some ⟨g, 0, none⟩) rows.length rows.length, .slice (some ⟨w2.heap.size + 1, 0, none⟩) 1 1, .map (some (w2.heap.size + 1 + 1))] 94) := by rw [hX, ← hCs]; exact heap_alloc_new C _
  have hX1 : Below C.heap.size C X := by rw [hX]; exact (Below.refl _ _).alloc (Nat.le_refl _) _
  rw [← hX]
  have bSX : Below S.heap.size S X := hC1.trans (hX1.mono (by omega))
  have bAX : Below A.heap.size A X := hS1.trans (bSX.mono (by omega))
  have b2X : Below w2.heap.size w2 X := hA1.trans (bAX.mono (by omega))
  clear hA hS hC hX
  have hil : (iV (List.replicate rows.length (-1))).length = rows.length := by simp [iV_len]
  refine ⟨fun r => match r with
    | .box => boxV (w2.heap.size + 1 + 1 + 1)
    | .ow => .slice (some ⟨g, 0, none⟩) rows.length rows.length
    | .sc => .slice (some ⟨w2.heap.size + 1, 0, none⟩) 1 1, ⟨⟨fun r => ?_, fun r q b h3 h4 => ?_⟩, rfl, hb2.trans (b2X.mono hs2), hr, rfl, fun j S' b h3 h4 => ?_, ?_, fun b hb => ?_, ?_⟩⟩
  · cases r with
    | box => exact fam_box (by omega) hX0
    | ow =>
      have := own_full (B := w.heap.size) hg (by rw [hil]; exact hn) ((b2X.block g hgl).trans h2)
      rw [hil] at this
      show X.ownsRow _ _ 1 _ (csN rows.length).us.length (iV (csN rows.length).us)
      have e : (csN rows.length).us = List.replicate rows.length (-1) := rfl
      rw [e, List.length_replicate]
      exact this
    | sc => exact fam_box (by omega) ((bSX.block _ (by omega)).trans hS0)
  · cases r <;> cases q <;> simp only [Value.ownBlock, Option.some.injEq] at h3 h4 <;> first | rfl | omega
  · cases j with
    | zero =>
      have e1 : S' = [] := by simpa [csN] using h3.symm
      have e2 : b = w2.heap.size := by simpa using h4.symm
      subst e1 e2
      refine ⟨0, .map [], Nat.le_refl _, ownsMap_keep hmA (bAX.block _ (by omega)), fun t => ?_, fun d hd => by cases hd⟩
      constructor
      · intro h9
        simp [Maps.has] at h9
      · rintro ⟨d, hd, _⟩
        cases hd
    | succ j => simp [csN] at h3
  · refine ⟨0, .map [], Nat.zero_le _, ownsMap_keep hmC (hX1.block _ (by omega)), fun k _ _ => rfl⟩
  · have hb' : b = w2.heap.size + 1 + 1 ∨ b = w2.heap.size := by simpa using hb
    omega
  · simp
    omega
set_option maxRecDepth 100000 in
set_option maxHeartbeats 3200000 in
theorem cnew_any {w : World} {a : Option Addr} {c : Nat} {rows : List Row} (hr : NdsR w a rows) (hn : rows.length ≤ 1000) :
    Calls Tryz.prog 47 #[.slice a rows.length c] w fun e w' => ∃ P v ms cm, e = .returned (.pointer (some ⟨P, 0, none⟩)) ∧ CPs w w' a c rows P v ms cm (csN rows.length) := by
  have hm1 := mkScp
  have hm2 := mkCnt
  obtain ⟨n, hnn⟩ : ∃ n, n = rows.length := ⟨_, rfl⟩
  have hA := (Below.refl w.heap.size w).alloc (Nat.le_refl _) (.cells #[.int .i64 (-1)] 3)
  have HRP : Hid (Calls Tryz.prog 64 #[.slice (some ⟨w.heap.size, 0, none⟩) 1 1, .int .i64 (n : Int)] (w.alloc (.cells #[.int .i64 (-1)] 3)) fun e w' => e = .returned (.slice (some ⟨w.heap.size + 1, 0, none⟩) n n) ∧ w'.heap[w.heap.size + 1]? = some (.cells (iV (List.replicate n (-1))).toArray 3 (0, 0)) ∧ Below w.heap.size w w') := by
    refine (repeat9 (w.alloc (.cells #[.int .i64 (-1)] 3)) w.heap.size n (box_cell (heap_alloc_new w _) rfl) (by omega)).mono ?_
    rintro e w' ⟨h1, h2, h3⟩
    rw [World.size_alloc] at h1 h2
    exact ⟨h1, h2, hA.trans (h3.mono (by simp))⟩
  have HF : Hid (∀ W2 : World, W2.heap[w.heap.size + 1]? = some (.cells (iV (List.replicate n (-1))).toArray 3 (0, 0)) → Below w.heap.size w W2 → ∃ v, CPs w ((((W2.alloc (.map #[] 0)).alloc (.cells #[.map (some W2.heap.size)] 114)).alloc (.map #[] 0)).alloc (.cells #[.slice a n c, .slice (some ⟨w.heap.size + 1, 0, none⟩) n n, .slice (some ⟨W2.heap.size + 1, 0, none⟩) 1 1, .map (some (W2.heap.size + 1 + 1))] 94)) a c rows (W2.heap.size + 1 + 1 + 1) v [W2.heap.size] (W2.heap.size + 1 + 1) (csN rows.length)) := fun W2 h1 h2 => by
    rw [hnn] at h1 ⊢
    exact CPs.first hr hn (by omega) h1 h2
  rw [← hnn]
  rw [← hnn] at HF
  clear hr hn hA hnn
  go_enter Tryz.func47, Tryz.ntmps47
  go_wp2_with fail
  refine Calls.mono HRP.out ?_
  rintro e w2 ⟨rfl, h2, hb2⟩
  have HZ : Hid (∃ v, CPs w ((((w2.alloc (.map #[] 0)).alloc (.cells #[.map (some w2.heap.size)] 114)).alloc (.map #[] 0)).alloc (.cells #[.slice a n c, .slice (some ⟨w.heap.size + 1, 0, none⟩) n n, .slice (some ⟨w2.heap.size + 1, 0, none⟩) 1 1, .map (some (w2.heap.size + 1 + 1))] 94)) a c rows (w2.heap.size + 1 + 1 + 1) v [w2.heap.size] (w2.heap.size + 1 + 1) (csN n)) := HF.out w2 h2 hb2
  clear h2 hb2 HF HRP
  go_wp2_with fail
  obtain ⟨v, hv⟩ := HZ.out
  refine bodyPost_ret (v := .pointer (some ⟨w2.heap.size + 1 + 1 + 1, 0, none⟩)) (by simp [results, Tryz.results47, go_sem]) rfl ⟨_, v, _, _, rfl, hv⟩
end

end Go.Proofs.YtggfbfjdiikaeaaGreatDoor
