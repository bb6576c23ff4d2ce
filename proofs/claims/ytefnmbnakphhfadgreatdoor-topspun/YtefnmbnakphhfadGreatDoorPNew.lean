/-
  The program's memory ahead of the first step: copies of lists, one number again and again.
  The program's plain memory ahead of the first step.
  The plain memory is a memory: its methods do what the program asks of one.
-/
import Derived.Test.YtefnmbnakphhfadGreatDoorRLk
import Derived.Test.YtefnmbnakphhfadGreatDoorTruth
import Derived.Test.YtefnmbnakphhfadGreatDoorDSt
import Derived.Test.YtefnmbnakphhfadGreatDoorPBegin
namespace Go.Proofs.YtefnmbnakphhfadGreatDoor
section
open Go.RowKit

attribute [local go_sem ↓] appS_eq
set_option maxRecDepth 100000 in
set_option maxHeartbeats 1600000 in
theorem words_any (w : World) (B : Nat) (Q : Cd) (sb mb : Nat) (v : Rp → Value) (s : Sx) (hs : QSt w B Q sb mb v s) (hm : s.words.length ≤ 64) :
    Calls Tryz.prog 146 #[.pointer (some ⟨mb, 0, none⟩)] w fun e w' => ∃ a cap, e = .returned (.slice a s.words.length cap) ∧ w'.ownsRow w.heap.size 3 1 (.slice a s.words.length cap) s.words.length (intsV s.words) ∧ Below w.heap.size w w' := by
  obtain ⟨a, c, hv⟩ := hs.form .words
  change v .words = .slice a s.words.length c at hv
  have k0 := hs.m0
  rw [hv] at k0
  have hown := hs.fam.own .words
  have hsi : SIs w a s.words := fun i hi => by
    obtain ⟨g, cap, h1, h2, _, _⟩ := fam_block hown (by show 0 < s.words.length; omega)
    rw [hv] at h1
    simp only [Value.slice.injEq] at h1
    exact ⟨g, 0, h1.1, by simpa using hs.word h2 hi⟩
  have hnil : a = none → s.words = [] ∧ c = 0 := fun h0 => by
    subst h0
    rw [hv] at hown
    rcases hown.2 with ⟨h1, h2⟩ | ⟨g, cap, cur, h1, _⟩
    · simp only [Value.slice.injEq, true_and] at h1
      exact ⟨List.eq_nil_of_length_eq_zero h1.1, h1.2⟩
    · simp at h1
  have HC := Hid.out (p := Hid _) (clone_any w a s.words c hsi hnil (by omega))
  obtain ⟨m, hmm⟩ : ∃ m, s.words.length = m := ⟨_, rfl⟩
  rw [hmm] at k0 hm HC ⊢
  clear hs hv hown hsi hnil hmm
  go_enter Tryz.func146, Tryz.ntmps146
  go_wp2_with fail
  refine Calls.mono HC.out ?_
  rintro e w1 ⟨g, cap, rfl, h1, h2⟩
  go_wp2_with fail
  go_ret
  exact ⟨g, cap, rfl, h1, h2⟩

/-- A copy's run, kept whole. -/
def CpS (ts : Array TypeId) (ty : TypeId) (args : Array Value) : Sem Value := Builtin.copy_ ts ty args
theorem cpS_eq (ts : Array TypeId) (ty : TypeId) (args : Array Value) : Builtin.copy_ ts ty args = CpS ts ty args := rfl
theorem sizeI : (Tryz.prog.info? 3).map (·.size) = some 1 := by kernel_rfl
/-- The first j of k are there. -/
def repL (j k : Nat) : List Value := intsV (List.replicate j (-1) ++ List.replicate (k - j) 0)
theorem repL_len {j k : Nat} (h : j ≤ k) : (repL j k).length = k := by simp [repL, intsV_len]; omega
theorem heap_setRow {w : World} {g : Nat} {c d : Array Value} {t : TypeId} (h : w.heap[g]? = some (.cells c t (0, 0))) : (w.setRow g d).heap[g]? = some (.cells d t (0, 0)) := by
  unfold World.setRow
  simp only [Array.getElem?_modify, if_true, h, Option.map_some]
theorem heap_setRow_ne {w : World} {g k : Nat} {d : Array Value} (h : k ≠ g) : (w.setRow g d).heap[k]? = w.heap[k]? := by
  unfold World.setRow
  simp only [Array.getElem?_modify]
  rw [if_neg (fun e => h e.symm)]
theorem repL_copy {j k c : Nat} (_hj : j ≤ k) (_hc : c ≤ k - j) : ((repL j k).take j ++ intsV (List.replicate c (-1)) ++ (repL j k).drop (j + c)) = repL (j + c) k := by
  have e : repL j k = intsV (List.replicate j (-1)) ++ intsV (List.replicate (k - j) 0) := by simp [repL, intsV]
  rw [e, List.take_append_of_le_length (by simp [intsV_len]), List.take_of_length_le (by simp [intsV_len]), List.drop_append, List.drop_of_length_le (by simp [intsV_len])]
  simp only [intsV_len, List.length_replicate, List.nil_append]
  rw [show j + c - j = c by omega]
  simp only [repL, intsV, List.map_append, List.map_replicate, List.drop_replicate, List.replicate_append_replicate]
  rw [show k - j - c = k - (j + c) by omega]

theorem mul64_lit (k : Nat) (hk : k ≤ 4) (w : World) : Calls Tryz.prog 94 #[.int .u64 1, .int .u64 (k : Int)] w fun e w' => e = .returned (.tuple #[.int .u64 0, .int .u64 (k : Int)]) ∧ w = w' := by
  rcases (by omega : k = 0 ∨ k = 1 ∨ k = 2 ∨ k = 3 ∨ k = 4) with rfl | rfl | rfl | rfl | rfl
  all_goals
    go_enter Tryz.func94, Tryz.ntmps94
    go_wp2
    go_ret2
    exact ⟨rfl, rfl⟩

theorem mul_lit (k : Nat) (hk : k ≤ 4) (w : World) : Calls Tryz.prog 75 #[.int .u64 1, .int .u64 (k : Int)] w fun e w' => e = .returned (.tuple #[.int .u64 0, .int .u64 (k : Int)]) ∧ w = w' := by
  go_enter Tryz.func75, Tryz.ntmps75
  go_wp2_with fail
  refine (mul64_lit k hk w).mono ?_
  rintro e w1 ⟨rfl, rfl⟩
  go_wp2_with fail
  go_ret2
  exact ⟨rfl, rfl⟩

attribute [local go_sem ↓] cpS_eq
set_option maxRecDepth 100000 in
set_option maxHeartbeats 3200000 in
theorem repeat_any (w : World) (xb k : Nat) (hx : w.cell? ⟨xb, 0, none⟩ = some (.int .i64 (-1))) (hk : k ≤ 4) :
    Calls Tryz.prog 60 #[.slice (some ⟨xb, 0, none⟩) 1 1, .int .i64 (k : Int)] w fun e w' => e = .returned (.slice (some ⟨w.heap.size, 0, none⟩) k k) ∧ w'.heap[w.heap.size]? = some (.cells (intsV (List.replicate k (-1))).toArray 3 (0, 0)) ∧ Below w.heap.size w w' := by
  have hmk := fun W => run_make_row' (P := Tryz.prog) 23 3 (.int .i64 0) 8 Tryz.underlying23 infoI rfl .i64 .i64 k (by omega) (by omega) W
  have hlx := lt_of_cell hx
  obtain ⟨W1, hW1⟩ : ∃ W, W = w.alloc (.cells (madeCells #[.int .i64 0] k) 3) := ⟨_, rfl⟩
  have hh1 : W1.heap[w.heap.size]? = some (.cells (repL 0 k).toArray 3 (0, 0)) := by
    rw [hW1, heap_alloc_new, made_ints]; simp [repL]
  have hx1 : W1.cell? ⟨xb, 0, none⟩ = some (.int .i64 (-1)) := by rw [hW1]; exact cell_up hx _
  have hc1 := run_copy_row (P := Tryz.prog) W1 23 23 3 3 w.heap.size 0 k k ⟨xb, 0, none⟩ 1 1 (repL 0 k).toArray 3 (intsV (List.replicate (min 1 k) (-1))) Tryz.underlying23 sizeI hh1 (by simp [intsV_len, Nat.min_def]) (fun j u hu => by
    have hj : j = 0 := by
      rcases Nat.lt_or_ge j (min 1 k) with h | h
      · omega
      · rw [List.getElem?_eq_none (by simp [intsV_len]; omega)] at hu; cases hu
    subst hj
    have hu' : u = .int .i64 (-1) := by
      simp only [intsV, List.map_replicate, List.getElem?_replicate] at hu
      split at hu
      · simpa using hu.symm
      · cases hu
    rw [hu']
    exact hx1) (by simp [intsV_len, repL_len (Nat.zero_le k)]; omega) (intsV_one _)
  obtain ⟨W2, hW2⟩ : ∃ W, W = W1.setRow w.heap.size ((repL 0 k).toArray.toList.take 0 ++ intsV (List.replicate (min 1 k) (-1)) ++ (repL 0 k).toArray.toList.drop (0 + (intsV (List.replicate (min 1 k) (-1))).length)).toArray := ⟨_, rfl⟩
  rw [← hW2] at hc1
  have hh2 : W2.heap[w.heap.size]? = some (.cells (repL (min 1 k) k).toArray 3 (0, 0)) := by
    rw [hW2, heap_setRow hh1]
    have := repL_copy (j := 0) (k := k) (c := min 1 k) (Nat.zero_le _) (by omega)
    simp only [intsV_len, List.length_replicate]
    rw [Nat.zero_add] at this ⊢
    rw [← this]
  have hb2 : Below w.heap.size w W2 := by
    rw [hW2, hW1]
    exact ⟨rfl, rfl, rfl, by simp [World.setRow], fun j hj => by rw [heap_setRow_ne (by omega), Below.heap_alloc _ _ _ hj]⟩
  have hcl : (intsV (List.replicate (min 1 k) (-1))).length = min 1 k := by simp [intsV_len]
  rw [hcl, hW1] at hc1
  have hrun1 : (CpS #[23, 23] 3 #[.slice (some ⟨w.heap.size, 0, none⟩) k k, .slice (some ⟨xb, 0, none⟩) 1 1]).run Tryz.prog (w.alloc (.cells (madeCells #[.int .i64 0] k) 3)) = .ok (.int .i64 ((min 1 k : Nat) : Int)) W2 := hc1
  have HRND : Hid (∀ wr j, 1 ≤ j → j < k → wr.heap[w.heap.size]? = some (.cells (repL j k).toArray 3 (0, 0)) → Below w.heap.size w wr → ∃ W3, (CpS #[23, 23] 3 #[.slice (some ⟨w.heap.size, j, none⟩) (k - j) (k - j), .slice (some ⟨w.heap.size, 0, none⟩) j k]).run Tryz.prog wr.drew = .ok (.int .i64 ((min j (k - j) : Nat) : Int)) W3 ∧ W3.heap[w.heap.size]? = some (.cells (repL (j + min j (k - j)) k).toArray 3 (0, 0)) ∧ Below w.heap.size w W3) := fun wr j h1 hj hh hb => by
    have hh' : wr.drew.heap[w.heap.size]? = some (.cells (repL j k).toArray 3 (0, 0)) := hh
    have hc := run_copy_row (P := Tryz.prog) wr.drew 23 23 3 3 w.heap.size j (k - j) (k - j) ⟨w.heap.size, 0, none⟩ j k (repL j k).toArray 3 (intsV (List.replicate (min j (k - j)) (-1))) Tryz.underlying23 sizeI hh' (by simp [intsV_len, Nat.min_def]) (fun p u hu => by
      have hp : p < min j (k - j) := by
        rcases Nat.lt_or_ge p (min j (k - j)) with h | h
        · exact h
        · rw [List.getElem?_eq_none (by simp [intsV_len]; omega)] at hu; cases hu
      have hu' : u = .int .i64 (-1) := by
        simp only [intsV, List.map_replicate, List.getElem?_replicate, if_pos hp] at hu
        simpa using hu.symm
      have hadd : (⟨w.heap.size, 0, none⟩ : Addr).add p = ⟨w.heap.size, p, none⟩ := by unfold Addr.add; split <;> simp_all
      rw [hu', hadd, cell_of_row _ _ _ _ _ _ hh']
      have : p < j := by omega
      simp [repL, intsV, List.getElem?_append, this]) (by simp [intsV_len, repL_len (Nat.le_of_lt hj)]; omega) (intsV_one _)
    have hcl2 : (intsV (List.replicate (min j (k - j)) (-1))).length = min j (k - j) := by simp [intsV_len]
    rw [hcl2] at hc
    refine ⟨_, hc, ?_, ?_⟩
    · rw [heap_setRow hh']
      have := repL_copy (j := j) (k := k) (c := min j (k - j)) (by omega) (by omega)
      rw [← this]
    · exact ⟨hb.os, hb.tape, hb.output, by simp [World.setRow]; exact hb.size, fun p hp => by rw [heap_setRow_ne (by omega)]; exact hb.block p hp⟩
  have HFIN : Hid (repL k k = intsV (List.replicate k (-1))) := by show _ = _; simp [repL]
  clear hc1 hW2 hW1 hh1 hx1 hcl
  go_enter Tryz.func60, Tryz.ntmps60
  go_wp2_with fail
  refine (mul_lit k hk w).mono ?_
  rintro e w1 ⟨rfl, rfl⟩
  go_wp2
  go_loopw [8] (fun nv wr => ∃ j : Nat, j ≤ k ∧ (0 < k → 1 ≤ j) ∧ nv = .int .i64 j ∧ Hid (wr.heap[w.heap.size]? = some (.cells (repL j k).toArray 3 (0, 0)) ∧ Below w.heap.size w wr)) (fun nv _ => k - (intOf nv).toNat)
  case atStart => exact ⟨min 1 k, by omega, by omega, rfl, hh2, hb2⟩
  case round =>
    obtain ⟨j, hj, hj1, rfl, HJ⟩ := hrel
    by_cases hlt : j < k
    · obtain ⟨W3, hrun3, h3, h4⟩ := HRND.out wr j (by omega) hlt HJ.out.1 HJ.out.2
      have HN := Hid.out (p := Hid _) (And.intro h3 h4)
      clear h3 h4
      go_wp2
      go_region
      all_goals go_wp2
      all_goals go_roundw
      case rel => exact ⟨j + min j (k - j), by omega, by omega, by go_num, HN⟩
      case measure => simp [intOf]; omega
    · obtain rfl : j = k := by omega
      go_wp2
      go_ret
      exact ⟨rfl, by rw [← HFIN.out]; exact HJ.out.1, HJ.out.2⟩
end

section
open Go.RowKit

/-- A plain memory that has just been made, in the block mb. -/
structure Mem0 (w w' : World) (mb : Nat) (wv ov : Value) (words : List Int) (lk : Nat) : Prop where
  box : w'.heap[mb]? = some (.cells #[wv, ov] 113 (0, 0))
  wrow : w'.ownsRow w.heap.size 3 1 wv words.length (intsV words)
  orow : w'.ownsRow w.heap.size 3 1 ov lk (intsV (List.replicate lk (-1)))
  lo : w.heap.size ≤ mb
  a1 : wv.ownBlock ≠ some mb
  a2 : ov.ownBlock ≠ some mb
  a3 : ∀ g, wv.ownBlock = some g → ov.ownBlock ≠ some g
  below : Below w.heap.size w w'

theorem cell_new1 (w : World) (x : Value) (e : TypeId) : (w.alloc (.cells #[x] e)).cell? ⟨w.heap.size, 0, none⟩ = some x := by go_simp
theorem row_of_block {w : World} {B g k : Nat} (hB : B ≤ g) (hk : k ≤ 1000) (h : w.heap[g]? = some (.cells (intsV (List.replicate k (-1))).toArray 3 (0, 0))) : w.ownsRow B 3 1 (.slice (some ⟨g, 0, none⟩) k k) k (intsV (List.replicate k (-1))) := by
  refine ⟨by simp [intsV_len], Or.inr ⟨g, k, _, rfl, hB, h, Nat.le_refl _, by unfold maxLen; omega, by simp [intsV_len], ?_⟩⟩
  rw [List.take_of_length_le (by simp [intsV_len])]

set_option maxRecDepth 100000 in
set_option maxHeartbeats 3200000 in
theorem newPlain_any (w : World) (ca : Option Addr) (n cc : Nat) (wa : Option Addr) (wc lk rg : Nat) (words : List Int) (hw : SIs w wa words) (hnil : wa = none → words = [] ∧ wc = 0) (hm : words.length ≤ 64) (hlk : lk ≤ 4) :
    Calls Tryz.prog 38 #[prgV ca n cc wa words.length wc lk rg] w fun e w' => ∃ mb wv ov, e = .returned (.pointer (some ⟨mb, 0, none⟩)) ∧ Mem0 w w' mb wv ov words lk := by
  have HCL : Hid (∀ W, Below w.heap.size w W → Calls Tryz.prog 46 #[.slice wa words.length wc] W fun e w' => ∃ a cap, e = .returned (.slice a words.length cap) ∧ w'.ownsRow W.heap.size 3 1 (.slice a words.length cap) words.length (intsV words) ∧ Below W.heap.size W w') := fun W hb => clone_any W wa words wc (hw.below hb) hnil (by omega)
  obtain ⟨m, hmm⟩ : ∃ m, words.length = m := ⟨_, rfl⟩
  rw [hmm] at HCL hm ⊢
  have HMM : Hid (words.length = m) := hmm
  clear hw hnil hmm
  have HFIN : Hid (∀ (W : World) (a : Option Addr) (cap g : Nat), W.ownsRow w.heap.size 3 1 (.slice a m cap) m (intsV words) → W.heap[g]? = some (.cells (intsV (List.replicate lk (-1))).toArray 3 (0, 0)) → w.heap.size ≤ g → (∀ k, (Value.slice a m cap).ownBlock = some k → k ≠ g) → Below w.heap.size w W → Mem0 w (W.alloc (.cells #[.slice a m cap, .slice (some ⟨g, 0, none⟩) lk lk] 113)) W.heap.size (.slice a m cap) (.slice (some ⟨g, 0, none⟩) lk lk) words lk) := fun W a cap g h1 h2 h3 h4 h5 => by
    have hg : g < W.heap.size := by
      rcases Nat.lt_or_ge g W.heap.size with h | h
      · exact h
      · rw [Array.getElem?_eq_none h] at h2; cases h2
    refine ⟨heap_alloc_new _ _, ?_, ?_, h5.size, fun e => ?_, fun e => ?_, fun k hk e => ?_, h5.alloc h5.size _⟩
    · rw [HMM.out]; exact h1.alloc _
    · exact (row_of_block h3 (by omega) h2).alloc _
    · have := (h1.lt _ e).2; omega
    · have : g = W.heap.size := by simpa [Value.ownBlock] using e
      omega
    · have : g = k := by simpa [Value.ownBlock] using e
      exact h4 k hk this.symm
  have p1 : (w.alloc (.cells #[.slice ca n cc, .slice wa m wc, .int .i64 (lk : Int), .int .i64 (rg : Int)] 25)).cell? ⟨w.heap.size, 1, none⟩ = some (.slice wa m wc) := by go_simp
  have p2 : (w.alloc (.cells #[.slice ca n cc, .slice wa m wc, .int .i64 (lk : Int), .int .i64 (rg : Int)] 25)).cell? ⟨w.heap.size, 2, none⟩ = some (.int .i64 (lk : Int)) := by go_simp
  go_enter Tryz.func38, Tryz.ntmps38
  go_wp2
  go_region_held3 (fun w' => w'.cell? ⟨w.heap.size, 1, none⟩ = some (.slice wa m wc) ∧ w'.cell? ⟨w.heap.size, 2, none⟩ = some (.int .i64 (lk : Int))) (refine ⟨?_, ?_⟩ <;> (repeat (first | assumption | refine cell_drw ?_ | refine cell_up ?_ _))) (first | (go_at_call 46; refine Calls.mono (HCL.out _ (by repeat (first | exact Below.refl _ _ | assumption | refine Below.drew ?_ | refine Below.alloc ?_ (by first | (simp; done) | (simp; omega) | omega) _))) ?_; rintro e w3 ⟨a3, cap3, rfl, hown3, hb3⟩; (try have zx : w3.cell? ⟨w.heap.size + 1, 0, none⟩ = some (.int .i64 (-1)) := (hb3.cell (p := ⟨w.heap.size + 1, 0, none⟩) (by simp)).trans (by have hn := cell_new1 (w.alloc (.cells #[.slice ca n cc, .slice wa m wc, .int .i64 (lk : Int), .int .i64 (rg : Int)] 25)) (.int .i64 (-1)) 3; rw [World.size_alloc] at hn; exact hn)); have hB3 : Below w.heap.size w w3 := Below.trans (by repeat (first | exact Below.refl _ _ | assumption | refine Below.drew ?_ | refine Below.alloc ?_ (by simp) _)) (hb3.mono (by first | (simp; done) | (simp; omega) | omega)); have s3 := hb3.size; have z1 : w3.cell? ⟨w.heap.size, 1, none⟩ = some (.slice wa m wc) := (hb3.cell (p := ⟨w.heap.size, 1, none⟩) (by first | (simp; done) | (show w.heap.size < _; simp; omega) | (show w.heap.size < _; omega))).trans (by repeat (first | assumption | refine cell_drw ?_ | refine cell_up ?_ _)); have z2 : w3.cell? ⟨w.heap.size, 2, none⟩ = some (.int .i64 (lk : Int)) := (hb3.cell (p := ⟨w.heap.size, 2, none⟩) (by first | (simp; done) | (show w.heap.size < _; simp; omega) | (show w.heap.size < _; omega))).trans (by repeat (first | assumption | refine cell_drw ?_ | refine cell_up ?_ _)); have lz : w.heap.size < w3.heap.size := lt_of_cell z1) | (go_at_call 60; refine (repeat_any _ _ lk (by first | assumption | exact cell_new1 _ _ _ | exact cell_drw (cell_new1 _ _ _) | (refine cell_drw ?_; exact cell_new1 _ _ _)) hlk).mono ?_; rintro e w4 ⟨rfl, hh4, hb4⟩; have s4 := hb4.size; have y1 : w4.cell? ⟨w.heap.size, 1, none⟩ = some (.slice wa m wc) := (hb4.cell (p := ⟨w.heap.size, 1, none⟩) (by first | (simp; done) | (show w.heap.size < _; simp; omega) | (show w.heap.size < _; omega))).trans (by repeat (first | assumption | refine cell_drw ?_ | refine cell_up ?_ _)); have y2 : w4.cell? ⟨w.heap.size, 2, none⟩ = some (.int .i64 (lk : Int)) := (hb4.cell (p := ⟨w.heap.size, 2, none⟩) (by first | (simp; done) | (show w.heap.size < _; simp; omega) | (show w.heap.size < _; omega))).trans (by repeat (first | assumption | refine cell_drw ?_ | refine cell_up ?_ _)); have hB4 : Below w.heap.size w w4 := Below.trans (by repeat (first | exact Below.refl _ _ | assumption | refine Below.drew ?_ | refine Below.alloc ?_ (by first | (simp; done) | (simp; omega) | omega) _)) (hb4.mono (by first | (simp; done) | (simp; omega) | omega)); have ly : w.heap.size < w4.heap.size := lt_of_cell y1))
  all_goals go_wp2
  all_goals go_ret
  · refine ⟨w4.heap.size, .slice a3 m cap3, .slice (some ⟨w3.heap.size + 1, 0, none⟩) lk lk, rfl, HFIN.out w4 a3 cap3 (w3.heap.size + 1) ?_ (by simpa using hh4) (by omega) (fun k hk => ?_) hB4⟩
    · exact fam_keeps (own_low hown3 (by simp)) (fun g hg => (hb4.block g (by have := (hown3.lt g hg).2; simp; omega)).trans (Below.heap_alloc _ _ _ (hown3.lt g hg).2))
    · have := (hown3.lt k hk).2; omega
  · refine ⟨w4.heap.size, .slice a3 m cap3, .slice (some ⟨w3.heap.size, 0, none⟩) lk lk, rfl, HFIN.out w4 a3 cap3 w3.heap.size ?_ (by simpa using hh4) (by omega) (fun k hk => ?_) hB4⟩
    · exact fam_keeps (own_low hown3 (by simp; omega)) (fun g hg => hb4.block g (hown3.lt g hg).2)
    · have := (hown3.lt k hk).2; omega
end

section
open Go.RowKit

def plainK : Mk where
  bf := false
  mode := 0
  tid := 74
  bty := 3
  lty := 3
  sty := 3
  able := 147
  load := 153
  store := 151
  unlock := 150
  waiting := 166
  finish := 165
theorem plain_top {Q : Cd} (h : Q.K = plainK) (mb : Nat) : Q.top mb = mb := by
  unfold Cd.top; rw [h]; rfl
theorem plain_law : MLaw plainK where
  notTr := by decide
  mode0 _ := rfl
  mode1 h := by cases h
  mHas w B Q sb mb v s hK _ := by rw [plain_top hK]; kernel_rfl
  mAble a w := by kernel_rfl
  cAble xs w := by kernel_rfl
  mLoad a w := by kernel_rfl
  cLoad xs w := by kernel_rfl
  mStore a w := by kernel_rfl
  cStore xs w := by kernel_rfl
  mSwap w B Q sb mb v s hK _ := by rw [plain_top hK]; kernel_rfl
  mLock w B Q sb mb v s hK _ := by rw [plain_top hK]; kernel_rfl
  mUnlock a w := by kernel_rfl
  cUnlock xs w := by kernel_rfl
  mWaiting a w := by kernel_rfl
  cWaiting xs w := by kernel_rfl
  mFinish a w := by kernel_rfl
  cFinish xs w := by kernel_rfl
  mWords w B Q sb mb v s hK _ := by rw [plain_top hK]; kernel_rfl
  able w B Q sb mb v s t op a b c hK hp ha := by
    rw [plain_top hK, hp.bare (by rw [hK]; rfl)]
    exact pable_any w B Q sb mb v s t op a b c hp.hs hp.hl ha
  load w B Q sb mb v s t x hK hp hx := by
    rw [plain_top hK, finds_bare (hp.bare (by rw [hK]; rfl))]
    exact (pload_any w B Q sb mb v s t x hp.hs hp.hm hx).mono fun e w' h => ⟨h.1, by rw [h.2]; exact Below.refl _ _⟩
  store w B Q sb mb v s t x y hK hp hx _ := by
    rw [plain_top hK]
    refine (pstore_any w B Q sb mb v s t y x hp.hs hp.hm hx).mono fun e w' h => ⟨h.1, v, ?_, h.2.2, rfl, rfl, rfl, fun _ => rfl⟩
    have e1 : storeW plainK.mode s t ⟨false, x, y⟩ = { s with words := s.words.set x y } := by
      show storeW 0 s t _ = _
      simp [storeW, doneW]
    rw [e1]; exact h.2.1
  unlockY w B Q sb mb v s t x hK hp hx _ ht _ := by
    rw [plain_top hK]
    refine (punlock_yes w B Q sb mb v s t x hp.hs hp.hl hx ht).mono fun e w' h => ⟨h.1, v, ?_, h.2.2, rfl, rfl, rfl, fun _ => rfl⟩
    have e1 : storeW plainK.mode s t ⟨true, x, 0⟩ = { s with own := s.own.set x (-1) } := by
      show storeW 0 s t _ = _
      simp [storeW, doneW]
    rw [e1]; exact h.2.1
  unlockN w B Q sb mb v s t x hK hp hx ht := by
    rw [plain_top hK]
    rw [hp.bare (by rw [hK]; rfl)] at ht
    refine (punlock_no w B Q sb mb v s t x hp.hs hp.hl hx (ht.resolve_right (by simp))).mono fun e w' h => ⟨h.1, by rw [h.2]; exact Below.refl _ _⟩
  finish w B Q sb mb v s X t k hK hp _ hk _ := by
    rw [hp.bare (by rw [hK]; rfl)] at hk
    exact absurd hk (Nat.not_lt_zero _)
  waiting w B Q sb mb v s t fid caps I hK _ hp _ h0 _ := by
    have hb := (hp 0 w h0).bare (by rw [hK]; rfl)
    rw [plain_top hK, hb]
    refine (waiting_any mb _ _ w).mono fun e w' h => ⟨h.1, ?_⟩
    rw [← h.2]; exact h0

/-- The rows of a plain memory that has just been made. -/
def m0V (mb : Nat) (wv ov : Value) : Rp → Value
  | .mem => boxV mb
  | .words => wv
  | .own => ov
  | _ => nilV
theorem Mem0.q {w w' : World} {mb lk : Nat} {wv ov : Value} {words : List Int} {Q : Cd} (h : Mem0 w w' mb wv ov words lk) (hb : Q.K.bf = false) : MemQ Q w w' mb (m0V mb wv ov) words lk := by
  refine ⟨fun r hr => ?_, fun r q g hr hq => ?_, rfl, rfl, rfl, fun _ => rfl, rfl, fun h1 => absurd h1 (by rw [hb]; decide), h.below⟩
  · cases r with
    | st => exact absurd rfl hr
    | mem => exact fam_box (xs := [wv, ov]) h.lo h.box
    | words => exact h.wrow
    | own =>
      show w'.ownsRow _ _ 1 ov (List.replicate lk (-1 : Int)).length _
      rw [List.length_replicate]
      exact h.orow
    | thr => exact World.ownsRow_nil _ _ _ _
    | prints => exact World.ownsRow_nil _ _ _ _
    | regs t => exact World.ownsRow_nil _ _ _ _
    | box => simp only [pN, pX, hb]; exact World.ownsRow_nil _ _ _ _
    | bufs => simp only [pN, pX, hb]; exact World.ownsRow_nil _ _ _ _
    | buf t => simp only [pN, pX, hb]; exact World.ownsRow_nil _ _ _ _
  · have s2 : ∀ g, (boxV mb).ownBlock = some g → g = mb := fun g e => by simpa [Value.ownBlock] using e.symm
    have s3 : ∀ g, (nilV).ownBlock = some g → False := fun g e => by simp [Value.ownBlock] at e
    cases r <;> cases q <;> simp only [m0V] at hr hq <;> first | rfl | exact (s3 _ hr).elim | exact (s3 _ hq).elim | skip
    · have e := s2 _ hr; rw [e] at hq; exact absurd hq h.a1
    · have e := s2 _ hr; rw [e] at hq; exact absurd hq h.a2
    · have e := s2 _ hq; rw [e] at hr; exact absurd hr h.a1
    · exact absurd hq (h.a3 _ hr)
    · have e := s2 _ hq; rw [e] at hr; exact absurd hr h.a2
    · exact absurd hr (h.a3 _ hq)
end

end Go.Proofs.YtefnmbnakphhfadGreatDoor
