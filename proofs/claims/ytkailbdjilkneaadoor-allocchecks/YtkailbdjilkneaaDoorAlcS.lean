/-
  slices.Repeat of one number (at the seat of colours).
-/
import Derived.Test.YtkailbdjilkneaaDoorFam
import Derived.Test.YtkailbdjilkneaaDoorBox
import Derived.Test.YtkailbdjilkneaaDoorShelf
import Derived.Laws.CopyRow
import Derived.Deep.OwnRows
import Derived.WalkKit
import Derived.WalkSpells
import Derived.WalkLawsBesides
import Derived.Lib.SmallJoins
namespace Go.Proofs.YtkailbdjilkneaaDoor
open Go.RowKit

theorem intsV_lenS (l : List Int) : (intsV l).length = l.length := by simp [intsV]
theorem made_intsS (n : Nat) : (madeCells #[Value.int .i64 0] n).toList = List.replicate n (.int .i64 0) := by
  apply List.ext_getElem?
  intro i
  by_cases h : i < n
  · simp [madeCells, h, Nat.mod_one]
  · simp [madeCells, h]
def CpSS (ts : Array TypeId) (ty : TypeId) (args : Array Value) : Sem Value := Builtin.copy_ ts ty args
theorem cpSS_eq (ts : Array TypeId) (ty : TypeId) (args : Array Value) : Builtin.copy_ ts ty args = CpSS ts ty args := rfl
theorem sizeIS : (Tryd.prog.info? 3).map (·.size) = some 1 := by kernel_rfl
theorem intsV_oneS (l : List Int) : ∀ u ∈ intsV l, u.oneCell' = true := fun u hu => by
  simp only [intsV, List.mem_map] at hu
  obtain ⟨x, _, rfl⟩ := hu
  rfl
/-- The first j of k are there. -/
def repS (j k : Nat) : List Value := intsV (List.replicate j (-1) ++ List.replicate (k - j) 0)
theorem repS_len {j k : Nat} (h : j ≤ k) : (repS j k).length = k := by simp [repS, intsV_lenS]; omega
theorem heap_setS {w : World} {g : Nat} {c d : Array Value} {t : TypeId} (h : w.heap[g]? = some (.cells c t (0, 0))) : (w.setRow g d).heap[g]? = some (.cells d t (0, 0)) := by
  unfold World.setRow
  simp only [Array.getElem?_modify, if_true, h, Option.map_some]
theorem heap_setS_ne {w : World} {g k : Nat} {d : Array Value} (h : k ≠ g) : (w.setRow g d).heap[k]? = w.heap[k]? := by
  unfold World.setRow
  simp only [Array.getElem?_modify]
  rw [if_neg (fun e => h e.symm)]
theorem repS_copy {j k c : Nat} (_hj : j ≤ k) (_hc : c ≤ k - j) : ((repS j k).take j ++ intsV (List.replicate c (-1)) ++ (repS j k).drop (j + c)) = repS (j + c) k := by
  have e : repS j k = intsV (List.replicate j (-1)) ++ intsV (List.replicate (k - j) 0) := by simp [repS, intsV]
  rw [e, List.take_append_of_le_length (by simp [intsV_lenS]), List.take_of_length_le (by simp [intsV_lenS]), List.drop_append, List.drop_of_length_le (by simp [intsV_lenS])]
  simp only [intsV_lenS, List.length_replicate, List.nil_append]
  rw [show j + c - j = c by omega]
  simp only [repS, intsV, List.map_append, List.map_replicate, List.drop_replicate, List.replicate_append_replicate]
  rw [show k - j - c = k - (j + c) by omega]
attribute [local go_sem ↓] cpSS_eq
set_option maxRecDepth 100000 in
set_option maxHeartbeats 3200000 in
theorem repeatS (w : World) (xb k : Nat) (hx : w.cell? ⟨xb, 0, none⟩ = some (.int .i64 (-1))) (hk : k ≤ 1000) :
    Calls Tryd.prog 87 #[.slice (some ⟨xb, 0, none⟩) 1 1, .int .i64 (k : Int)] w fun e w' => e = .returned (.slice (some ⟨w.heap.size, 0, none⟩) k k) ∧ w'.heap[w.heap.size]? = some (.cells (intsV (List.replicate k (-1))).toArray 3 (0, 0)) ∧ Below w.heap.size w w' := by
  have hmk := fun W => run_make_row' (P := Tryd.prog) 23 3 (.int .i64 0) 8 Tryd.underlying23 infoI rfl .i64 .i64 k (by omega) (by omega) W
  have hlx := lt_of_cell hx
  obtain ⟨W1, hW1⟩ : ∃ W, W = w.alloc (.cells (madeCells #[.int .i64 0] k) 3) := ⟨_, rfl⟩
  have hh1 : W1.heap[w.heap.size]? = some (.cells (repS 0 k).toArray 3 (0, 0)) := by
    rw [hW1, heap_alloc_new]
    have : madeCells #[Value.int .i64 0] k = (repS 0 k).toArray := by
      rw [← Array.toList_inj, made_intsS]
      simp [repS, intsV]
    rw [this]
  have hx1 : W1.cell? ⟨xb, 0, none⟩ = some (.int .i64 (-1)) := by rw [hW1]; exact cell_up hx _
  have hc1 := run_copy_row (P := Tryd.prog) W1 23 23 3 3 w.heap.size 0 k k ⟨xb, 0, none⟩ 1 1 (repS 0 k).toArray 3 (intsV (List.replicate (min 1 k) (-1))) Tryd.underlying23 sizeIS hh1 (by simp [intsV_lenS, Nat.min_def]) (fun j u hu => by
    have hj : j = 0 := by
      rcases Nat.lt_or_ge j (min 1 k) with h | h
      · omega
      · rw [List.getElem?_eq_none (by simp [intsV_lenS]; omega)] at hu; cases hu
    subst hj
    have hu' : u = .int .i64 (-1) := by
      simp only [intsV, List.map_replicate, List.getElem?_replicate] at hu
      split at hu
      · simpa using hu.symm
      · cases hu
    rw [hu']
    exact hx1) (by simp [intsV_lenS, repS_len (Nat.zero_le k)]; omega) (intsV_oneS _)
  obtain ⟨W2, hW2⟩ : ∃ W, W = W1.setRow w.heap.size ((repS 0 k).toArray.toList.take 0 ++ intsV (List.replicate (min 1 k) (-1)) ++ (repS 0 k).toArray.toList.drop (0 + (intsV (List.replicate (min 1 k) (-1))).length)).toArray := ⟨_, rfl⟩
  rw [← hW2] at hc1
  have hh2 : W2.heap[w.heap.size]? = some (.cells (repS (min 1 k) k).toArray 3 (0, 0)) := by
    rw [hW2, heap_setS hh1]
    have := repS_copy (j := 0) (k := k) (c := min 1 k) (Nat.zero_le _) (by omega)
    simp only [intsV_lenS, List.length_replicate]
    rw [Nat.zero_add] at this ⊢
    rw [← this]
  have hb2 : Below w.heap.size w W2 := by
    rw [hW2, hW1]
    exact ⟨rfl, rfl, rfl, by simp [World.setRow], fun j hj => by rw [heap_setS_ne (by omega), Below.heap_alloc _ _ _ hj]⟩
  have hcl : (intsV (List.replicate (min 1 k) (-1))).length = min 1 k := by simp [intsV_lenS]
  rw [hcl, hW1] at hc1
  have hrun1 : (CpSS #[23, 23] 3 #[.slice (some ⟨w.heap.size, 0, none⟩) k k, .slice (some ⟨xb, 0, none⟩) 1 1]).run Tryd.prog (w.alloc (.cells (madeCells #[.int .i64 0] k) 3)) = .ok (.int .i64 ((min 1 k : Nat) : Int)) W2 := hc1
  have HRND : Hid (∀ wr j, 1 ≤ j → j < k → wr.heap[w.heap.size]? = some (.cells (repS j k).toArray 3 (0, 0)) → Below w.heap.size w wr → ∃ W3, (CpSS #[23, 23] 3 #[.slice (some ⟨w.heap.size, j, none⟩) (k - j) (k - j), .slice (some ⟨w.heap.size, 0, none⟩) j k]).run Tryd.prog wr.drew = .ok (.int .i64 ((min j (k - j) : Nat) : Int)) W3 ∧ W3.heap[w.heap.size]? = some (.cells (repS (j + min j (k - j)) k).toArray 3 (0, 0)) ∧ Below w.heap.size w W3) := fun wr j h1 hj hh hb => by
    have hh' : wr.drew.heap[w.heap.size]? = some (.cells (repS j k).toArray 3 (0, 0)) := hh
    have hc := run_copy_row (P := Tryd.prog) wr.drew 23 23 3 3 w.heap.size j (k - j) (k - j) ⟨w.heap.size, 0, none⟩ j k (repS j k).toArray 3 (intsV (List.replicate (min j (k - j)) (-1))) Tryd.underlying23 sizeIS hh' (by simp [intsV_lenS, Nat.min_def]) (fun p u hu => by
      have hp : p < min j (k - j) := by
        rcases Nat.lt_or_ge p (min j (k - j)) with h | h
        · exact h
        · rw [List.getElem?_eq_none (by simp [intsV_lenS]; omega)] at hu; cases hu
      have hu' : u = .int .i64 (-1) := by
        simp only [intsV, List.map_replicate, List.getElem?_replicate, if_pos hp] at hu
        simpa using hu.symm
      have hadd : (⟨w.heap.size, 0, none⟩ : Addr).add p = ⟨w.heap.size, p, none⟩ := by unfold Addr.add; split <;> simp_all
      rw [hu', hadd, cell_of_row _ _ _ _ _ _ hh']
      have : p < j := by omega
      simp [repS, intsV, List.getElem?_append, this]) (by simp [intsV_lenS, repS_len (Nat.le_of_lt hj)]; omega) (intsV_oneS _)
    have hcl2 : (intsV (List.replicate (min j (k - j)) (-1))).length = min j (k - j) := by simp [intsV_lenS]
    rw [hcl2] at hc
    refine ⟨_, hc, ?_, ?_⟩
    · rw [heap_setS hh']
      have := repS_copy (j := j) (k := k) (c := min j (k - j)) (by omega) (by omega)
      rw [← this]
    · exact ⟨hb.os, hb.tape, hb.output, by simp [World.setRow]; exact hb.size, fun p hp => by rw [heap_setS_ne (by omega)]; exact hb.block p hp⟩
  have HFIN : Hid (repS k k = intsV (List.replicate k (-1))) := by show _ = _; simp [repS]
  have HML : Hid (Calls Tryd.prog 125 #[.int .u64 1, .int .u64 (k : Int)] w fun e w' => e = .returned (.tuple #[.int .u64 0, .int .u64 (k : Int)]) ∧ w' = w) := by
    have := Tryd.bits_Mul 1 k (by omega) (by omega) w
    rw [Nat.one_mul, Nat.div_eq_of_lt (by omega), Nat.mod_eq_of_lt (by omega)] at this
    exact this
  clear hc1 hW2 hW1 hh1 hx1 hcl
  go_enter Tryd.func87, Tryd.ntmps87
  go_wp2_with fail
  refine Calls.mono HML.out ?_
  rintro e w1 ⟨rfl, rfl⟩
  go_wp2_with fail
  go_loopw [8] (fun nv wr => ∃ j : Nat, j ≤ k ∧ (0 < k → 1 ≤ j) ∧ nv = .int .i64 j ∧ Hid (wr.heap[w1.heap.size]? = some (.cells (repS j k).toArray 3 (0, 0)) ∧ Below w1.heap.size w1 wr)) (fun nv _ => k - (intOf nv).toNat)
  case atStart => exact ⟨min 1 k, by omega, by omega, rfl, hh2, hb2⟩
  case round =>
    obtain ⟨j, hj, hj1, rfl, HJ⟩ := hrel
    by_cases hlt : j < k
    · obtain ⟨W3, hrun3, h3, h4⟩ := HRND.out wr j (by omega) hlt HJ.out.1 HJ.out.2
      have HN := Hid.out (p := Hid _) (And.intro h3 h4)
      clear h3 h4
      go_wp2
      go_region
      all_goals go_wp2
      all_goals go_roundw
      case rel => exact ⟨j + min j (k - j), by omega, by omega, by go_num, HN⟩
      case measure => simp [intOf]; omega
    · obtain rfl : j = k := by omega
      go_wp2
      go_ret
      exact ⟨rfl, by rw [← HFIN.out]; exact HJ.out.1, HJ.out.2⟩

end Go.Proofs.YtkailbdjilkneaaDoor
