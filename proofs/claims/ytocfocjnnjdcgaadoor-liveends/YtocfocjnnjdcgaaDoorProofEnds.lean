/-
  Proved: for every program that is handed in, whatever it holds and however its memory is shared, the statement of live registers answers true: of the given program of two threads Ahead tells that nothing is live before the first order and register 0 alone before the second; of every program Ahead and Clash tell the same fault, Ahead tells of each thread that nothing is live behind its last order, and Clash tells that who clashes is clashed with, that none clashes with itself, and names only registers of the thread (M1 and M3); the call comes back, and the program that was handed in reads afterwards as it read before. Condition: the package-level table of Go's library that the row lists holds what its initialiser lays (tied to the program's text by the card).
-/
import Derived.Test.YtocfocjnnjdcgaaDoorLawEnds2
import Derived.Test.YtocfocjnnjdcgaaDoorOpnP
import Derived.Test.YtocfocjnnjdcgaaDoorCards
import Derived.Test.YtocfocjnnjdcgaaDoorTie
import Derived.ProofKit
import Derived.OpenShut
import Derived.Lay
import Derived.Deep.DeepHandedRow
import Derived.Stop.LaidErr
namespace Go.Proofs.YtocfocjnnjdcgaaDoor
open Go.ChangeShapes Go.WideShapes Go.ChangeAt Go.RowKit Go.Joins Go.Deep

theorem gBits : Tryd.prog.globalNamed "math/bits.deBruijn64tab" = some 0 := by kernel_rfl
theorem gBitsType : (Tryd.prog.globals[0]?).map (·.type) = some 172 := by kernel_rfl
theorem cellsTab : Tryd.prog.cellsOf 172 = 64 := by kernel_rfl
theorem cellsU8 : Tryd.prog.cellsOf 5 = 1 := by kernel_rfl
theorem bitsData : (Rows.laid_math_bits_deBruijn64tab : DataW Unit) = Lib.tabData .u8 (Lib.deBruijn64tab.map fun (k : Nat) => (k : Int)) := by kernel_rfl
theorem bitsAt (j : Nat) (hj : j < 64) : (Lib.deBruijn64tab.map fun (k : Nat) => (k : Int)).getD j 0 = ((Lib.deBruijn64tab.getD j 0 : Nat) : Int) := by
  have hl : Lib.deBruijn64tab.length = 64 := by decide +kernel
  simp [List.getD, List.getElem?_eq_getElem (show j < Lib.deBruijn64tab.length by omega)]
/-- The table of lowest bits. -/
theorem tab_of {W : World} (h : laidMetH Tryd.prog Rows.liveEndsRow.laid W) : TabZ W := by
  rw [MakeChecks.laidMetH_plain _ _ _ (by kernel_rfl)] at h
  have h3 : laidMet Tryd.prog (("math/bits.deBruijn64tab", Rows.laid_math_bits_deBruijn64tab) :: _) W := h
  rw [bitsData] at h3
  have ht := Lib.tabIs_of_head gBits gBitsType Tryd.underlying172 Tryd.underlying5 cellsU8 cellsTab h3
  intro j hj
  have hc := ht.cell gBits j (by have hl : Lib.deBruijn64tab.length = 64 := by decide +kernel
                                 simpa [hl] using hj)
  rw [bitsAt j hj] at hc
  exact hc

set_option maxRecDepth 100000 in
theorem ends_lifted (os : Os) (started : os.Started) (H : Type) (enc : TypeId × Value → H) (F : Stop.Interp) :
    ReturnsInHanded {} Tryd.checked os 4 .any ((OpenSpec.ofChange Rows.liveEndsSpec).preRow enc Tryd.prog Tryd.f4 Rows.liveEndsRow.domain false Rows.liveEndsRow.laid) (((OpenSpec.ofChange Rows.liveEndsSpec).at F).post enc Tryd.prog Tryd.f4 false true false false) := by
  refine returnsInHanded_of_row (C := Tryd.checked) (s := OpenSpec.ofChange Rows.liveEndsSpec) Tryd.own started (by kernel_rfl) Tryd.func4
    (ChangeSpec.witness_shaped (enc := enc) (C := Tryd.checked) (os := os) (s := Rows.liveEndsSpec) (conds := Rows.liveEndsRow.domain) (X := fun w _ => laidMetH Tryd.prog Rows.liveEndsRow.laid w) false (World.laidAll Tryd.prog os Rows.liveEndsRow.laid) #[.agg #[.slice none 0 0, .slice none 0 0, .int .i64 0, .int .i64 0]] 8 (World.laidAll_os _ _ _)
      (World.shaped_of_ZipB (by kernel_rfl) (by kernel_rfl)) (by kernel_rfl) (by kernel_rfl) (by kernel_rfl)
      (by rw [MakeChecks.laidMetH_plain _ _ _ (by kernel_rfl)]; exact laidMet_laidAll _ (by kernel_rfl) (by kernel_rfl))) ?_
  intro W base args ds gs before hval0 hW _ _ _ hL hsh _
  have hval : ∀ (j : Nat) t v, Tryd.f4.params[j]? = some t → args[j]? = some v → Value.okWide Tryd.prog W .any base t v := hval0
  have hW' := hW
  obtain ⟨p, q, hA0, hV, rfl, hfz, hnd⟩ := hW
  have hA : DataW.TrodAll enc Tryd.prog W 0 (fun _ => true) true Tryd.f4.params.toList args.toList ds p := hA0
  rw [Tryd.params4] at hA hval
  obtain ⟨v0, d0, hargs, rfl, h0⟩ := trodAll_one hA
  obtain rfl : args = #[v0] := by cases args; simp_all
  obtain ⟨rfl, rfl⟩ := trodVars_none hV
  obtain ⟨ca, n, cc, wa, words, wc, lk, rg, A, L, C, X, rfl, hm, hp, _, _⟩ := open_prog2 (hval 0 25 v0 rfl rfl) h0
  clear hA0 hval0
  simp only [List.append_nil] at hW'
  refine (liveEnds_any W ca n cc wa wc lk rg words A L C X hm hp (tab_of hL)).mono fun e W' ⟨he, hb⟩ => ?_
  subst he
  have hlt : ∀ x ∈ p, x.block < W.heap.size := fun x hx => by simpa using hW'.lt x hx
  refine ⟨_, rfl, _, _, _, [], p, [], hW', ?_, ?_, rfl, hb.frame _, fun h => by cases h⟩
  · exact trodAll_mk1 (shut_bool Tryd.underlying4 true)
  · exact trodAll_mk1 (Below.trod Tryd.laidOut Tryd.readableP (of_decide_eq_true (by kernel_rfl)) h0 hb hlt)

theorem liveEnds_said : Rows.LiveEndsSaid :=
  OpenClaim.holds_of_cond 4 Tryd.f4 rfl rfl rfl rfl rfl rfl rfl ⟨rfl, rfl, rfl, rfl, rfl⟩ rfl rfl rfl rfl rfl (by kernel_rfl) Tryd.func4 (by kernel_rfl)
    (of_decide_eq_true (by kernel_rfl)) (by unfold Func.isWrapper; first | (rw [if_pos (by decide +kernel)]; kernel_rfl) | (rw [if_neg (by decide +kernel)]; exact ⟨rfl, rfl⟩))
    (fun os started H enc _ F => by rw [OpenClaim.pre_eq_preRow]; exact ends_lifted os started H enc F)

theorem ends_plain (f : FuncId) (fn : Func) (hf : Tryd.pinned.checked.prog.funcNamed "sluice/sluicekeep.LiveEnds" = some f) (hfn : Tryd.pinned.checked.prog.funcs[f]? = some fn) :
    false = Tryd.pinned.checked.prog.looks [] ∧ ∀ (j : Nat) t, fn.params[j]? = some t → Tryd.pinned.checked.prog.wantsStandIn t = false := by
  obtain rfl : f = 4 := Option.some.inj ((show Tryd.prog.funcNamed "sluice/sluicekeep.LiveEnds" = some 4 by kernel_rfl).symm.trans hf) |>.symm
  obtain rfl : fn = Tryd.f4 := (Option.some.inj (Tryd.func4.symm.trans hfn)).symm
  refine ⟨by kernel_rfl, fun j t ht => ?_⟩
  rw [Tryd.params4] at ht
  obtain rfl : t = 25 := by simpa using Array.mem_of_getElem? ht
  exact (show Tryd.prog.wantsStandIn 25 = false by kernel_rfl)

/-- THE STATEMENT OF THE ENDS: for all programs nothing is live behind the last order, and who clashes is clashed with, never with itself. -/
theorem liveEnds_holds : Rows.LiveEndsCardSaid :=
  Claim7.holds_tied_plain_at .later [] _ _ _ _ liveEnds_said (fun _ h => by cases h) (by kernel_rfl) (fun _ h => by cases h) liveEnds_row_tie rfl ⟨rfl, rfl⟩ (by kernel_rfl) rfl ends_plain (by kernel_rfl)

#print axioms liveEnds_holds

end Go.Proofs.YtocfocjnnjdcgaaDoor
