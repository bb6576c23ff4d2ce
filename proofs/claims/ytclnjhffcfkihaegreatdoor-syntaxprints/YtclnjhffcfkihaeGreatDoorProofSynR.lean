/-
  Proved: for every text, the program's Print hands back the fault of the document's Parse, or the text that the document's Print writes of its nodes; and where that is no longer than a text may be, the program's Parse reads it as the same nodes, but for their bytes (I3); the call comes back, and the text reads afterwards as it read before. Condition: the package-level variables of the program and of Go's library that the row lists hold what their initialisers lay (tied to the program's text by the card).
-/
import Derived.Test.YtclnjhffcfkihaeGreatDoorSprM
import Derived.Test.YtclnjhffcfkihaeGreatDoorSqI
import Derived.Test.YtclnjhffcfkihaeGreatDoorCards
import Derived.Test.YtclnjhffcfkihaeGreatDoorTie
import Derived.ProofKit
import Derived.OpenShut
import Derived.Lay
import Derived.Deep.DeepHandedRow
import Derived.Stop.LaidErr
import Derived.Lib.LaidTab
import Derived.Shelf.Vars
namespace Go.Proofs.YtclnjhffcfkihaeGreatDoor
open Go.ChangeShapes Go.WideShapes Go.ChangeAt Go.RowKit
open Go.ChangeMaps (open_string shut_string)

theorem gPowType9 : (Tryz.prog.globals[1]?).map (·.type) = some 157 := by kernel_rfl
theorem cellsPow9 : Tryz.prog.cellsOf 157 = 20 := by kernel_rfl
theorem cellsU64 : Tryz.prog.cellsOf 133 = 1 := by kernel_rfl
theorem powData9 : (Rows.laid_internal_strconv_uint64pow10 : DataW Unit) = Lib.tabData .u64 Lib.pow10Tab := by kernel_rfl
/-- What the row's list gives: the variables that the program reads. -/
theorem syntaxPrints_env {W : World} (h : laidMetH Tryz.prog Rows.syntaxPrintsRow.laid W) (hz : 6 ≤ W.heap.size) : LEnv W ∧ PowE W := by
  rw [MakeChecks.laidMetH_plain _ _ _ (by kernel_rfl)] at h
  have h3 := h.tail.tail.tail
  obtain ⟨r0, _, hr, _, _, _⟩ := laid_sentinel h3 gRange gRangeType Tryz.underlying102 rowErr Tryz.underlying169 Tryz.underlying171 rfl rfl Tryz.underlying9 cellsErr cellsStr
  refine ⟨⟨⟨_, _, hr⟩, ?_, hz⟩, ⟨?_, hz⟩⟩
  · exact strs_of_head (zs := signsL) signsName gSignsType Tryz.underlying125 Tryz.underlying9 cellsStr cellsSigns h3.tail.tail
  · have h4 : laidMet Tryz.prog (("internal/strconv.uint64pow10", Rows.laid_internal_strconv_uint64pow10) :: _) W := h.tail.tail
    rw [powData9] at h4
    exact Lib.tabIs_of_head powG gPowType9 Tryz.underlying157 Tryz.underlying133 cellsU64 cellsPow9 h4

set_option maxRecDepth 100000 in
theorem syntaxPrints_lifted (os : Os) (started : os.Started) (H : Type) (enc : TypeId × Value → H) (F : Stop.Interp) :
    ReturnsInHanded {} Tryz.checked os 4 .any ((OpenSpec.ofChange Rows.syntaxPrintsSpec).preRow enc Tryz.prog Tryz.f4 Rows.syntaxPrintsRow.domain false Rows.syntaxPrintsRow.laid) (((OpenSpec.ofChange Rows.syntaxPrintsSpec).at F).post enc Tryz.prog Tryz.f4 false true false false) := by
  refine returnsInHanded_of_row (C := Tryz.checked) (s := OpenSpec.ofChange Rows.syntaxPrintsSpec) Tryz.own started (by kernel_rfl) Tryz.func4
    (ChangeSpec.witness_shaped (enc := enc) (C := Tryz.checked) (os := os) (s := Rows.syntaxPrintsSpec) (conds := Rows.syntaxPrintsRow.domain) (X := fun w _ => laidMetH Tryz.prog Rows.syntaxPrintsRow.laid w) false (World.laidAll Tryz.prog os Rows.syntaxPrintsRow.laid) #[.string ⟨#[]⟩] 8 (World.laidAll_os _ _ _)
      (World.shaped_of_ZipB (by kernel_rfl) (by kernel_rfl)) (by kernel_rfl) (by kernel_rfl) (by kernel_rfl)
      (by rw [MakeChecks.laidMetH_plain _ _ _ (by kernel_rfl)]; exact laidMet_laidAll _ (by kernel_rfl) (by kernel_rfl))) ?_
  intro W base args ds gs before hval0 hW _ _ _ hL hsh _
  have hval : ∀ (j : Nat) t v, Tryz.f4.params[j]? = some t → args[j]? = some v → Value.okWide Tryz.prog W .any base t v := hval0
  have hW' := hW
  obtain ⟨p, q, hA0, hV, rfl, hfz, hnd⟩ := hW
  have hA : DataW.TrodAll enc Tryz.prog W 0 (fun _ => true) true Tryz.f4.params.toList args.toList ds p := hA0
  rw [Tryz.params4] at hA hval
  obtain ⟨v0, d0, hargs, rfl, h0⟩ := trodAll_one hA
  obtain rfl : args = #[v0] := by cases args; simp_all
  obtain ⟨rfl, rfl⟩ := trodVars_none hV
  obtain ⟨s, rfl, rfl, rfl, hs⟩ := open_string Tryz.underlying9 (hval 0 9 v0 rfl rfl) h0
  clear hA0 hval0
  simp only [List.append_nil] at hW'
  have hE := syntaxPrints_env hL (by have := shaped_size hsh (6 - 1) (of_decide_eq_true (by kernel_rfl)) (by kernel_rfl); omega)
  refine (synPrints_any s W hE.1 hE.2).mono fun e W' ⟨he, hb⟩ => ?_
  subst he
  exact ⟨_, rfl, _, _, _, [], [], [], hW', trodAll_mk1 (shut_bool Tryz.underlying4 true), trodAll_mk1 (shut_string Tryz.underlying9 hs), rfl, hb.frame _, fun h => by cases h⟩

theorem syntaxPrints_said : Rows.SyntaxPrintsSaid :=
  OpenClaim.holds_of_cond 4 Tryz.f4 rfl rfl rfl rfl rfl rfl rfl ⟨rfl, rfl, rfl, rfl, rfl⟩ rfl rfl rfl rfl rfl (by kernel_rfl) Tryz.func4 (by kernel_rfl)
    (of_decide_eq_true (by kernel_rfl)) (by unfold Func.isWrapper; first | (rw [if_pos (by decide +kernel)]; kernel_rfl) | (rw [if_neg (by decide +kernel)]; exact ⟨rfl, rfl⟩))
    (fun os started H enc _ F => by rw [OpenClaim.pre_eq_preRow]; exact syntaxPrints_lifted os started H enc F)

theorem syntaxPrints_plain (f : FuncId) (fn : Func) (hf : Tryz.pinned.checked.prog.funcNamed "sluice/sluicelaw.SyntaxPrints" = some f) (hfn : Tryz.pinned.checked.prog.funcs[f]? = some fn) :
    true = Tryz.pinned.checked.prog.looks [] ∧ ∀ (j : Nat) t, fn.params[j]? = some t → Tryz.pinned.checked.prog.wantsStandIn t = false := by
  obtain rfl : f = 4 := Option.some.inj ((show Tryz.prog.funcNamed "sluice/sluicelaw.SyntaxPrints" = some 4 by kernel_rfl).symm.trans hf) |>.symm
  obtain rfl : fn = Tryz.f4 := (Option.some.inj (Tryz.func4.symm.trans hfn)).symm
  refine ⟨by kernel_rfl, fun j t ht => ?_⟩
  rw [Tryz.params4] at ht
  obtain rfl : t = 9 := by simpa using Array.mem_of_getElem? ht
  exact (show Tryz.prog.wantsStandIn 9 = false by kernel_rfl)

/-- THE LAW OF WHAT IS PRINTED: for every text the program prints it in its one form, and reads that as the same nodes. -/
theorem syntaxPrints_holds : Rows.SyntaxPrintsCardSaid :=
  Claim7.holds_tied_plain_at .later [] _ _ _ _ syntaxPrints_said (fun _ h => by cases h) (by kernel_rfl) (fun _ h => by cases h) syntaxPrints_row_tie rfl ⟨rfl, rfl⟩ (by kernel_rfl) rfl syntaxPrints_plain (by kernel_rfl)

#print axioms syntaxPrints_holds

end Go.Proofs.YtclnjhffcfkihaeGreatDoor
