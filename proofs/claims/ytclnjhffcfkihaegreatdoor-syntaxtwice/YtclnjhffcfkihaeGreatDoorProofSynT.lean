/-
  Proved: for every text, what the program's Print hands back of it, where that is no fault and no longer than a text may be, the program's Print hands back as it stands; and the statement's own text is printed as the statement says (I3); the call comes back, and the text reads afterwards as it read before. Condition: the package-level variables of the program and of Go's library that the row lists hold what their initialisers lay (tied to the program's text by the card).
-/
import Derived.Test.YtclnjhffcfkihaeGreatDoorSprM
import Derived.Test.YtclnjhffcfkihaeGreatDoorLexA8
import Derived.Test.YtclnjhffcfkihaeGreatDoorCards
import Derived.Test.YtclnjhffcfkihaeGreatDoorTie
import Derived.ProofKit
import Derived.OpenShut
import Derived.Lay
import Derived.Deep.DeepHandedRow
import Derived.Stop.LaidErr
import Derived.Lib.LaidTab
import Derived.Shelf.Vars
namespace Go.Proofs.YtclnjhffcfkihaeGreatDoor
open Go.ChangeShapes Go.WideShapes Go.ChangeAt Go.RowKit
open Go.ChangeMaps (open_string shut_string)

theorem gPowType9 : (Tryz.prog.globals[1]?).map (·.type) = some 157 := by kernel_rfl
theorem cellsPow9 : Tryz.prog.cellsOf 157 = 20 := by kernel_rfl
theorem cellsU64 : Tryz.prog.cellsOf 133 = 1 := by kernel_rfl
theorem powData9 : (Rows.laid_internal_strconv_uint64pow10 : DataW Unit) = Lib.tabData .u64 Lib.pow10Tab := by kernel_rfl
/-- What the row's list gives: the variables that the program reads. -/
theorem syntaxTwice_env {W : World} (h : laidMetH Tryz.prog Rows.syntaxTwiceRow.laid W) (hz : 6 ≤ W.heap.size) : LEnv W ∧ PowE W := by
  rw [MakeChecks.laidMetH_plain _ _ _ (by kernel_rfl)] at h
  have h3 := h.tail.tail.tail
  obtain ⟨r0, _, hr, _, _, _⟩ := laid_sentinel h3 gRange gRangeType Tryz.underlying102 rowErr Tryz.underlying169 Tryz.underlying171 rfl rfl Tryz.underlying9 cellsErr cellsStr
  refine ⟨⟨⟨_, _, hr⟩, ?_, hz⟩, ⟨?_, hz⟩⟩
  · exact strs_of_head (zs := signsL) signsName gSignsType Tryz.underlying125 Tryz.underlying9 cellsStr cellsSigns h3.tail.tail
  · have h4 : laidMet Tryz.prog (("internal/strconv.uint64pow10", Rows.laid_internal_strconv_uint64pow10) :: _) W := h.tail.tail
    rw [powData9] at h4
    exact Lib.tabIs_of_head powG gPowType9 Tryz.underlying157 Tryz.underlying133 cellsU64 cellsPow9 h4

set_option maxRecDepth 100000 in
theorem syntaxTwice_lifted (os : Os) (started : os.Started) (H : Type) (enc : TypeId × Value → H) (F : Stop.Interp) :
    ReturnsInHanded {} Tryz.checked os 5 .any ((OpenSpec.ofChange Rows.syntaxTwiceSpec).preRow enc Tryz.prog Tryz.f5 Rows.syntaxTwiceRow.domain false Rows.syntaxTwiceRow.laid) (((OpenSpec.ofChange Rows.syntaxTwiceSpec).at F).post enc Tryz.prog Tryz.f5 false true false false) := by
  refine returnsInHanded_of_row (C := Tryz.checked) (s := OpenSpec.ofChange Rows.syntaxTwiceSpec) Tryz.own started (by kernel_rfl) Tryz.func5
    (ChangeSpec.witness_shaped (enc := enc) (C := Tryz.checked) (os := os) (s := Rows.syntaxTwiceSpec) (conds := Rows.syntaxTwiceRow.domain) (X := fun w _ => laidMetH Tryz.prog Rows.syntaxTwiceRow.laid w) false (World.laidAll Tryz.prog os Rows.syntaxTwiceRow.laid) #[.string ⟨#[]⟩] 8 (World.laidAll_os _ _ _)
      (World.shaped_of_ZipB (by kernel_rfl) (by kernel_rfl)) (by kernel_rfl) (by kernel_rfl) (by kernel_rfl)
      (by rw [MakeChecks.laidMetH_plain _ _ _ (by kernel_rfl)]; exact laidMet_laidAll _ (by kernel_rfl) (by kernel_rfl))) ?_
  intro W base args ds gs before hval0 hW _ _ _ hL hsh _
  have hval : ∀ (j : Nat) t v, Tryz.f5.params[j]? = some t → args[j]? = some v → Value.okWide Tryz.prog W .any base t v := hval0
  have hW' := hW
  obtain ⟨p, q, hA0, hV, rfl, hfz, hnd⟩ := hW
  have hA : DataW.TrodAll enc Tryz.prog W 0 (fun _ => true) true Tryz.f5.params.toList args.toList ds p := hA0
  rw [Tryz.params5] at hA hval
  obtain ⟨v0, d0, hargs, rfl, h0⟩ := trodAll_one hA
  obtain rfl : args = #[v0] := by cases args; simp_all
  obtain ⟨rfl, rfl⟩ := trodVars_none hV
  obtain ⟨s, rfl, rfl, rfl, hs⟩ := open_string Tryz.underlying9 (hval 0 9 v0 rfl rfl) h0
  clear hA0 hval0
  simp only [List.append_nil] at hW'
  have hE := syntaxTwice_env hL (by have := shaped_size hsh (6 - 1) (of_decide_eq_true (by kernel_rfl)) (by kernel_rfl); omega)
  refine (synTwice_any s W hE.1 hE.2).mono fun e W' ⟨he, hb⟩ => ?_
  subst he
  exact ⟨_, rfl, _, _, _, [], [], [], hW', trodAll_mk1 (shut_bool Tryz.underlying4 true), trodAll_mk1 (shut_string Tryz.underlying9 hs), rfl, hb.frame _, fun h => by cases h⟩

theorem syntaxTwice_said : Rows.SyntaxTwiceSaid :=
  OpenClaim.holds_of_cond 5 Tryz.f5 rfl rfl rfl rfl rfl rfl rfl ⟨rfl, rfl, rfl, rfl, rfl⟩ rfl rfl rfl rfl rfl (by kernel_rfl) Tryz.func5 (by kernel_rfl)
    (of_decide_eq_true (by kernel_rfl)) (by unfold Func.isWrapper; first | (rw [if_pos (by decide +kernel)]; kernel_rfl) | (rw [if_neg (by decide +kernel)]; exact ⟨rfl, rfl⟩))
    (fun os started H enc _ F => by rw [OpenClaim.pre_eq_preRow]; exact syntaxTwice_lifted os started H enc F)

theorem syntaxTwice_plain (f : FuncId) (fn : Func) (hf : Tryz.pinned.checked.prog.funcNamed "sluice/sluicekeep.SyntaxTwice" = some f) (hfn : Tryz.pinned.checked.prog.funcs[f]? = some fn) :
    true = Tryz.pinned.checked.prog.looks [] ∧ ∀ (j : Nat) t, fn.params[j]? = some t → Tryz.pinned.checked.prog.wantsStandIn t = false := by
  obtain rfl : f = 5 := Option.some.inj ((show Tryz.prog.funcNamed "sluice/sluicekeep.SyntaxTwice" = some 5 by kernel_rfl).symm.trans hf) |>.symm
  obtain rfl : fn = Tryz.f5 := (Option.some.inj (Tryz.func5.symm.trans hfn)).symm
  refine ⟨by kernel_rfl, fun j t ht => ?_⟩
  rw [Tryz.params5] at ht
  obtain rfl : t = 9 := by simpa using Array.mem_of_getElem? ht
  exact (show Tryz.prog.wantsStandIn 9 = false by kernel_rfl)

/-- THE LAW OF WHAT IS PRINTED TWICE: what is printed is printed as it stands. -/
theorem syntaxTwice_holds : Rows.SyntaxTwiceCardSaid :=
  Claim7.holds_tied_plain_at .later [] _ _ _ _ syntaxTwice_said (fun _ h => by cases h) (by kernel_rfl) (fun _ h => by cases h) syntaxTwice_row_tie rfl ⟨rfl, rfl⟩ (by kernel_rfl) rfl syntaxTwice_plain (by kernel_rfl)

#print axioms syntaxTwice_holds

end Go.Proofs.YtclnjhffcfkihaeGreatDoor
