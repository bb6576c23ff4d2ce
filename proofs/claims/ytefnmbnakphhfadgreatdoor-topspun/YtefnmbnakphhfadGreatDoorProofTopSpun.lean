/-
  Proved: for every program that is handed in, whatever it holds and however its memory is shared: where Link makes a program of it, TSO tells all outcomes of both, and none of the first one fell, each outcome of the one that is Done is one of the other, but for the words behind the first one's, and the other way round (G2); and Link makes six orders, one word and no lock of a program of two orders; the call comes back, and the program that was handed in reads afterwards as it read before. Condition: the package-level tables of Go's library that the row lists hold what their initialisers lay (tied to the program's text by the card).
-/
import Derived.Test.YtefnmbnakphhfadGreatDoorLawSpun2
import Derived.Test.YtefnmbnakphhfadGreatDoorCards
import Derived.Test.YtefnmbnakphhfadGreatDoorTie
import Derived.ProofKit
import Derived.OpenShut
import Derived.Lay
import Derived.Deep.DeepHandedRow
import Derived.Stop.LaidErr
namespace Go.Proofs.YtefnmbnakphhfadGreatDoor
open Go.ChangeShapes Go.WideShapes Go.ChangeAt Go.RowKit Go.Joins Go.Deep

theorem gPow : Tryz.prog.globalNamed "internal/strconv.uint64pow10" = some 0 := by kernel_rfl
theorem gPowType : (Tryz.prog.globals[0]?).map (·.type) = some 189 := by kernel_rfl
theorem cellsPow : Tryz.prog.cellsOf 189 = 20 := by kernel_rfl
theorem cellsU64 : Tryz.prog.cellsOf 158 = 1 := by kernel_rfl
theorem powData : (Rows.laid_internal_strconv_uint64pow10 : DataW Unit) = Lib.tabData .u64 Lib.pow10Tab := by kernel_rfl
/-- The table of powers. -/
theorem tab_of {W : World} (h : laidMetH Tryz.prog Rows.topSpunRow.laid W) : TabB W.heap.size W := by
  rw [MakeChecks.laidMetH_plain _ _ _ (by kernel_rfl)] at h
  have h2 := h.tail.tail
  have h3 : laidMet Tryz.prog (("internal/strconv.uint64pow10", Rows.laid_internal_strconv_uint64pow10) :: _) W := h2
  rw [powData] at h3
  exact Lib.tabBelow_of_tabIs (Lib.tabIs_of_head gPow gPowType Tryz.underlying189 Tryz.underlying158 cellsU64 cellsPow h3)

set_option maxRecDepth 100000 in
theorem tsp_lifted (os : Os) (started : os.Started) (H : Type) (enc : TypeId × Value → H) (F : Stop.Interp) :
    ReturnsInHanded {} Tryz.checked os 5 .any ((OpenSpec.ofChange Rows.topSpunSpec).preRow enc Tryz.prog Tryz.f5 Rows.topSpunRow.domain false Rows.topSpunRow.laid) (((OpenSpec.ofChange Rows.topSpunSpec).at F).post enc Tryz.prog Tryz.f5 false true false false) := by
  refine returnsInHanded_of_row (C := Tryz.checked) (s := OpenSpec.ofChange Rows.topSpunSpec) Tryz.own started (by kernel_rfl) Tryz.func5
    (ChangeSpec.witness_shaped (enc := enc) (C := Tryz.checked) (os := os) (s := Rows.topSpunSpec) (conds := Rows.topSpunRow.domain) (X := fun w _ => laidMetH Tryz.prog Rows.topSpunRow.laid w) false (World.laidAll Tryz.prog os Rows.topSpunRow.laid) #[.agg #[.slice none 0 0, .slice none 0 0, .int .i64 0, .int .i64 0]] 8 (World.laidAll_os _ _ _)
      (World.shaped_of_ZipB (by kernel_rfl) (by kernel_rfl)) (by kernel_rfl) (by kernel_rfl) (by kernel_rfl)
      (by rw [MakeChecks.laidMetH_plain _ _ _ (by kernel_rfl)]; exact laidMet_laidAll _ (by kernel_rfl) (by kernel_rfl))) ?_
  intro W base args ds gs before hval0 hW _ _ _ hL hsh _
  have hval : ∀ (j : Nat) t v, Tryz.f5.params[j]? = some t → args[j]? = some v → Value.okWide Tryz.prog W .any base t v := hval0
  have hW' := hW
  obtain ⟨p, q, hA0, hV, rfl, hfz, hnd⟩ := hW
  have hA : DataW.TrodAll enc Tryz.prog W 0 (fun _ => true) true Tryz.f5.params.toList args.toList ds p := hA0
  rw [Tryz.params5] at hA hval
  obtain ⟨v0, d0, hargs, rfl, h0⟩ := trodAll_one hA
  obtain rfl : args = #[v0] := by cases args; simp_all
  obtain ⟨rfl, rfl⟩ := trodVars_none hV
  obtain ⟨ca, n, cc, wa, words, wc, lk, rg, A, L, C, X, rfl, hm, hp, hw, hnil, hfit, hwf⟩ := open_prog3 (hval 0 25 v0 rfl rfl) h0
  clear hA0 hval0
  simp only [List.append_nil] at hW'
  refine (topSpun_any W ca n cc wa wc lk rg words A L C X hm hp hw hnil hfit hwf (tab_of hL)).mono fun e W' ⟨he, hb⟩ => ?_
  subst he
  have hlt : ∀ x ∈ p, x.block < W.heap.size := fun x hx => by simpa using hW'.lt x hx
  refine ⟨_, rfl, _, _, _, [], p, [], hW', ?_, ?_, rfl, hb.frame _, fun h => by cases h⟩
  · exact trodAll_mk1 (shut_bool Tryz.underlying4 true)
  · exact trodAll_mk1 (Below.trod Tryz.laidOut Tryz.readableP (of_decide_eq_true (by kernel_rfl)) h0 hb hlt)

theorem topSpun_said : Rows.TopSpunSaid :=
  OpenClaim.holds_of_cond 5 Tryz.f5 rfl rfl rfl rfl rfl rfl rfl ⟨rfl, rfl, rfl, rfl, rfl⟩ rfl rfl rfl rfl rfl (by kernel_rfl) Tryz.func5 (by kernel_rfl)
    (of_decide_eq_true (by kernel_rfl)) (by unfold Func.isWrapper; first | (rw [if_pos (by decide +kernel)]; kernel_rfl) | (rw [if_neg (by decide +kernel)]; exact ⟨rfl, rfl⟩))
    (fun os started H enc _ F => by rw [OpenClaim.pre_eq_preRow]; exact tsp_lifted os started H enc F)

theorem tsp_plain (f : FuncId) (fn : Func) (hf : Tryz.pinned.checked.prog.funcNamed "sluice/sluicetop.TopSpun" = some f) (hfn : Tryz.pinned.checked.prog.funcs[f]? = some fn) :
    false = Tryz.pinned.checked.prog.looks [] ∧ ∀ (j : Nat) t, fn.params[j]? = some t → Tryz.pinned.checked.prog.wantsStandIn t = false := by
  obtain rfl : f = 5 := Option.some.inj ((show Tryz.prog.funcNamed "sluice/sluicetop.TopSpun" = some 5 by kernel_rfl).symm.trans hf) |>.symm
  obtain rfl : fn = Tryz.f5 := (Option.some.inj (Tryz.func5.symm.trans hfn)).symm
  refine ⟨by kernel_rfl, fun j t ht => ?_⟩
  rw [Tryz.params5] at ht
  obtain rfl : t = 25 := by simpa using Array.mem_of_getElem? ht
  exact (show Tryz.prog.wantsStandIn 25 = false by kernel_rfl)

/-- THE LAW OF LINKED PROGRAMS, by the program's own machines: for all programs. -/
theorem topSpun_holds : Rows.TopSpunCardSaid :=
  Claim7.holds_tied_plain_at .later [] _ _ _ _ topSpun_said (fun _ h => by cases h) (by kernel_rfl) (fun _ h => by cases h) topSpun_row_tie rfl ⟨rfl, rfl⟩ (by kernel_rfl) rfl tsp_plain (by kernel_rfl)

#print axioms topSpun_holds

end Go.Proofs.YtefnmbnakphhfadGreatDoor
