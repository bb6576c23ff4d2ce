/-
  Proved: for every program and every script that are handed in, whatever they hold and however their memory is shared: what the program's Run of either kind makes of them is, where it comes to an end, one of the outcomes that SC, or TSO, tell, where these tell any; and each outcome that SC tells is one that TSO tells; of the statement's own program SC tells fewer outcomes than TSO, and Robust says no (D2, D3); the call comes back, and what was handed in reads afterwards as it read before. Condition: the package-level tables of Go's library that the row lists hold what their initialisers lay (tied to the program's text by the card).
-/
import Derived.Test.YtipdnfpomdcenabGreatDoorLawRuns
import Derived.Test.YtipdnfpomdcenabGreatDoorOcCmp
import Derived.Test.YtipdnfpomdcenabGreatDoorCards
import Derived.Test.YtipdnfpomdcenabGreatDoorTie
import Derived.ProofKit
import Derived.OpenShut
import Derived.Lay
import Derived.Deep.DeepHandedRow
import Derived.Stop.LaidErr
namespace Go.Proofs.YtipdnfpomdcenabGreatDoor
open Go.ChangeShapes Go.WideShapes Go.ChangeAt Go.RowKit Go.Joins Go.Deep

theorem gPow : Tryz.prog.globalNamed "internal/strconv.uint64pow10" = some 0 := by kernel_rfl
theorem gPowType : (Tryz.prog.globals[0]?).map (·.type) = some 232 := by kernel_rfl
theorem cellsPow : Tryz.prog.cellsOf 232 = 20 := by kernel_rfl
theorem cellsU64 : Tryz.prog.cellsOf 197 = 1 := by kernel_rfl
theorem powData : (Rows.laid_internal_strconv_uint64pow10 : DataW Unit) = Lib.tabData .u64 Lib.pow10Tab := by kernel_rfl
/-- The table of powers. -/
theorem tab_of {W : World} (h : laidMetH Tryz.prog Rows.spaceRunsRow.laid W) : TabB W.heap.size W := by
  rw [MakeChecks.laidMetH_plain _ _ _ (by kernel_rfl)] at h
  have h2 := h.tail.tail
  have h3 : laidMet Tryz.prog (("internal/strconv.uint64pow10", Rows.laid_internal_strconv_uint64pow10) :: _) W := h2
  rw [powData] at h3
  exact Lib.tabBelow_of_tabIs (Lib.tabIs_of_head gPow gPowType Tryz.underlying232 Tryz.underlying197 cellsU64 cellsPow h3)

set_option maxRecDepth 100000 in
theorem runs_lifted (os : Os) (started : os.Started) (H : Type) (enc : TypeId × Value → H) (F : Stop.Interp) :
    ReturnsInHanded {} Tryz.checked os 5 .any ((OpenSpec.ofChange Rows.spaceRunsSpec).preRow enc Tryz.prog Tryz.f5 Rows.spaceRunsRow.domain false Rows.spaceRunsRow.laid) (((OpenSpec.ofChange Rows.spaceRunsSpec).at F).post enc Tryz.prog Tryz.f5 false true false false) := by
  refine returnsInHanded_of_row (C := Tryz.checked) (s := OpenSpec.ofChange Rows.spaceRunsSpec) Tryz.own started (by kernel_rfl) Tryz.func5
    (ChangeSpec.witness_shaped (enc := enc) (C := Tryz.checked) (os := os) (s := Rows.spaceRunsSpec) (conds := Rows.spaceRunsRow.domain) (X := fun w _ => laidMetH Tryz.prog Rows.spaceRunsRow.laid w) false (World.laidAll Tryz.prog os Rows.spaceRunsRow.laid) #[.agg #[.slice none 0 0, .slice none 0 0, .int .i64 0, .int .i64 0], .slice none 0 0] 8 (World.laidAll_os _ _ _)
      (World.shaped_of_ZipB (by kernel_rfl) (by kernel_rfl)) (by kernel_rfl) (by kernel_rfl) (by kernel_rfl)
      (by rw [MakeChecks.laidMetH_plain _ _ _ (by kernel_rfl)]; exact laidMet_laidAll _ (by kernel_rfl) (by kernel_rfl))) ?_
  intro W base args ds gs before hval0 hW _ _ _ hL hsh _
  have hval : ∀ (j : Nat) t v, Tryz.f5.params[j]? = some t → args[j]? = some v → Value.okWide Tryz.prog W .any base t v := hval0
  have hW' := hW
  obtain ⟨p, q, hA0, hV, rfl, hfz, hnd⟩ := hW
  have hA : DataW.TrodAll enc Tryz.prog W 0 (fun _ => true) true Tryz.f5.params.toList args.toList ds p := hA0
  rw [Tryz.params5] at hA hval
  obtain ⟨v0, v1, d0, d1, p0, p1, rfl, rfl, rfl, h0, h1⟩ := trodAll_two hA
  obtain ⟨rfl, rfl⟩ := trodVars_none hV
  obtain ⟨ca, n, cc, wa, words, wc, lk, rg, A, L, C, X, rfl, hm, hp, hw, hnil, hfit, hwf⟩ := open_prog3 (hval 0 25 v0 rfl rfl) h0
  have hv1 := hval 1 23 v1 rfl rfl
  obtain ⟨sa, script, sc, rfl, hl, hml, hsi, hsn⟩ : ∃ (sa : Option Addr) (xs : List Int) (sc : Nat), v1 = .slice sa xs.length sc ∧ xs.length ≤ sc ∧ sc ≤ maxLen ∧ SIs W sa xs ∧ (sa = none → xs = [] ∧ sc = 0) := by
    obtain ⟨sa, sl, sc, rfl⟩ := okWide_slice Tryz.underlying23 hv1
    obtain ⟨fuel, hf⟩ := h1
    exact open_ints (fuel := fuel) hf
  clear hA0 hval0
  simp only [List.append_nil] at hW'
  refine (spaceRuns_any W ca n cc wa wc lk rg words script sa sc A L C X hm hp hw hnil hfit hwf (tab_of hL) (by unfold maxLen at hml; omega) hsi hl (fun b o e => ?_)).mono fun e W' ⟨he, hb⟩ => ?_
  · subst e
    exact slice_lt Tryz.underlying23 hv1
  subst he
  have hlt : ∀ x ∈ p0 ++ p1, x.block < W.heap.size := fun x hx => by simpa using hW'.lt x hx
  refine ⟨_, rfl, _, _, _, [], p0 ++ p1, [], hW', ?_, ?_, rfl, hb.frame _, fun h => by cases h⟩
  · exact trodAll_mk1 (shut_bool Tryz.underlying4 true)
  · exact trodAll_mk2 (Below.trod Tryz.laidOut Tryz.readableP (of_decide_eq_true (by kernel_rfl)) h0 hb (fun x hx => hlt x (by simp [hx]))) (Below.trod Tryz.laidOut Tryz.readableI (of_decide_eq_true (by kernel_rfl)) h1 hb (fun x hx => hlt x (by simp [hx])))

theorem spaceRuns_said : Rows.SpaceRunsSaid :=
  OpenClaim.holds_of_cond 5 Tryz.f5 rfl rfl rfl rfl rfl rfl rfl ⟨rfl, rfl, rfl, rfl, rfl⟩ rfl rfl rfl rfl rfl (by kernel_rfl) Tryz.func5 (by kernel_rfl)
    (of_decide_eq_true (by kernel_rfl)) (by unfold Func.isWrapper; first | (rw [if_pos (by decide +kernel)]; kernel_rfl) | (rw [if_neg (by decide +kernel)]; exact ⟨rfl, rfl⟩))
    (fun os started H enc _ F => by rw [OpenClaim.pre_eq_preRow]; exact runs_lifted os started H enc F)

theorem runs_plain (f : FuncId) (fn : Func) (hf : Tryz.pinned.checked.prog.funcNamed "sluice/sluicekeep.SpaceRuns" = some f) (hfn : Tryz.pinned.checked.prog.funcs[f]? = some fn) :
    false = Tryz.pinned.checked.prog.looks [] ∧ ∀ (j : Nat) t, fn.params[j]? = some t → Tryz.pinned.checked.prog.wantsStandIn t = false := by
  obtain rfl : f = 5 := Option.some.inj ((show Tryz.prog.funcNamed "sluice/sluicekeep.SpaceRuns" = some 5 by kernel_rfl).symm.trans hf) |>.symm
  obtain rfl : fn = Tryz.f5 := (Option.some.inj (Tryz.func5.symm.trans hfn)).symm
  refine ⟨by kernel_rfl, fun j t ht => ?_⟩
  rw [Tryz.params5] at ht
  obtain rfl | rfl : t = 25 ∨ t = 23 := by simpa using Array.mem_of_getElem? ht
  · exact (show Tryz.prog.wantsStandIn 25 = false by kernel_rfl)
  · exact (show Tryz.prog.wantsStandIn 23 = false by kernel_rfl)

/-- THE LAW OF SCRIPTS AND OUTCOMES: what a script makes of a program is one of the outcomes that are told, without and with stores that wait; each outcome without is one with. -/
theorem spaceRuns_holds : Rows.SpaceRunsCardSaid :=
  Claim7.holds_tied_plain_at .later [] _ _ _ _ spaceRuns_said (fun _ h => by cases h) (by kernel_rfl) (fun _ h => by cases h) spaceRuns_row_tie rfl ⟨rfl, rfl⟩ (by kernel_rfl) rfl runs_plain (by kernel_rfl)

#print axioms spaceRuns_holds

end Go.Proofs.YtipdnfpomdcenabGreatDoor
