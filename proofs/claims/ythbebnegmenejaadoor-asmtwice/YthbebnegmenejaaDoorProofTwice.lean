/-
  Proved: for every text, if the program's Parse reads a program from it, that program may be, and the program's Text writes it as that very text (A2 to A4); the call comes back, and the text reads afterwards as it read before. Condition: the package-level variables of the program and of Go's library that the row lists hold what their initialisers lay (tied to the program's text by the card).
-/
import Derived.Test.YthbebnegmenejaaDoorLawTwice
import Derived.Test.YthbebnegmenejaaDoorCards
import Derived.Test.YthbebnegmenejaaDoorTie
import Derived.ProofKit
import Derived.OpenShut
import Derived.Lay
import Derived.Deep.DeepHandedRow
import Derived.Stop.LaidErr
import Derived.Shelf.Vars
import Derived.Lib.LaidTab
namespace Go.Proofs.YthbebnegmenejaaDoor
open Go.ChangeShapes Go.WideShapes Go.ChangeAt Go.RowKit
open Go.ChangeMaps (open_string shut_string)

theorem Tryd.own : ownKnob Tryd.prog.godebug = none := by kernel_rfl
theorem gLine : Tryd.prog.globalNamed "sluice/asm.errLine" = some 0 := by kernel_rfl
theorem gLineType : (Tryd.prog.globals[0]?).map (·.type) = some 38 := by kernel_rfl
theorem gRange : Tryd.prog.globalNamed "strconv.ErrRange" = some 6 := by kernel_rfl
theorem gRangeType : (Tryd.prog.globals[6]?).map (·.type) = some 38 := by kernel_rfl
theorem cellsErr : Tryd.prog.cellsOf 166 = 1 := by kernel_rfl
theorem cellsStr : Tryd.prog.cellsOf 9 = 1 := by kernel_rfl
theorem starErr : "*" ++ "errors.errorString" = "*errors.errorString" := by decide
theorem rowErr (u : TypeId) (h : Tryd.prog.typeName? 3 u = some "*errors.errorString") : u = 164 :=
  typeName_ptr_named (nm := "errors.errorString") (by rw [starErr]; kernel_rfl) (by kernel_rfl) (by decide) u (by rw [starErr]; exact h)

theorem gPowType : (Tryd.prog.globals[2]?).map (·.type) = some 136 := by kernel_rfl
theorem cellsPow : Tryd.prog.cellsOf 136 = 20 := by kernel_rfl
theorem cellsU64 : Tryd.prog.cellsOf 118 = 1 := by kernel_rfl
theorem powData : (Rows.laid_internal_strconv_uint64pow10 : DataW Unit) = Lib.tabData .u64 Lib.pow10Tab := by kernel_rfl
theorem gBits : Tryd.prog.globalNamed "math/bits.deBruijn64tab" = some 8 := by kernel_rfl
/-- The table of powers, and that the variables have their blocks. -/
theorem pow_of {W : World} (h : laidMetH Tryd.prog Rows.asmTwiceRow.laid W) : Pow W ∧ 9 ≤ W.heap.size := by
  rw [MakeChecks.laidMetH_plain _ _ _ (by kernel_rfl)] at h
  have h1 := h.tail
  have h2 := h1.tail
  refine ⟨?_, ?_⟩
  · have h3 : laidMet Tryd.prog (("internal/strconv.uint64pow10", Rows.laid_internal_strconv_uint64pow10) :: _) W := h2
    rw [powData] at h3
    exact Lib.tabIs_of_head gPow gPowType Tryd.underlying136 Tryd.underlying118 cellsU64 cellsPow h3
  · obtain ⟨_, ⟨g, _, cs, _, _, _, hg, _, hv, _⟩, _⟩ := h1
    obtain rfl := Option.some.inj (gBits.symm.trans hg)
    unfold World.var? at hv
    rw [gBits] at hv
    simp only [Option.bind_some] at hv
    rcases Nat.lt_or_ge 8 W.heap.size with h3 | h3
    · exact h3
    · rw [Array.getElem?_eq_none h3] at hv
      cases hv

/-- What the row's list gives: the variables that the program reads. -/
theorem env_of {W : World} (h : laidMetH Tryd.prog Rows.asmTwiceRow.laid W) (hs : W.ShapedOpen Tryd.prog) : ∃ a, Env W 164 (.pointer (some a)) := by
  rw [MakeChecks.laidMetH_plain _ _ _ (by kernel_rfl)] at h
  have h4 := h.tail.tail.tail.tail
  obtain ⟨r0, _, hr, _, _, _⟩ := laid_sentinel h4 gRange gRangeType Tryd.underlying38 rowErr Tryd.underlying164 Tryd.underlying166 rfl rfl Tryd.underlying9 cellsErr cellsStr
  obtain ⟨e0, _, he, _, _, _⟩ := laid_sentinel h4.tail.tail gLine gLineType Tryd.underlying38 rowErr Tryd.underlying164 Tryd.underlying166 rfl rfl Tryd.underlying9 cellsErr cellsStr
  refine ⟨e0, ?_, ?_, ⟨_, _, hr⟩⟩
  · rw [World.var?_cell gLine he 0]; rfl
  · exact cell_of_shapedOpen_int (t := 3) (zero := #[.int .i64 0]) hs (of_decide_eq_true (by kernel_rfl)) (by kernel_rfl) rfl (by kernel_rfl) (by kernel_rfl) Tryd.underlying3

set_option maxRecDepth 100000 in
theorem twice_lifted (os : Os) (started : os.Started) (H : Type) (enc : TypeId × Value → H) (F : Stop.Interp) :
    ReturnsInHanded {} Tryd.checked os 4 .any ((OpenSpec.ofChange Rows.asmTwiceSpec).preRow enc Tryd.prog Tryd.f4 Rows.asmTwiceRow.domain false Rows.asmTwiceRow.laid) (((OpenSpec.ofChange Rows.asmTwiceSpec).at F).post enc Tryd.prog Tryd.f4 false true false false) := by
  refine returnsInHanded_of_row (C := Tryd.checked) (s := OpenSpec.ofChange Rows.asmTwiceSpec) Tryd.own started (by kernel_rfl) Tryd.func4
    (ChangeSpec.witness_shaped (enc := enc) (C := Tryd.checked) (os := os) (s := Rows.asmTwiceSpec) (conds := Rows.asmTwiceRow.domain) (X := fun w _ => laidMetH Tryd.prog Rows.asmTwiceRow.laid w) false (World.laidAll Tryd.prog os Rows.asmTwiceRow.laid) #[.string ⟨#[]⟩] 8 (World.laidAll_os _ _ _)
      (World.shaped_of_ZipB (by kernel_rfl) (by kernel_rfl)) (by kernel_rfl) (by kernel_rfl) (by kernel_rfl)
      (by rw [MakeChecks.laidMetH_plain _ _ _ (by kernel_rfl)]; exact laidMet_laidAll _ (by kernel_rfl) (by kernel_rfl))) ?_
  intro W base args ds gs before hval0 hW _ _ _ hL hsh _
  have hval : ∀ (j : Nat) t v, Tryd.f4.params[j]? = some t → args[j]? = some v → Value.okWide Tryd.prog W .any base t v := hval0
  have hW' := hW
  obtain ⟨p, q, hA0, hV, rfl, hfz, hnd⟩ := hW
  have hA : DataW.TrodAll enc Tryd.prog W 0 (fun _ => true) true Tryd.f4.params.toList args.toList ds p := hA0
  rw [Tryd.params4] at hA hval
  obtain ⟨v0, d0, hargs, rfl, h0⟩ := trodAll_one hA
  obtain rfl : args = #[v0] := by cases args; simp_all
  obtain ⟨rfl, rfl⟩ := trodVars_none hV
  obtain ⟨s, rfl, rfl, rfl, hs⟩ := open_string Tryd.underlying9 (hval 0 9 v0 rfl rfl) h0
  clear hA0 hval0
  simp only [List.append_nil] at hW'
  obtain ⟨a, hE⟩ := env_of hL hsh
  obtain ⟨hPw, hG⟩ := pow_of hL
  refine (asmTwice_any s (by unfold maxLen at hs; omega) a W hE hPw hG).mono fun e W' ⟨he, hb⟩ => ?_
  subst he
  exact ⟨_, rfl, _, _, _, [], [], [], hW', trodAll_mk1 (shut_bool Tryd.underlying4 true), trodAll_mk1 (shut_string Tryd.underlying9 hs), rfl, hb.frame _, fun h => by cases h⟩

theorem asmTwice_said : Rows.AsmTwiceSaid :=
  OpenClaim.holds_of_cond 4 Tryd.f4 rfl rfl rfl rfl rfl rfl rfl ⟨rfl, rfl, rfl, rfl, rfl⟩ rfl rfl rfl rfl rfl (by kernel_rfl) Tryd.func4 (by kernel_rfl)
    (of_decide_eq_true (by kernel_rfl)) (by unfold Func.isWrapper; first | (rw [if_pos (by decide +kernel)]; kernel_rfl) | (rw [if_neg (by decide +kernel)]; exact ⟨rfl, rfl⟩))
    (fun os started H enc _ F => by rw [OpenClaim.pre_eq_preRow]; exact twice_lifted os started H enc F)

theorem twice_plain (f : FuncId) (fn : Func) (hf : Tryd.pinned.checked.prog.funcNamed "sluice/sluicekeep.AsmTwice" = some f) (hfn : Tryd.pinned.checked.prog.funcs[f]? = some fn) :
    true = Tryd.pinned.checked.prog.looks [] ∧ ∀ (j : Nat) t, fn.params[j]? = some t → Tryd.pinned.checked.prog.wantsStandIn t = false := by
  obtain rfl : f = 4 := Option.some.inj ((show Tryd.prog.funcNamed "sluice/sluicekeep.AsmTwice" = some 4 by kernel_rfl).symm.trans hf) |>.symm
  obtain rfl : fn = Tryd.f4 := (Option.some.inj (Tryd.func4.symm.trans hfn)).symm
  refine ⟨by kernel_rfl, fun j t ht => ?_⟩
  rw [Tryd.params4] at ht
  obtain rfl : t = 9 := by simpa using Array.mem_of_getElem? ht
  exact (show Tryd.prog.wantsStandIn 9 = false by kernel_rfl)

/-- THE LAW OF PARSE AND TEXT: what is read from a text is a program that may be, and is written as one that is read again. -/
theorem asmTwice_holds : Rows.AsmTwiceCardSaid :=
  Claim7.holds_tied_plain_at .later [] _ _ _ _ asmTwice_said (fun _ h => by cases h) (by kernel_rfl) (fun _ h => by cases h) asmTwice_row_tie rfl ⟨rfl, rfl⟩ (by kernel_rfl) rfl twice_plain (by kernel_rfl)

#print axioms asmTwice_holds

end Go.Proofs.YthbebnegmenejaaDoor
