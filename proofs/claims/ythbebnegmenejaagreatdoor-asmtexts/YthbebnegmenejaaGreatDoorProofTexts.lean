/-
  Proved: for every program that is handed in, whatever it holds and however its memory is shared, the program's Text answers what the document's answer is, text or fault (A3), and the program's Parse reads that text back as the same program, or says that it is too long (A4); the call comes back, and the program that was handed in reads afterwards as it read before. Condition: the package-level variables of the program and of Go's library that the row lists hold what their initialisers lay (tied to the program's text by the card).
-/
import Derived.Test.YthbebnegmenejaaGreatDoorLawTexts
import Derived.Test.YthbebnegmenejaaGreatDoorRead
import Derived.Test.YthbebnegmenejaaGreatDoorCards
import Derived.Test.YthbebnegmenejaaGreatDoorTie
import Derived.ProofKit
import Derived.OpenShut
import Derived.Lay
import Derived.Deep.DeepHandedRow
import Derived.Stop.LaidErr
import Derived.Shelf.Vars
import Derived.Lib.LaidTab
namespace Go.Proofs.YthbebnegmenejaaGreatDoor
open Go.ChangeShapes Go.WideShapes Go.ChangeAt Go.RowKit Go.Joins Go.Deep

theorem Tryz.own : ownKnob Tryz.prog.godebug = none := by kernel_rfl
theorem gLine : Tryz.prog.globalNamed "sluice/asm.errLine" = some 0 := by kernel_rfl
theorem gLineType : (Tryz.prog.globals[0]?).map (·.type) = some 62 := by kernel_rfl
theorem gRange : Tryz.prog.globalNamed "strconv.ErrRange" = some 8 := by kernel_rfl
theorem gRangeType : (Tryz.prog.globals[8]?).map (·.type) = some 62 := by kernel_rfl
theorem cellsErr : Tryz.prog.cellsOf 163 = 1 := by kernel_rfl
theorem cellsStr : Tryz.prog.cellsOf 9 = 1 := by kernel_rfl
theorem starErr : "*" ++ "errors.errorString" = "*errors.errorString" := by decide
theorem rowErr (u : TypeId) (h : Tryz.prog.typeName? 3 u = some "*errors.errorString") : u = 161 :=
  typeName_ptr_named (nm := "errors.errorString") (by rw [starErr]; kernel_rfl) (by kernel_rfl) (by decide) u (by rw [starErr]; exact h)

theorem gPowType : (Tryz.prog.globals[1]?).map (·.type) = some 131 := by kernel_rfl
theorem cellsPow : Tryz.prog.cellsOf 131 = 20 := by kernel_rfl
theorem cellsU64 : Tryz.prog.cellsOf 118 = 1 := by kernel_rfl
theorem powData : (Rows.laid_internal_strconv_uint64pow10 : DataW Unit) = Lib.tabData .u64 Lib.pow10Tab := by kernel_rfl
/-- The table of powers, and that the variables have their blocks. -/
theorem pow_of {W : World} (h : laidMetH Tryz.prog Rows.asmTextsRow.laid W) : Pow W ∧ 9 ≤ W.heap.size := by
  rw [MakeChecks.laidMetH_plain _ _ _ (by kernel_rfl)] at h
  have h2 := h.tail.tail
  have h4 := h2.tail.tail
  refine ⟨?_, ?_⟩
  · have h3 : laidMet Tryz.prog (("internal/strconv.uint64pow10", Rows.laid_internal_strconv_uint64pow10) :: _) W := h2
    rw [powData] at h3
    exact Lib.tabIs_of_head gPow gPowType Tryz.underlying131 Tryz.underlying118 cellsU64 cellsPow h3
  · obtain ⟨_, ⟨g, _, cs, _, _, _, hg, _, hv, _⟩, _⟩ := h4
    obtain rfl := Option.some.inj (gRange.symm.trans hg)
    unfold World.var? at hv
    rw [gRange] at hv
    simp only [Option.bind_some] at hv
    rcases Nat.lt_or_ge 8 W.heap.size with h3 | h3
    · exact h3
    · rw [Array.getElem?_eq_none h3] at hv
      cases hv

/-- What the row's list gives: the variables that the program reads. -/
theorem env_of {W : World} (h : laidMetH Tryz.prog Rows.asmTextsRow.laid W) (hs : W.ShapedOpen Tryz.prog) : ∃ a, Env W 161 (.pointer (some a)) := by
  rw [MakeChecks.laidMetH_plain _ _ _ (by kernel_rfl)] at h
  have h4 := h.tail.tail.tail.tail
  obtain ⟨r0, _, hr, _, _, _⟩ := laid_sentinel h4 gRange gRangeType Tryz.underlying62 rowErr Tryz.underlying161 Tryz.underlying163 rfl rfl Tryz.underlying9 cellsErr cellsStr
  obtain ⟨e0, _, he, _, _, _⟩ := laid_sentinel h4.tail.tail gLine gLineType Tryz.underlying62 rowErr Tryz.underlying161 Tryz.underlying163 rfl rfl Tryz.underlying9 cellsErr cellsStr
  refine ⟨e0, ?_, ?_, ⟨_, _, hr⟩⟩
  · rw [World.var?_cell gLine he 0]; rfl
  · exact cell_of_shapedOpen_int (t := 3) (zero := #[.int .i64 0]) hs (of_decide_eq_true (by kernel_rfl)) (by kernel_rfl) rfl (by kernel_rfl) (by kernel_rfl) Tryz.underlying3

theorem Tryz.laidOut : laidOutB Tryz.prog = true := by kernel_rfl
theorem Tryz.readableP : Tryz.prog.readableRec 25 = true := by kernel_rfl
theorem i64_of {v : Int} (h : (Lit.int .i64 v).wf = true) : I64 v := by
  have e : IntKind.i64.min = -9223372036854775808 := rfl
  simpa [Lit.wf, I64, e] using h

set_option maxRecDepth 100000 in
/-- A program that is handed in, opened: its orders and its words. -/
theorem open_prog {H : Type} {enc : TypeId × Value → H} {W : World} {b0 : Nat} {v : Value} {d : DataW H} {p : List MemPlace} (hv : Value.okWide Tryz.prog W .any b0 25 v) (h : DataW.Trod enc Tryz.prog W 0 (fun _ => true) true 25 v d p) :
    ∃ (ca : Option Addr) (n cc : Nat) (wa : Option Addr) (words : List Int) (wc : Nat) (lk rg : Int) (A : Nat → Option Addr) (L C : Nat → Nat) (X : Nat → Nat → Nat → Int), v = prgV ca n cc wa words.length wc lk rg ∧ words.length ≤ 9223372036854775807 ∧ PIn W ca n A L C X ∧ (∀ t i j, t < n → i < L t → I64 (X t i j)) ∧ NIn W wa words ∧ ∀ v ∈ words, I64 v := by
  obtain ⟨c0, c1, c2, c3, y0, y1, y2, y3, m, rfl, _, _, h0, h1, h2, h3⟩ := open_agg4 Tryz.underlying25 (by kernel_rfl) cells25 hv h
  obtain ⟨ca, n, cc, A, L, C, X, rfl, hp, hw⟩ := read_code h0
  obtain ⟨lk, e2, _, _⟩ := DataW.trod_int Tryz.underlying3 h2
  obtain ⟨rg, e3, _, _⟩ := DataW.trod_int Tryz.underlying3 h3
  simp at e2 e3
  subst e2 e3
  have hp' := hp.congr (L' := L) (X' := fun t i q => if q < 4 then X t i q else 0) (fun _ _ => rfl) (fun t i q _ _ hq => (if_pos hq).symm)
  have hw' : ∀ t i j, t < n → i < L t → I64 ((fun t i q => if q < 4 then X t i q else 0) t i j) := fun t i j ht hi => by
    by_cases hj : j < 4
    · simp only [if_pos hj]
      exact i64_of (hw t i j ht hi hj)
    · simp only [if_neg hj]
      exact ⟨by decide, by decide⟩
  rcases open_slice1 Tryz.underlying23 cells3 h1 with ⟨hcs, _⟩ | ⟨a, len, cap, _, _, V, _, _, hcs, _, hl, hm, hmm, _, hx⟩
  · simp at hcs
    subst hcs
    exact ⟨ca, n, cc, none, [], 0, lk, rg, A, L, C, _, rfl, by simp, hp', hw', fun i hi => absurd hi (Nat.not_lt_zero _), fun v hv => by cases hv⟩
  · simp at hcs hmm
    subst hcs
    obtain ⟨Y, hY⟩ := choose_lt (α := Int) (p := fun i (y : Int) => W.cell? (a.add i) = some (.int .i64 y) ∧ I64 y) (n := len) (fun i hi => by
      obtain ⟨x1, x2⟩ := hx i (by omega)
      obtain ⟨y, e, _, wf⟩ := DataW.trod_int Tryz.underlying3 x2
      simp at e
      exact ⟨y, by rw [x1, e], i64_of wf⟩)
    have hlen : ((List.range len).map Y).length = len := by simp
    refine ⟨ca, n, cc, some a, (List.range len).map Y, cap, lk, rg, A, L, C, _, by rw [hlen], by rw [hlen]; unfold maxLen at hm; omega, hp', hw', fun i hi => ?_, fun v hv => ?_⟩
    · rw [hlen] at hi
      obtain ⟨b, o, sp⟩ := a
      have hsp : sp = none := by simpa [Addr.add] using World.cell?_spot (hY 0 (by omega)).1
      subst hsp
      refine ⟨b, o, rfl, ?_⟩
      rw [← Go.WideShapes.add_plain, (hY i hi).1]
      simp [List.getD, hi]
    · simp only [List.mem_map, List.mem_range] at hv
      obtain ⟨i, hi, rfl⟩ := hv
      exact (hY i hi).2

set_option maxRecDepth 100000 in
theorem texts_lifted (os : Os) (started : os.Started) (H : Type) (enc : TypeId × Value → H) (F : Stop.Interp) :
    ReturnsInHanded {} Tryz.checked os 3 .any ((OpenSpec.ofChange Rows.asmTextsSpec).preRow enc Tryz.prog Tryz.f3 Rows.asmTextsRow.domain false Rows.asmTextsRow.laid) (((OpenSpec.ofChange Rows.asmTextsSpec).at F).post enc Tryz.prog Tryz.f3 false true false false) := by
  refine returnsInHanded_of_row (C := Tryz.checked) (s := OpenSpec.ofChange Rows.asmTextsSpec) Tryz.own started (by kernel_rfl) Tryz.func3
    (ChangeSpec.witness_shaped (enc := enc) (C := Tryz.checked) (os := os) (s := Rows.asmTextsSpec) (conds := Rows.asmTextsRow.domain) (X := fun w _ => laidMetH Tryz.prog Rows.asmTextsRow.laid w) false (World.laidAll Tryz.prog os Rows.asmTextsRow.laid) #[.agg #[.slice none 0 0, .slice none 0 0, .int .i64 0, .int .i64 0]] 8 (World.laidAll_os _ _ _)
      (World.shaped_of_ZipB (by kernel_rfl) (by kernel_rfl)) (by kernel_rfl) (by kernel_rfl) (by kernel_rfl)
      (by rw [MakeChecks.laidMetH_plain _ _ _ (by kernel_rfl)]; exact laidMet_laidAll _ (by kernel_rfl) (by kernel_rfl))) ?_
  intro W base args ds gs before hval0 hW _ _ _ hL hsh _
  have hval : ∀ (j : Nat) t v, Tryz.f3.params[j]? = some t → args[j]? = some v → Value.okWide Tryz.prog W .any base t v := hval0
  have hW' := hW
  obtain ⟨p, q, hA0, hV, rfl, hfz, hnd⟩ := hW
  have hA : DataW.TrodAll enc Tryz.prog W 0 (fun _ => true) true Tryz.f3.params.toList args.toList ds p := hA0
  rw [Tryz.params3] at hA hval
  obtain ⟨v0, d0, hargs, rfl, h0⟩ := trodAll_one hA
  obtain rfl : args = #[v0] := by cases args; simp_all
  obtain ⟨rfl, rfl⟩ := trodVars_none hV
  obtain ⟨ca, n, cc, wa, words, wc, lk, rg, A, L, C, X, rfl, hm, hp, hX, hi, hw⟩ := open_prog (hval 0 25 v0 rfl rfl) h0
  clear hA0 hval0
  simp only [List.append_nil] at hW'
  obtain ⟨a, hE⟩ := env_of hL hsh
  obtain ⟨hPw, hG⟩ := pow_of hL
  refine (asmTexts_any ca n cc wa wc lk rg A L C X words hm hX hw a W hp hi hE hPw hG).mono fun e W' ⟨he, hb⟩ => ?_
  subst he
  have hlt : ∀ x ∈ p, x.block < W.heap.size := fun x hx => by simpa using hW'.lt x hx
  refine ⟨_, rfl, _, _, _, [], p, [], hW', ?_, ?_, rfl, hb.frame _, fun h => by cases h⟩
  · exact trodAll_mk1 (shut_bool Tryz.underlying4 true)
  · exact trodAll_mk1 (Below.trod Tryz.laidOut Tryz.readableP (of_decide_eq_true (by kernel_rfl)) h0 hb hlt)

theorem asmTexts_said : Rows.AsmTextsSaid :=
  OpenClaim.holds_of_cond 3 Tryz.f3 rfl rfl rfl rfl rfl rfl rfl ⟨rfl, rfl, rfl, rfl, rfl⟩ rfl rfl rfl rfl rfl (by kernel_rfl) Tryz.func3 (by kernel_rfl)
    (of_decide_eq_true (by kernel_rfl)) (by unfold Func.isWrapper; first | (rw [if_pos (by decide +kernel)]; kernel_rfl) | (rw [if_neg (by decide +kernel)]; exact ⟨rfl, rfl⟩))
    (fun os started H enc _ F => by rw [OpenClaim.pre_eq_preRow]; exact texts_lifted os started H enc F)

theorem texts_plain (f : FuncId) (fn : Func) (hf : Tryz.pinned.checked.prog.funcNamed "sluice/sluicelaw.AsmTexts" = some f) (hfn : Tryz.pinned.checked.prog.funcs[f]? = some fn) :
    true = Tryz.pinned.checked.prog.looks [] ∧ ∀ (j : Nat) t, fn.params[j]? = some t → Tryz.pinned.checked.prog.wantsStandIn t = false := by
  obtain rfl : f = 3 := Option.some.inj ((show Tryz.prog.funcNamed "sluice/sluicelaw.AsmTexts" = some 3 by kernel_rfl).symm.trans hf) |>.symm
  obtain rfl : fn = Tryz.f3 := (Option.some.inj (Tryz.func3.symm.trans hfn)).symm
  refine ⟨by kernel_rfl, fun j t ht => ?_⟩
  rw [Tryz.params3] at ht
  obtain rfl : t = 25 := by simpa using Array.mem_of_getElem? ht
  exact (show Tryz.prog.wantsStandIn 25 = false by kernel_rfl)

/-- THE LAW OF TEXT: for all programs the program writes them as the document does, and reads that back. -/
theorem asmTexts_holds : Rows.AsmTextsCardSaid :=
  Claim7.holds_tied_plain_at .later [] _ _ _ _ asmTexts_said (fun _ h => by cases h) (by kernel_rfl) (fun _ h => by cases h) asmTexts_row_tie rfl ⟨rfl, rfl⟩ (by kernel_rfl) rfl texts_plain (by kernel_rfl)

#print axioms asmTexts_holds

end Go.Proofs.YthbebnegmenejaaGreatDoor
