/-
  Proved: for every program and all colours that are handed in, whatever they hold and however their memory is shared, the program's Colours tells the fault that the document's Check tells; where there is none, what the program's Apply makes, with the colours that were handed in where these are some of the program and with those that the program's Colours finds where they are not, is refused for its size alone, else it may be, has eight registers, and comes in the document's machine, with stores done at once, to just the outcomes of the program, but for the further words, wherever both spaces are small enough to be gone through and, where words' numbers are reckoned, no run of the program falls (O4); the call comes back, and the program and the colours that were handed in read afterwards as they read before. Condition: the package-level table of Go's library that the row lists holds what its initialiser lays (tied to the program's text by the card).
-/
import Derived.Test.YtocfocjnnjdcgaaDoorAlhW2
import Derived.Test.YtocfocjnnjdcgaaDoorBox
import Derived.Test.YtocfocjnnjdcgaaDoorCards
import Derived.Test.YtocfocjnnjdcgaaDoorTie
import Derived.ProofKit
import Derived.OpenShut
import Derived.Lay
import Derived.Deep.DeepHandedRow
import Derived.Stop.LaidErr
namespace Go.Proofs.YtocfocjnnjdcgaaDoor
open Go.ChangeShapes Go.WideShapes Go.ChangeAt Go.RowKit Go.Joins Go.Deep

theorem gBits : Tryd.prog.globalNamed "math/bits.deBruijn64tab" = some 0 := by kernel_rfl
theorem gBitsType : (Tryd.prog.globals[0]?).map (·.type) = some 172 := by kernel_rfl
theorem cellsTab : Tryd.prog.cellsOf 172 = 64 := by kernel_rfl
theorem cellsU8 : Tryd.prog.cellsOf 5 = 1 := by kernel_rfl
theorem bitsData : (Rows.laid_math_bits_deBruijn64tab : DataW Unit) = Lib.tabData .u8 (Lib.deBruijn64tab.map fun (k : Nat) => (k : Int)) := by kernel_rfl
theorem bitsAt (j : Nat) (hj : j < 64) : (Lib.deBruijn64tab.map fun (k : Nat) => (k : Int)).getD j 0 = ((Lib.deBruijn64tab.getD j 0 : Nat) : Int) := by
  have hl : Lib.deBruijn64tab.length = 64 := by decide +kernel
  simp [List.getD, List.getElem?_eq_getElem (show j < Lib.deBruijn64tab.length by omega)]
/-- The table of lowest bits. -/
theorem tab_of {W : World} (h : laidMetH Tryd.prog Rows.allocHoldsRow.laid W) : TabZ W := by
  rw [MakeChecks.laidMetH_plain _ _ _ (by kernel_rfl)] at h
  have h3 : laidMet Tryd.prog (("math/bits.deBruijn64tab", Rows.laid_math_bits_deBruijn64tab) :: _) W := h
  rw [bitsData] at h3
  have ht := Lib.tabIs_of_head gBits gBitsType Tryd.underlying172 Tryd.underlying5 cellsU8 cellsTab h3
  intro j hj
  have hc := ht.cell gBits j (by have hl : Lib.deBruijn64tab.length = 64 := by decide +kernel
                                 simpa [hl] using hj)
  rw [bitsAt j hj] at hc
  exact hc

theorem cells23 : Tryd.prog.cellsOf 23 = 1 := by kernel_rfl
theorem Tryd.readableII : Tryd.prog.readableRec 37 = true := by kernel_rfl
/-- Lists of numbers that are handed in, opened. -/
theorem open_intss {H : Type} {enc : TypeId × Value → H} {W : World} {fuel : Nat} {v : Value} {x : DataW H × List MemPlace} (h : DataW.trod enc Tryd.prog W 0 (fun _ => true) true fuel 37 [v] = some x) :
    ∃ (ka : Option Addr) (K : List (List Int)) (kc : Nat), v = .slice ka K.length kc ∧ CIn W ka K := by
  rcases open_slice1 Tryd.underlying37 cells23 h with ⟨hcs, _⟩ | ⟨a, len, cap, m, n, V, D, Pl, hcs, _, hl, hm, hmm, _, hx⟩
  · simp at hcs
    subst hcs
    exact ⟨none, [], 0, rfl, fun t ht => absurd ht (Nat.not_lt_zero _)⟩
  · simp at hcs hmm
    subst hcs
    obtain ⟨Y, hY⟩ := choose_lt (α := Option Addr × List Int × Nat) (n := len) (p := fun t q => V t = .slice q.1 q.2.1.length q.2.2 ∧ SIs W q.1 q.2.1)
      (fun t ht => by
        obtain ⟨sa, xs, sc, h1, _, _, h2, _⟩ := open_ints (hx t (by omega)).2
        exact ⟨(sa, xs, sc), by simpa using h1, h2⟩)
    have hlen : ((List.range len).map fun t => (Y t).2.1).length = len := by simp
    refine ⟨some a, (List.range len).map fun t => (Y t).2.1, cap, by rw [hlen], fun t ht => ?_⟩
    rw [hlen] at ht
    have e : ((List.range len).map fun t => (Y t).2.1).getD t [] = (Y t).2.1 := by simp [List.getD, ht]
    obtain ⟨b, o, sp⟩ := a
    have hsp : sp = none := by simpa [Addr.add] using World.cell?_spot (hx 0 (by omega)).1
    subst hsp
    rw [e]
    refine ⟨b, o, (Y t).1, (Y t).2.2, rfl, ?_, (hY t ht).2⟩
    rw [← Go.WideShapes.add_plain, (hx t (by omega)).1, (hY t ht).1]

set_option maxRecDepth 100000 in
theorem alh_lifted (os : Os) (started : os.Started) (H : Type) (enc : TypeId × Value → H) (F : Stop.Interp) :
    ReturnsInHanded {} Tryd.checked os 6 .any ((OpenSpec.ofChange Rows.allocHoldsSpec).preRow enc Tryd.prog Tryd.f6 Rows.allocHoldsRow.domain false Rows.allocHoldsRow.laid) (((OpenSpec.ofChange Rows.allocHoldsSpec).at F).post enc Tryd.prog Tryd.f6 false true false false) := by
  refine returnsInHanded_of_row (C := Tryd.checked) (s := OpenSpec.ofChange Rows.allocHoldsSpec) Tryd.own started (by kernel_rfl) Tryd.func6
    (ChangeSpec.witness_shaped (enc := enc) (C := Tryd.checked) (os := os) (s := Rows.allocHoldsSpec) (conds := Rows.allocHoldsRow.domain) (X := fun w _ => laidMetH Tryd.prog Rows.allocHoldsRow.laid w) false (World.laidAll Tryd.prog os Rows.allocHoldsRow.laid) #[.agg #[.slice none 0 0, .slice none 0 0, .int .i64 0, .int .i64 0], .slice none 0 0] 8 (World.laidAll_os _ _ _)
      (World.shaped_of_ZipB (by kernel_rfl) (by kernel_rfl)) (by kernel_rfl) (by kernel_rfl) (by kernel_rfl)
      (by rw [MakeChecks.laidMetH_plain _ _ _ (by kernel_rfl)]; exact laidMet_laidAll _ (by kernel_rfl) (by kernel_rfl))) ?_
  intro W base args ds gs before hval0 hW _ _ _ hL hsh _
  have hval : ∀ (j : Nat) t v, Tryd.f6.params[j]? = some t → args[j]? = some v → Value.okWide Tryd.prog W .any base t v := hval0
  have hW' := hW
  obtain ⟨p, q, hA0, hV, rfl, hfz, hnd⟩ := hW
  have hA : DataW.TrodAll enc Tryd.prog W 0 (fun _ => true) true Tryd.f6.params.toList args.toList ds p := hA0
  rw [Tryd.params6] at hA hval
  obtain ⟨v0, v1, d0, d1, p0, p1, rfl, rfl, rfl, h0, h1⟩ := trodAll_two hA
  obtain ⟨rfl, rfl⟩ := trodVars_none hV
  obtain ⟨ca, n, cc, wa, words, wc, lk, rg, A, L, C, X, rfl, hm, hp, hw, hnil⟩ := open_prog2 (hval 0 25 v0 rfl rfl) h0
  obtain ⟨ka, K, kc, rfl, hK⟩ : ∃ (ka : Option Addr) (K : List (List Int)) (kc : Nat), v1 = .slice ka K.length kc ∧ CIn W ka K := by
    obtain ⟨sa, sl, sc, rfl⟩ := okWide_slice Tryd.underlying37 (hval 1 37 v1 rfl rfl)
    obtain ⟨fuel, hf⟩ := h1
    exact open_intss (fuel := fuel) hf
  clear hA0 hval0
  simp only [List.append_nil] at hW'
  refine (allocHolds_any W ca n cc wa wc lk rg words A L C X ka kc K hm hp hw hnil hK (tab_of hL)).mono fun e W' ⟨he, hb⟩ => ?_
  subst he
  have hlt : ∀ x ∈ p0 ++ p1, x.block < W.heap.size := fun x hx => by simpa using hW'.lt x hx
  refine ⟨_, rfl, _, _, _, [], p0 ++ p1, [], hW', ?_, ?_, rfl, hb.frame _, fun h => by cases h⟩
  · exact trodAll_mk1 (shut_bool Tryd.underlying4 true)
  · exact trodAll_mk2 (Below.trod Tryd.laidOut Tryd.readableP (of_decide_eq_true (by kernel_rfl)) h0 hb (fun x hx => hlt x (by simp [hx]))) (Below.trod Tryd.laidOut Tryd.readableII (of_decide_eq_true (by kernel_rfl)) h1 hb (fun x hx => hlt x (by simp [hx])))

theorem allocHolds_said : Rows.AllocHoldsSaid :=
  OpenClaim.holds_of_cond 6 Tryd.f6 rfl rfl rfl rfl rfl rfl rfl ⟨rfl, rfl, rfl, rfl, rfl⟩ rfl rfl rfl rfl rfl (by kernel_rfl) Tryd.func6 (by kernel_rfl)
    (of_decide_eq_true (by kernel_rfl)) (by unfold Func.isWrapper; first | (rw [if_pos (by decide +kernel)]; kernel_rfl) | (rw [if_neg (by decide +kernel)]; exact ⟨rfl, rfl⟩))
    (fun os started H enc _ F => by rw [OpenClaim.pre_eq_preRow]; exact alh_lifted os started H enc F)

theorem alh_plain (f : FuncId) (fn : Func) (hf : Tryd.pinned.checked.prog.funcNamed "sluice/sluicelaw.AllocHolds" = some f) (hfn : Tryd.pinned.checked.prog.funcs[f]? = some fn) :
    false = Tryd.pinned.checked.prog.looks [] ∧ ∀ (j : Nat) t, fn.params[j]? = some t → Tryd.pinned.checked.prog.wantsStandIn t = false := by
  obtain rfl : f = 6 := Option.some.inj ((show Tryd.prog.funcNamed "sluice/sluicelaw.AllocHolds" = some 6 by kernel_rfl).symm.trans hf) |>.symm
  obtain rfl : fn = Tryd.f6 := (Option.some.inj (Tryd.func6.symm.trans hfn)).symm
  refine ⟨by kernel_rfl, fun j t ht => ?_⟩
  rw [Tryd.params6] at ht
  have hm : t = 25 ∨ t = 37 := by simpa using Array.mem_of_getElem? ht
  rcases hm with rfl | rfl
  · exact (show Tryd.prog.wantsStandIn 25 = false by kernel_rfl)
  · exact (show Tryd.prog.wantsStandIn 37 = false by kernel_rfl)

/-- THE STATEMENT THAT FEW REGISTERS DO: a program with colours comes to what the program comes to. -/
theorem allocHolds_holds : Rows.AllocHoldsCardSaid :=
  Claim7.holds_tied_plain_at .later [] _ _ _ _ allocHolds_said (fun _ h => by cases h) (by kernel_rfl) (fun _ h => by cases h) allocHolds_row_tie rfl ⟨rfl, rfl⟩ (by kernel_rfl) rfl alh_plain (by kernel_rfl)

#print axioms allocHolds_holds

end Go.Proofs.YtocfocjnnjdcgaaDoor
