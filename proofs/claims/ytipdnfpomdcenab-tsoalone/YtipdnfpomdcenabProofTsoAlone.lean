/-
  Proved: for every program and every script that are handed in, whatever they hold and however their memory is shared: of a program of one thread the program's two Runs, with buffers by the script and without, tell the same fault; where neither runs out of steps they end alike, with the same prints and, but where they fell, the same words; the program of two threads that the statement makes comes to its end by the statement's script, with four numbers printed (C1 to C3, B1); the call comes back, and the program and the script that were handed in read afterwards as they read before. No condition.
-/
import Derived.Test.YtipdnfpomdcenabRead
import Derived.Test.YtipdnfpomdcenabSet7
namespace Go.Proofs.Ytipdnfpomdcenab
open Go.ChangeShapes Go.WideShapes Go.ChangeAt Go.RowKit Go.Joins Go.Deep

set_option maxRecDepth 100000 in
theorem tsoAlone_lifted (os : Os) (started : os.Started) (H : Type) (enc : TypeId × Value → H) :
    ReturnsInHanded {} Try.checked os 4 .any (Rows.tsoAloneSpec.pre6 enc Try.prog Try.f4 Rows.tsoAloneRow.domain false) (Rows.tsoAloneSpec.post enc Try.prog Try.f4 false true false false) := by
  refine returnsInHanded_of_change (C := Try.checked) Try.own started (by kernel_rfl) Try.func4
    (ChangeSpec.witness6 (enc := enc) (C := Try.checked) false ⟨#[], #[.agg #[.slice none 0 0, .slice none 0 0, .int .i64 0, .int .i64 0], .slice none 0 0], []⟩ 8 (by kernel_rfl) (by kernel_rfl) (by kernel_rfl) (by kernel_rfl)) ?_
  intro W base args ds gs before hval0 hW hcnd _
  have hval : ∀ (j : Nat) t v, Try.f4.params[j]? = some t → args[j]? = some v → Value.okWide Try.prog W .any base t v := hval0
  have hW' := hW
  obtain ⟨p, q, hA0, hV, rfl, hfz, hnd⟩ := hW
  have hA : DataW.TrodAll enc Try.prog W 0 (fun _ => true) true Try.f4.params.toList args.toList ds p := hA0
  rw [Try.params4] at hA hval
  obtain ⟨v0, v1, d0, d1, p0, p1, rfl, rfl, rfl, h0, h1⟩ := trodAll_two hA
  obtain ⟨rfl, rfl⟩ := trodVars_none hV
  obtain ⟨ca, n, cc, wa, words, wc, lk, rg, A, L, C, X, rfl, hm, hp, hw, hnil⟩ := open_prog2 (hval 0 25 v0 rfl rfl) h0
  have hv1 := hval 1 23 v1 rfl rfl
  obtain ⟨sa, script, sc, rfl, hl, hml, hsi, hsn⟩ : ∃ (sa : Option Addr) (xs : List Int) (sc : Nat), v1 = .slice sa xs.length sc ∧ xs.length ≤ sc ∧ sc ≤ maxLen ∧ SIs W sa xs ∧ (sa = none → xs = [] ∧ sc = 0) := by
    obtain ⟨sa, sl, sc, rfl⟩ := okWide_slice Try.underlying23 hv1
    obtain ⟨fuel, hf⟩ := h1
    exact open_ints (fuel := fuel) hf
  clear hA0 hval0
  simp only [List.append_nil] at hW'
  refine (tsoAlone_any W ca n cc wa wc lk rg words script sa sc A L C X hm hp (by unfold maxLen at hml; omega) hw hnil hsi hl (fun b o e => ?_)).mono fun e W' ⟨he, hb⟩ => ?_
  · subst e
    exact slice_lt Try.underlying23 hv1
  subst he
  have hlt : ∀ x ∈ p0 ++ p1, x.block < W.heap.size := fun x hx => by simpa using hW'.lt x hx
  refine ⟨_, rfl, _, _, _, [], p0 ++ p1, [], hW', ?_, ?_, rfl, hb.frame _, fun h => by cases h⟩
  · exact trodAll_mk1 (shut_bool Try.underlying4 true)
  · exact trodAll_mk2 (Below.trod Try.laidOut Try.readableP (of_decide_eq_true (by kernel_rfl)) h0 hb (fun x hx => hlt x (by simp [hx]))) (Below.trod Try.laidOut Try.readableI (of_decide_eq_true (by kernel_rfl)) h1 hb (fun x hx => hlt x (by simp [hx])))

/-- A THREAD ALONE DOES NOT SEE THAT ITS STORES WAIT: it ends as without, with the same words, and prints the same. -/
theorem tsoAlone_holds : Rows.TsoAloneSaid :=
  OpenClaim.holds_of_wide 4 Try.f4 rfl rfl rfl rfl rfl rfl rfl ⟨rfl, rfl, rfl, rfl, rfl⟩ rfl rfl rfl rfl rfl (by kernel_rfl) Try.func4 (by kernel_rfl)
    (of_decide_eq_true (by kernel_rfl)) (by unfold Func.isWrapper; first | (rw [if_pos (by decide +kernel)]; kernel_rfl) | (rw [if_neg (by decide +kernel)]; exact ⟨rfl, rfl⟩))
    (fun os started H enc _ => tsoAlone_lifted os started H enc)

#print axioms tsoAlone_holds

end Go.Proofs.Ytipdnfpomdcenab
