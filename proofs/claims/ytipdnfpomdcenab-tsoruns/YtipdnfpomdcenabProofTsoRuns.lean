/-
  Proved: for every program and every script that are handed in, whatever they hold and however their memory is shared, the program's Run with buffers answers what the document's run in which stores wait is, or the fault that Check tells (C1 to C3); the call comes back, and the program and the script that were handed in read afterwards as they read before. No condition.
-/
import Derived.Test.YtipdnfpomdcenabRead
import Derived.Test.YtipdnfpomdcenabPTLaw2
namespace Go.Proofs.Ytipdnfpomdcenab
open Go.ChangeShapes Go.WideShapes Go.ChangeAt Go.RowKit Go.Joins Go.Deep

theorem tsoRuns_any (w : World) (ca : Option Addr) (n cc : Nat) (wa : Option Addr) (wc : Nat) (lk rg : Int) (words script : List Int) (sa : Option Addr) (sc : Nat) (A : Nat → Option Addr) (L C : Nat → Nat) (X : Nat → Nat → Nat → Int) (hm : words.length ≤ 9223372036854775807) (hp : PIn w ca n A L C X) (hsl : script.length ≤ 9223372036854775807) (hw : SIs w wa words) (hnil : wa = none → words = [] ∧ wc = 0) (hsi : SIs w sa script) (hscap : script.length ≤ sc) (hsaB : ∀ b o, sa = some ⟨b, o, none⟩ → b < w.heap.size) :
    Calls Try.prog 3 #[prgV ca n cc wa words.length wc lk rg, .slice sa script.length sc] w fun e w' => e = .returned (.bool true) ∧ Below w.heap.size w w' := by
  obtain ⟨x, y, z, hR⟩ : ∃ x y z, chk n L X words.length lk rg = (x, y, z) := ⟨_, _, _, rfl⟩
  by_cases hx : x = 0
  · obtain ⟨rfl, rfl, hn0, lk', rg', rfl, rfl, hc⟩ := chk_cok hR hx
    subst hx
    refine tsoRuns_yes w ca n cc wa wc lk' rg' words script sa sc A L C X hR hp hc hn0 hsl hw hnil hsi hscap hsaB (fun t b o i e ht => ?_)
    obtain ⟨b1, o1, e1, h1⟩ := hp.code t ht
    rw [e] at e1
    simp only [Option.some.injEq, Addr.mk.injEq] at e1
    refine ⟨by rw [e1.1]; exact lt_of_cell h1, fun b' o' e' hi => ?_⟩
    obtain ⟨b2, o2, e2, h2, _⟩ := hp.ord t i ht hi
    rw [e'] at e2
    simp only [Option.some.injEq, Addr.mk.injEq] at e2
    rw [e2.1]
    exact lt_of_cell h2
  · exact tsoRuns_no w ca n cc wa words.length wc lk rg A L C X x y z hR (by simpa using hx) hm hp sa script.length sc

set_option maxRecDepth 100000 in
theorem tsoRuns_lifted (os : Os) (started : os.Started) (H : Type) (enc : TypeId × Value → H) :
    ReturnsInHanded {} Try.checked os 3 .any (Rows.tsoRunsSpec.pre6 enc Try.prog Try.f3 Rows.tsoRunsRow.domain false) (Rows.tsoRunsSpec.post enc Try.prog Try.f3 false true false false) := by
  refine returnsInHanded_of_change (C := Try.checked) Try.own started (by kernel_rfl) Try.func3
    (ChangeSpec.witness6 (enc := enc) (C := Try.checked) false ⟨#[], #[.agg #[.slice none 0 0, .slice none 0 0, .int .i64 0, .int .i64 0], .slice none 0 0], []⟩ 8 (by kernel_rfl) (by kernel_rfl) (by kernel_rfl) (by kernel_rfl)) ?_
  intro W base args ds gs before hval0 hW hcnd _
  have hval : ∀ (j : Nat) t v, Try.f3.params[j]? = some t → args[j]? = some v → Value.okWide Try.prog W .any base t v := hval0
  have hW' := hW
  obtain ⟨p, q, hA0, hV, rfl, hfz, hnd⟩ := hW
  have hA : DataW.TrodAll enc Try.prog W 0 (fun _ => true) true Try.f3.params.toList args.toList ds p := hA0
  rw [Try.params3] at hA hval
  obtain ⟨v0, v1, d0, d1, p0, p1, rfl, rfl, rfl, h0, h1⟩ := trodAll_two hA
  obtain ⟨rfl, rfl⟩ := trodVars_none hV
  obtain ⟨ca, n, cc, wa, words, wc, lk, rg, A, L, C, X, rfl, hm, hp, hw, hnil⟩ := open_prog2 (hval 0 25 v0 rfl rfl) h0
  have hv1 := hval 1 23 v1 rfl rfl
  obtain ⟨sa, script, sc, rfl, hl, hml, hsi, hsn⟩ : ∃ (sa : Option Addr) (xs : List Int) (sc : Nat), v1 = .slice sa xs.length sc ∧ xs.length ≤ sc ∧ sc ≤ maxLen ∧ SIs W sa xs ∧ (sa = none → xs = [] ∧ sc = 0) := by
    obtain ⟨sa, sl, sc, rfl⟩ := okWide_slice Try.underlying23 hv1
    obtain ⟨fuel, hf⟩ := h1
    exact open_ints (fuel := fuel) hf
  clear hA0 hval0
  simp only [List.append_nil] at hW'
  refine (tsoRuns_any W ca n cc wa wc lk rg words script sa sc A L C X hm hp (by unfold maxLen at hml; omega) hw hnil hsi hl (fun b o e => ?_)).mono fun e W' ⟨he, hb⟩ => ?_
  · subst e
    exact slice_lt Try.underlying23 hv1
  subst he
  have hlt : ∀ x ∈ p0 ++ p1, x.block < W.heap.size := fun x hx => by simpa using hW'.lt x hx
  refine ⟨_, rfl, _, _, _, [], p0 ++ p1, [], hW', ?_, ?_, rfl, hb.frame _, fun h => by cases h⟩
  · exact trodAll_mk1 (shut_bool Try.underlying4 true)
  · exact trodAll_mk2 (Below.trod Try.laidOut Try.readableP (of_decide_eq_true (by kernel_rfl)) h0 hb (fun x hx => hlt x (by simp [hx]))) (Below.trod Try.laidOut Try.readableI (of_decide_eq_true (by kernel_rfl)) h1 hb (fun x hx => hlt x (by simp [hx])))

/-- THE LAW OF RUNS: for all programs and scripts the program tells what a run does in which stores wait. -/
theorem tsoRuns_holds : Rows.TsoRunsSaid :=
  OpenClaim.holds_of_wide 3 Try.f3 rfl rfl rfl rfl rfl rfl rfl ⟨rfl, rfl, rfl, rfl, rfl⟩ rfl rfl rfl rfl rfl (by kernel_rfl) Try.func3 (by kernel_rfl)
    (of_decide_eq_true (by kernel_rfl)) (by unfold Func.isWrapper; first | (rw [if_pos (by decide +kernel)]; kernel_rfl) | (rw [if_neg (by decide +kernel)]; exact ⟨rfl, rfl⟩))
    (fun os started H enc _ => tsoRuns_lifted os started H enc)

#print axioms tsoRuns_holds

end Go.Proofs.Ytipdnfpomdcenab
