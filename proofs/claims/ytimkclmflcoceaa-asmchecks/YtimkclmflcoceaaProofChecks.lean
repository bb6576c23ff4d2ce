/-
  Proved: for every program that is handed in, whatever it holds and however its memory is shared, the program's Check answers just what the document's answer is (A1, A2), the call comes back, and the program that was handed in reads afterwards as it read before. No condition.
-/
import Derived.Test.YtimkclmflcoceaaLawChecks
import Derived.Test.YtimkclmflcoceaaRead
namespace Go.Proofs.Ytimkclmflcoceaa
open Go.ChangeShapes Go.WideShapes Go.ChangeAt Go.RowKit Go.Joins Go.Deep

theorem Try.own : ownKnob Try.prog.godebug = none := by kernel_rfl
theorem Try.laidOut : laidOutB Try.prog = true := by kernel_rfl
theorem Try.readableP : Try.prog.readableRec 25 = true := by kernel_rfl

/-- A program that is handed in, opened. -/
theorem open_prog {H : Type} {enc : TypeId × Value → H} {W : World} {b0 : Nat} {v : Value} {d : DataW H} {p : List MemPlace} (hv : Value.okWide Try.prog W .any b0 25 v) (h : DataW.Trod enc Try.prog W 0 (fun _ => true) true 25 v d p) :
    ∃ (ca : Option Addr) (n cc : Nat) (wa : Option Addr) (m wc : Nat) (lk rg : Int) (A : Nat → Option Addr) (L C : Nat → Nat) (X : Nat → Nat → Nat → Int), v = prgV ca n cc wa m wc lk rg ∧ m ≤ 9223372036854775807 ∧ PIn W ca n A L C X ∧ ∀ t i j, t < n → i < L t → j < 4 → (Lit.int .i64 (X t i j)).wf = true := by
  obtain ⟨c0, c1, c2, c3, y0, y1, y2, y3, m, rfl, _, _, h0, h1, h2, h3⟩ := open_agg4 Try.underlying25 (by kernel_rfl) cells25 hv h
  obtain ⟨ca, n, cc, A, L, C, X, rfl, hp, hw⟩ := read_code h0
  obtain ⟨lk, e2, _, _⟩ := DataW.trod_int Try.underlying3 h2
  obtain ⟨rg, e3, _, _⟩ := DataW.trod_int Try.underlying3 h3
  simp at e2 e3
  subst e2 e3
  rcases open_slice1 Try.underlying23 cells3 h1 with ⟨hcs, _⟩ | ⟨a, len, cap, _, _, _, _, _, hcs, _, hl, hm, _⟩
  · simp at hcs
    subst hcs
    exact ⟨ca, n, cc, none, 0, 0, lk, rg, A, L, C, X, rfl, by omega, hp, hw⟩
  · simp at hcs
    subst hcs
    exact ⟨ca, n, cc, some a, len, cap, lk, rg, A, L, C, X, rfl, by unfold maxLen at hm; omega, hp, hw⟩

set_option maxRecDepth 100000 in
theorem checks_lifted (os : Os) (started : os.Started) (H : Type) (enc : TypeId × Value → H) :
    ReturnsInHanded {} Try.checked os 3 .any (Rows.asmChecksSpec.pre6 enc Try.prog Try.f3 Rows.asmChecksRow.domain false) (Rows.asmChecksSpec.post enc Try.prog Try.f3 false true false false) := by
  refine returnsInHanded_of_change (C := Try.checked) Try.own started (by kernel_rfl) Try.func3
    (ChangeSpec.witness6 (enc := enc) (C := Try.checked) false ⟨#[], #[.agg #[.slice none 0 0, .slice none 0 0, .int .i64 0, .int .i64 0]], []⟩ 8 (by kernel_rfl) (by kernel_rfl) (by kernel_rfl) (by kernel_rfl)) ?_
  intro W base args ds gs before hval0 hW hcnd _
  have hval : ∀ (j : Nat) t v, Try.f3.params[j]? = some t → args[j]? = some v → Value.okWide Try.prog W .any base t v := hval0
  have hW' := hW
  obtain ⟨p, q, hA0, hV, rfl, hfz, hnd⟩ := hW
  have hA : DataW.TrodAll enc Try.prog W 0 (fun _ => true) true Try.f3.params.toList args.toList ds p := hA0
  rw [Try.params3] at hA hval
  obtain ⟨v0, d0, hargs, rfl, h0⟩ := trodAll_one hA
  obtain rfl : args = #[v0] := by cases args; simp_all
  obtain ⟨rfl, rfl⟩ := trodVars_none hV
  obtain ⟨ca, n, cc, wa, m, wc, lk, rg, A, L, C, X, rfl, hm, hp, _⟩ := open_prog (hval 0 25 v0 rfl rfl) h0
  clear hA0 hval0
  simp only [List.append_nil] at hW'
  refine (asmChecks_any ca n cc wa m wc lk rg A L C X hm W hp).mono fun e W' ⟨he, hb⟩ => ?_
  subst he
  have hlt : ∀ x ∈ p, x.block < W.heap.size := fun x hx => by simpa using hW'.lt x hx
  refine ⟨_, rfl, _, _, _, [], p, [], hW', ?_, ?_, rfl, hb.frame _, fun h => by cases h⟩
  · exact trodAll_mk1 (shut_bool Try.underlying4 true)
  · exact trodAll_mk1 (Below.trod Try.laidOut Try.readableP (of_decide_eq_true (by kernel_rfl)) h0 hb hlt)

/-- THE LAW OF CHECK: for all programs the program says whether they may be, or the first thing that is wrong. -/
theorem asmChecks_holds : Rows.AsmChecksSaid :=
  OpenClaim.holds_of_wide 3 Try.f3 rfl rfl rfl rfl rfl rfl rfl ⟨rfl, rfl, rfl, rfl, rfl⟩ rfl rfl rfl rfl rfl (by kernel_rfl) Try.func3 (by kernel_rfl)
    (of_decide_eq_true (by kernel_rfl)) (by unfold Func.isWrapper; first | (rw [if_pos (by decide +kernel)]; kernel_rfl) | (rw [if_neg (by decide +kernel)]; exact ⟨rfl, rfl⟩))
    (fun os started H enc _ => checks_lifted os started H enc)

#print axioms asmChecks_holds

end Go.Proofs.Ytimkclmflcoceaa
