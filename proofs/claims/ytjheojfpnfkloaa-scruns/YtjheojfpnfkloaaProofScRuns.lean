/-
  Proved: for every program and every script that are handed in, whatever they hold and however their memory is shared, the program's Run answers what the document's run with no waiting is, or the fault that Check tells (B1 to B3); the call comes back, and the program and the script that were handed in read afterwards as they read before. No condition.
-/
import Derived.Test.YtjheojfpnfkloaaPLaw3
import Derived.Test.YtjheojfpnfkloaaRead
namespace Go.Proofs.Ytjheojfpnfkloaa
open Go.ChangeShapes Go.WideShapes Go.ChangeAt Go.RowKit Go.Joins Go.Deep

theorem Try.own : ownKnob Try.prog.godebug = none := by kernel_rfl
theorem Try.laidOut : laidOutB Try.prog = true := by kernel_rfl
theorem Try.readableP : Try.prog.readableRec 25 = true := by kernel_rfl
theorem Try.readableI : Try.prog.readableRec 23 = true := by kernel_rfl

/-- A list of numbers that is handed in, opened. -/
theorem open_ints {H : Type} {enc : TypeId × Value → H} {W : World} {fuel : Nat} {v : Value} {x : DataW H × List MemPlace} (h : DataW.trod enc Try.prog W 0 (fun _ => true) true fuel 23 [v] = some x) :
    ∃ (sa : Option Addr) (xs : List Int) (sc : Nat), v = .slice sa xs.length sc ∧ xs.length ≤ sc ∧ sc ≤ maxLen ∧ SIs W sa xs ∧ (sa = none → xs = [] ∧ sc = 0) := by
  rcases open_slice1 Try.underlying23 cells3 h with ⟨hcs, _⟩ | ⟨a, len, cap, _, _, V, _, _, hcs, _, hl, hm, hmm, _, hx⟩
  · simp at hcs
    subst hcs
    exact ⟨none, [], 0, rfl, by simp, by simp, fun i hi => absurd hi (Nat.not_lt_zero _), fun _ => ⟨rfl, rfl⟩⟩
  · simp at hcs hmm
    subst hcs
    obtain ⟨Y, hY⟩ := choose_lt (α := Int) (p := fun i (y : Int) => W.cell? (a.add i) = some (.int .i64 y)) (n := len) (fun i hi => by
      obtain ⟨x1, x2⟩ := hx i (by omega)
      obtain ⟨y, e, _, _⟩ := DataW.trod_int Try.underlying3 x2
      simp at e
      exact ⟨y, by rw [x1, e]⟩)
    have hlen : ((List.range len).map Y).length = len := by simp
    refine ⟨some a, (List.range len).map Y, cap, by rw [hlen], by rw [hlen]; exact hl, hm, fun i hi => ?_, fun e => by cases e⟩
    rw [hlen] at hi
    obtain ⟨b, o, sp⟩ := a
    have hsp : sp = none := by simpa [Addr.add] using World.cell?_spot (hY 0 (by omega))
    subst hsp
    refine ⟨b, o, rfl, ?_⟩
    rw [← Go.WideShapes.add_plain, hY i hi]
    simp [List.getD, hi]

/-- Where a list that is handed in lies. -/
theorem slice_lt {P : Program} {t e : TypeId} (ht : P.underlying t = some (.slice e)) {W : World} {b0 : Nat} {a : Addr} {len cap : Nat} (h : Value.okWide P W .any b0 t (.slice (some a) len cap)) : a.block < W.heap.size := by
  unfold Value.okWide at h
  rw [ht] at h
  simp only [Cell.okWide, Cell.ok, ht] at h
  obtain ⟨_, _, _, _, row, cells, hs, _⟩ := h
  rcases Nat.lt_or_ge a.block W.heap.size with h1 | h1
  · exact h1
  · unfold World.shape? at hs
    rw [Array.getElem?_eq_none h1] at hs
    cases hs

set_option maxRecDepth 100000 in
/-- A program that is handed in, opened. -/
theorem open_prog2 {H : Type} {enc : TypeId × Value → H} {W : World} {b0 : Nat} {v : Value} {d : DataW H} {p : List MemPlace} (hv : Value.okWide Try.prog W .any b0 25 v) (h : DataW.Trod enc Try.prog W 0 (fun _ => true) true 25 v d p) :
    ∃ (ca : Option Addr) (n cc : Nat) (wa : Option Addr) (words : List Int) (wc : Nat) (lk rg : Int) (A : Nat → Option Addr) (L C : Nat → Nat) (X : Nat → Nat → Nat → Int), v = prgV ca n cc wa words.length wc lk rg ∧ words.length ≤ 9223372036854775807 ∧ PIn W ca n A L C X ∧ SIs W wa words ∧ (wa = none → words = [] ∧ wc = 0) := by
  obtain ⟨c0, c1, c2, c3, y0, y1, y2, y3, m, rfl, _, _, h0, h1, h2, h3⟩ := open_agg4 Try.underlying25 (by kernel_rfl) cells25 hv h
  obtain ⟨ca, n, cc, A, L, C, X, rfl, hp, _⟩ := read_code h0
  obtain ⟨lk, e2, _, _⟩ := DataW.trod_int Try.underlying3 h2
  obtain ⟨rg, e3, _, _⟩ := DataW.trod_int Try.underlying3 h3
  simp at e2 e3
  subst e2 e3
  obtain ⟨wa, words, wc, rfl, hl, hm, hs, hn⟩ := open_ints h1
  exact ⟨ca, n, cc, wa, words, wc, lk, rg, A, L, C, X, rfl, by unfold maxLen at hm; omega, hp, hs, hn⟩

theorem scRuns_any (w : World) (ca : Option Addr) (n cc : Nat) (wa : Option Addr) (wc : Nat) (lk rg : Int) (words script : List Int) (sa : Option Addr) (sc : Nat) (A : Nat → Option Addr) (L C : Nat → Nat) (X : Nat → Nat → Nat → Int) (hm : words.length ≤ 9223372036854775807) (hp : PIn w ca n A L C X) (hsl : script.length ≤ 9223372036854775807) (hw : SIs w wa words) (hnil : wa = none → words = [] ∧ wc = 0) (hsi : SIs w sa script) (hscap : script.length ≤ sc) (hsaB : ∀ b o, sa = some ⟨b, o, none⟩ → b < w.heap.size) :
    Calls Try.prog 4 #[prgV ca n cc wa words.length wc lk rg, .slice sa script.length sc] w fun e w' => e = .returned (.bool true) ∧ Below w.heap.size w w' := by
  obtain ⟨x, y, z, hR⟩ : ∃ x y z, chk n L X words.length lk rg = (x, y, z) := ⟨_, _, _, rfl⟩
  by_cases hx : x = 0
  · obtain ⟨rfl, rfl, hn0, lk', rg', rfl, rfl, hc⟩ := chk_cok hR hx
    subst hx
    refine scRuns_yes w ca n cc wa wc lk' rg' words script sa sc A L C X hR hp hc hn0 hsl hw hnil hsi hscap hsaB (fun t b o i e ht => ?_)
    obtain ⟨b1, o1, e1, h1⟩ := hp.code t ht
    rw [e] at e1
    simp only [Option.some.injEq, Addr.mk.injEq] at e1
    refine ⟨by rw [e1.1]; exact lt_of_cell h1, fun b' o' e' hi => ?_⟩
    obtain ⟨b2, o2, e2, h2, _⟩ := hp.ord t i ht hi
    rw [e'] at e2
    simp only [Option.some.injEq, Addr.mk.injEq] at e2
    rw [e2.1]
    exact lt_of_cell h2
  · exact scRuns_no w ca n cc wa words.length wc lk rg A L C X x y z hR (by simpa using hx) hm hp sa script.length sc

set_option maxRecDepth 100000 in
theorem scRuns_lifted (os : Os) (started : os.Started) (H : Type) (enc : TypeId × Value → H) :
    ReturnsInHanded {} Try.checked os 4 .any (Rows.scRunsSpec.pre6 enc Try.prog Try.f4 Rows.scRunsRow.domain false) (Rows.scRunsSpec.post enc Try.prog Try.f4 false true false false) := by
  refine returnsInHanded_of_change (C := Try.checked) Try.own started (by kernel_rfl) Try.func4
    (ChangeSpec.witness6 (enc := enc) (C := Try.checked) false ⟨#[], #[.agg #[.slice none 0 0, .slice none 0 0, .int .i64 0, .int .i64 0], .slice none 0 0], []⟩ 8 (by kernel_rfl) (by kernel_rfl) (by kernel_rfl) (by kernel_rfl)) ?_
  intro W base args ds gs before hval0 hW hcnd _
  have hval : ∀ (j : Nat) t v, Try.f4.params[j]? = some t → args[j]? = some v → Value.okWide Try.prog W .any base t v := hval0
  have hW' := hW
  obtain ⟨p, q, hA0, hV, rfl, hfz, hnd⟩ := hW
  have hA : DataW.TrodAll enc Try.prog W 0 (fun _ => true) true Try.f4.params.toList args.toList ds p := hA0
  rw [Try.params4] at hA hval
  obtain ⟨v0, v1, d0, d1, p0, p1, rfl, rfl, rfl, h0, h1⟩ := trodAll_two hA
  obtain ⟨rfl, rfl⟩ := trodVars_none hV
  obtain ⟨ca, n, cc, wa, words, wc, lk, rg, A, L, C, X, rfl, hm, hp, hw, hnil⟩ := open_prog2 (hval 0 25 v0 rfl rfl) h0
  have hv1 := hval 1 23 v1 rfl rfl
  obtain ⟨sa, script, sc, rfl, hl, hml, hsi, hsn⟩ : ∃ (sa : Option Addr) (xs : List Int) (sc : Nat), v1 = .slice sa xs.length sc ∧ xs.length ≤ sc ∧ sc ≤ maxLen ∧ SIs W sa xs ∧ (sa = none → xs = [] ∧ sc = 0) := by
    obtain ⟨sa, sl, sc, rfl⟩ := okWide_slice Try.underlying23 hv1
    obtain ⟨fuel, hf⟩ := h1
    exact open_ints (fuel := fuel) hf
  clear hA0 hval0
  simp only [List.append_nil] at hW'
  refine (scRuns_any W ca n cc wa wc lk rg words script sa sc A L C X hm hp (by unfold maxLen at hml; omega) hw hnil hsi hl (fun b o e => ?_)).mono fun e W' ⟨he, hb⟩ => ?_
  · subst e
    exact slice_lt Try.underlying23 hv1
  subst he
  have hlt : ∀ x ∈ p0 ++ p1, x.block < W.heap.size := fun x hx => by simpa using hW'.lt x hx
  refine ⟨_, rfl, _, _, _, [], p0 ++ p1, [], hW', ?_, ?_, rfl, hb.frame _, fun h => by cases h⟩
  · exact trodAll_mk1 (shut_bool Try.underlying4 true)
  · exact trodAll_mk2 (Below.trod Try.laidOut Try.readableP (of_decide_eq_true (by kernel_rfl)) h0 hb (fun x hx => hlt x (by simp [hx]))) (Below.trod Try.laidOut Try.readableI (of_decide_eq_true (by kernel_rfl)) h1 hb (fun x hx => hlt x (by simp [hx])))

/-- THE LAW OF RUNS: for all programs and scripts the program tells what a run does in which one step comes after the other. -/
theorem scRuns_holds : Rows.ScRunsSaid :=
  OpenClaim.holds_of_wide 4 Try.f4 rfl rfl rfl rfl rfl rfl rfl ⟨rfl, rfl, rfl, rfl, rfl⟩ rfl rfl rfl rfl rfl (by kernel_rfl) Try.func4 (by kernel_rfl)
    (of_decide_eq_true (by kernel_rfl)) (by unfold Func.isWrapper; first | (rw [if_pos (by decide +kernel)]; kernel_rfl) | (rw [if_neg (by decide +kernel)]; exact ⟨rfl, rfl⟩))
    (fun os started H enc _ => scRuns_lifted os started H enc)

#print axioms scRuns_holds

end Go.Proofs.Ytjheojfpnfkloaa
