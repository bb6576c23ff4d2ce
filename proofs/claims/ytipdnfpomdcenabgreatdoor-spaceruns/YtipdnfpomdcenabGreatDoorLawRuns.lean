/-
  The law of scripts and outcomes.
-/
import Derived.Test.YtipdnfpomdcenabGreatDoorKRuns
import Derived.Test.YtipdnfpomdcenabGreatDoorRDoW
namespace Go.Proofs.YtipdnfpomdcenabGreatDoor
open Go.RowKit Go.Sort Go.Shelf

/-- What a run tells, as one who looks for its outcome wants it. -/
theorem TraceR.z {n : Nat} {L : Nat → Nat} {X : Nat → Nat → Nat → Int} {mode : Int} {s0 : Sx} {script : List Int} {m lk rg : Nat} {W w' : World} {e : Ending} {os : List Oc} (hm : 0 ≤ mode) (hc : COk n L X m lk rg) (hs : SOk n L m lk rg mode s0) (hpr : s0.prints.length = 0) (ht : Told (nxX L X mode) (outsX L X mode) s0 4000 false os) (h : ∃ t, e = .returned (.tuple #[t, ints3 0 0 0]) ∧ TraceR W.heap.size W (runX L X mode 5000 s0 0 script) (.returned t) w') : RunZ W os e w' := by
  obtain ⟨t, he, pa, pl, pc, va, vl, vc, et, hI1, hI2, hb⟩ := h
  have hfew := runs_few hm hc 5000 s0 0 script hs
  have hm64 := hc.m64
  have et' : t = .agg #[.slice pa pl pc, .int .i64 (runX L X mode 5000 s0 0 script).2.1, .slice va vl vc, .int .i64 ((runX L X mode 5000 s0 0 script).2.2 : Nat)] := by simpa using et
  refine ⟨pa, va, pc, vc, _, ((runX L X mode 5000 s0 0 script).2.2 : Nat), (runX L X mode 5000 s0 0 script).1.words, (runX L X mode 5000 s0 0 script).1.prints, ?_, hb, ?_, ?_, by omega, by omega, fun hst => run_among ht hst⟩
  · rw [he, et', hI1.is, hI2.is]
  · have := hI1.iin
    rw [← hI1.is] at this
    exact this
  · have := hI2.iin
    rw [← hI2.is] at this
    exact this
set_option maxRecDepth 100000 in
theorem spaceRuns_any (w : World) (ca : Option Addr) (n cc : Nat) (wa : Option Addr) (wc : Nat) (lk rg : Int) (words script : List Int) (sa : Option Addr) (sc : Nat) (A : Nat → Option Addr) (L C : Nat → Nat) (X : Nat → Nat → Nat → Int) (hm : words.length ≤ 9223372036854775807) (hp : PIn w ca n A L C X) (hw : SIs w wa words) (hnil : wa = none → words = [] ∧ wc = 0) (hfit : ∀ t i, t < n → i < L t → I64n (X t i 2)) (hwf : ∀ x, x ∈ words → I64n x) (htab : TabB w.heap.size w) (hsl : script.length ≤ 9223372036854775807) (hsi : SIs w sa script) (hscap : script.length ≤ sc) (hsaB : ∀ b o, sa = some ⟨b, o, none⟩ → b < w.heap.size) :
    Calls Tryz.prog 5 #[prgV ca n cc wa words.length wc lk rg, .slice sa script.length sc] w fun e w' => e = .returned (.bool true) ∧ Below w.heap.size w w' := by
  obtain ⟨x, y, z, hR⟩ : ∃ x y z, chk n L X words.length lk rg = (x, y, z) := ⟨_, _, _, rfl⟩
  by_cases hx : x = 0
  · obtain ⟨rfl, rfl, hn0, lk', rg', rfl, rfl, hc⟩ := chk_cok hR hx
    subst hx
    have hpb : ∀ t b o i, ca = some ⟨b, o, none⟩ → t < n → b < w.heap.size ∧ ∀ b' o', A t = some ⟨b', o', none⟩ → i < L t → b' < w.heap.size := fun t b o i e ht => by
      obtain ⟨b1, o1, e1, h1⟩ := hp.code t ht
      rw [e] at e1
      simp only [Option.some.injEq, Addr.mk.injEq] at e1
      refine ⟨by rw [e1.1]; exact lt_of_cell h1, fun b' o' e' hi => ?_⟩
      obtain ⟨b2, o2, e2, h2, _⟩ := hp.ord t i ht hi
      rw [e'] at e2
      simp only [Option.some.injEq, Addr.mk.injEq] at e2
      rw [e2.1]
      exact lt_of_cell h2
    have hz : ∀ {mode : Int} {W w' : World} {e : Ending}, OutQ W L X mode (beginX n words lk' rg') e w' → SpZ W (fun l => Told (nxX L X mode) (outsX L X mode) (beginX n words lk' rg') 4000 false l) e w' := fun {mode W w' e} h => by
      obtain ⟨full, a, len, cap, l, h1, h2, h3, h4⟩ := h.oz
      refine ⟨a, len, cap, _, _, _, l, h1, h4, fun e => ?_⟩
      cases full with
      | true => cases e
      | false => exact ⟨h2, h3⟩
    refine spaceRuns_core w ca n cc wa words.length wc lk' rg' A L C X hm hp sa script.length sc htab (fun l => Told (nxX L X 0) (outsX L X 0) (beginX n words lk' rg') 4000 false l) (fun l => Told (nxX L X 1) (outsX L X 1) (beginX n words lk' rg') 4000 false l) ?_ ?_ ?_ ?_ ?_
    · exact fun W hb => Calls.mono (sc_yes W ca n cc wa wc lk' rg' words A L C X hR (hp.below hb) hc hn0 (hw.below hb) hnil hfit hwf (htab.up hb)) fun e w' h => hz h
    · exact fun W hb => Calls.mono (tso_yes W ca n cc wa wc lk' rg' words A L C X hR (hp.below hb) hc hn0 (hw.below hb) hnil hfit hwf (htab.up hb)) fun e w' h => hz h
    · refine fun l hl W hb => Calls.mono (run_yes W ca n cc wa wc lk' rg' words script sa sc ⟨A, L, C, plainK, 0, n⟩ rfl rfl X hR (hp.below hb) hc hn0 hsl (hw.below hb) hnil (hsi.below hb) hscap (fun b o e => Nat.lt_of_lt_of_le (hsaB b o e) hb.size) (fun t b o i e ht => ⟨Nat.lt_of_lt_of_le (hpb t b o i e ht).1 hb.size, fun b' o' e' hi => Nat.lt_of_lt_of_le ((hpb t b o i e ht).2 b' o' e' hi) hb.size⟩)) fun e w' h => ?_
      exact TraceR.z (Int.le_refl _) hc begin_ok rfl hl h
    · refine fun l hl W hb => Calls.mono (trun_yes W ca n cc wa wc lk' rg' words script sa sc A L C X hR (hp.below hb) hc hn0 hsl (hw.below hb) hnil (hsi.below hb) hscap (fun b o e => Nat.lt_of_lt_of_le (hsaB b o e) hb.size) (fun t b o i e ht => ⟨Nat.lt_of_lt_of_le (hpb t b o i e ht).1 hb.size, fun b' o' e' hi => Nat.lt_of_lt_of_le ((hpb t b o i e ht).2 b' o' e' hi) hb.size⟩)) fun e w' h => ?_
      exact TraceR.z (by decide) hc begin_ok rfl hl h
    · exact fun l0 l1 h0 h1 => told_more begin_ok rfl hc h0 h1
  · have hx' : (x != 0) = true := by simpa using hx
    refine spaceRuns_core w ca n cc wa words.length wc lk rg A L C X hm hp sa script.length sc htab (fun _ => False) (fun _ => False) ?_ ?_ ?_ ?_ ?_
    · exact fun W hb => Calls.mono (sc_no W ca n cc wa words.length wc lk rg A L C X x y z hR hx' (hp.below hb)) fun e w' ⟨h1, h2⟩ => ⟨none, 0, 0, x, y, z, [], h1, h2, fun e => absurd e hx⟩
    · exact fun W hb => Calls.mono (tso_no W ca n cc wa words.length wc lk rg A L C X x y z hR hx' (hp.below hb)) fun e w' ⟨h1, h2⟩ => ⟨none, 0, 0, x, y, z, [], h1, h2, fun e => absurd e hx⟩
    · exact fun l h => absurd h id
    · exact fun l h => absurd h id
    · exact fun l0 l1 h => absurd h id

end Go.Proofs.YtipdnfpomdcenabGreatDoor
