/-
  LOCKS OF WORDS ARE LOCKS: the law, for every program.
-/
import Derived.Test.YtefnmbnakphhfadLawHolds
import Derived.Test.YtefnmbnakphhfadNewC
namespace Go.Proofs.Ytefnmbnakphhfad
open Go.RowKit

theorem spinHolds_any (w : World) (ca : Option Addr) (n cc : Nat) (wa : Option Addr) (wc : Nat) (lk rg : Int) (words : List Int) (A : Nat → Option Addr) (L C : Nat → Nat) (X : Nat → Nat → Nat → Int) (hm : words.length ≤ 9223372036854775807) (hp : PIn w ca n A L C X) (hw : SIs w wa words) (hnil : wa = none → words = [] ∧ wc = 0) :
    Calls Try.prog 4 #[prgV ca n cc wa words.length wc lk rg] w fun e w' => e = .returned (.bool true) ∧ Below w.heap.size w w' := by
  have HV : Hid (∀ W, Below w.heap.size w W → Calls Try.prog 5 #[prgV ca n cc wa words.length wc lk rg] W fun e w' => ∃ b, e = .returned (.bool b) ∧ Below W.heap.size W w') := fun W hb => (vast_any ca n cc wa words.length wc lk rg A L C X hm W (hp.below hb)).mono fun e w' ⟨⟨b, h1⟩, h2⟩ => ⟨b, h1, h2⟩
  obtain ⟨x, y, z, hR⟩ : ∃ x y z, chk n L X words.length lk rg = (x, y, z) := ⟨_, _, _, rfl⟩
  have HCK : Hid (∀ W, Below w.heap.size w W → Calls Try.prog 7 #[prgV ca n cc wa words.length wc lk rg] W fun e w' => e = .returned (ints3 x y z) ∧ Below W.heap.size W w') := fun W hb => rcheck_any ca n cc wa words.length wc lk rg A L C X x y z hR W (hp.below hb)
  by_cases hx : x = 0
  · obtain ⟨rfl, rfl, hn0, lk', rg', rfl, rfl, hc⟩ := chk_cok hR hx
    subst hx
    have hn4 := hc.n4
    have hcb : (chk n L X words.length lk' rg').1 = 0 → words.length ≤ 64 ∧ (0 : Int) ≤ lk' ∧ (lk' : Int) ≤ 4 := fun _ => ⟨hc.m64, by omega, by have := hc.lk4; omega⟩
    refine spinHolds_walk w ca n cc wa words.length wc lk' rg' 0 0 0 L X (lenR (bSpin words.length X) L) (numR (bSpin words.length X) L) (beginX n words lk' rg') (beginX n (words ++ List.replicate lk' 0) 0 8) (fun _ => hcb (by rw [hR])) HV (fun W hb => ?_) HCK
    by_cases h6 : (6 : Int) < rg'
    · refine Calls.mono (link_no W ca n cc wa words.length wc lk' rg' 3 0 0 A L C X (hp.below hb) (by rw [hR]; unfold refF; rw [if_neg (by simp), if_pos h6]) hcb (by decide)) ?_
      rintro e w' ⟨rfl, hbw⟩
      exact ⟨none, 0, 0, none, 0, 0, 0, 0, 3, 0, 0, rfl, hbw, .inr (.inl ⟨rfl, h6, rfl⟩)⟩
    by_cases h64 : 64 < (words.length : Int) + lk'
    · refine Calls.mono (link_no W ca n cc wa words.length wc lk' rg' 1 0 0 A L C X (hp.below hb) (by rw [hR]; unfold refF; rw [if_neg (by simp), if_neg h6, if_pos h64]) hcb (by decide)) ?_
      rintro e w' ⟨rfl, hbw⟩
      exact ⟨none, 0, 0, none, 0, 0, 0, 0, 1, 0, 0, rfl, hbw, .inr (.inr (.inl ⟨rfl, by omega, h64, rfl⟩))⟩
    have hg : rg' ≤ 6 := by omega
    have hml : words.length + lk' ≤ 64 := by omega
    have hwl : (words ++ List.replicate lk' 0).length = words.length + lk' := by rw [List.length_append, List.length_replicate]
    have hq := spin_chk hc hn0 hg hml
    rcases long_cases (L := lenR (bSpin words.length X) L) n 0 with ⟨h1, h2⟩ | ⟨t, _, _, h3, _⟩
    · rw [h1] at hq
      have hl4 : ∀ t, t < n → lenR (bSpin words.length X) L t ≤ 1000 := fun t ht => by have := h2 t (by omega) (by omega); omega
      have hcq : COk n (lenR (bSpin words.length X) L) (numR (bSpin words.length X) L) (words ++ List.replicate lk' 0).length 0 8 := by rw [hwl]; exact spin_cok hc hg hml hl4
      refine Calls.mono (link_may W ca n cc wa words wc lk' rg' 0 0 0 A L C X (hp.below hb) (hw.below hb) hnil hR hc hg hml hq) ?_
      intro e w' h
      rw [if_pos rfl] at h
      obtain ⟨va, vc, ua, uc, rfl, HQ, hbw⟩ := h
      have hMk : ∀ V, Below w'.heap.size w' V → MkP (bSpin words.length X) n L (words ++ List.replicate lk' 0) V va ua := fun V hV => by
        have hQ := HQ.out V hV
        rw [← hwl] at hQ
        exact mk_new hQ hn4 (fun t ht => by have := hl4 t ht; omega)
      refine ⟨va, n, vc, ua, words.length + lk', uc, 0, 8, 0, 0, 0, rfl, hbw, .inr (.inr (.inr (.inr ⟨rfl, rfl, ⟨fun V hV => ?_, fun V md hV => ?_, fun V md hV => ?_, fun mode hmo a ht o ho h0 => ?_, fun mode hmo a ht o ho h0 => ?_, fun mode hmo a b c tc hf ta tb => ?_⟩⟩)))⟩
      · obtain ⟨⟨A', C', hpin⟩, _⟩ := hMk V hV
        exact rcheck_any va n vc ua (words.length + lk') uc 0 8 A' _ C' _ 0 0 0 hq V hpin
      · have hbV := hb.trans ((hbw.trans (hV.mono hbw.size)).mono hb.size)
        exact make_anyE V md ca n cc wa wc lk' rg' words A L C X (hw.below hbV) hn0 hc (hp.below hbV)
      · obtain ⟨⟨A', C', hpin⟩, hs⟩ := hMk V hV
        have h := make_anyE V md va n vc ua uc 0 8 (words ++ List.replicate lk' 0) A' _ C' _ hs hn0 hcq hpin
        rw [hwl] at h
        exact h
      · rw [told_words hc (by omega) ht ho h0]
        exact Nat.le_refl _
      · have h := told_words (lk := 0) (rg := 8) hcq (by omega) ht ho h0
        rw [hwl] at h
        omega
      · exact spin_same hc hg hmo tc hf ta tb
    · rw [h3] at hq
      refine Calls.mono (link_may W ca n cc wa words wc lk' rg' 1 t 0 A L C X (hp.below hb) (hw.below hb) hnil hR hc hg hml hq) ?_
      intro e w' h
      rw [if_neg (by decide)] at h
      obtain ⟨rfl, hbw⟩ := h
      exact ⟨none, 0, 0, none, 0, 0, 0, 0, 1, t, 0, rfl, hbw, .inr (.inr (.inr (.inl ⟨rfl, by omega, by omega, rfl⟩)))⟩
  · refine spinHolds_walk w ca n cc wa words.length wc lk rg x y z L X L X (beginX n words 0 0) (beginX n words 0 0) (fun h => absurd h hx) HV (fun W hb => ?_) HCK
    refine Calls.mono (link_no W ca n cc wa words.length wc lk rg x y z A L C X (hp.below hb) (by rw [hR]; unfold refF; rw [if_pos hx]) (fun h => absurd (by rw [hR] at h; exact h) hx) hx) ?_
    rintro e w' ⟨rfl, hbw⟩
    exact ⟨none, 0, 0, none, 0, 0, 0, 0, x, y, z, rfl, hbw, .inl ⟨hx, rfl, rfl, rfl⟩⟩

end Go.Proofs.Ytefnmbnakphhfad
