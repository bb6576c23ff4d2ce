/-
  The law of programs with words in place of their locks, for every program.
-/
import Derived.Test.YtefnmbnakphhfadLawLinks
namespace Go.Proofs.Ytefnmbnakphhfad
open Go.RowKit

/-- Which thread is too long, if any. -/
theorem long_one {n : Nat} (L : Nat → Nat) : ∃ lng : Int, (lng = -1 ∧ firstThread (longR L) n 0 = (0, 0, 0) ∧ ∀ i, i < n → L i ≤ 400) ∨ ∃ t : Nat, lng = t ∧ t < n ∧ firstThread (longR L) n 0 = (1, (t : Int), 0) ∧ 400 < L t ∧ ∀ i, i < t → L i ≤ 400 := by
  rcases long_cases (L := L) n 0 with ⟨h1, h2⟩ | ⟨t, _, h2, h3, h4, h5⟩
  · exact ⟨-1, .inl ⟨rfl, h1, fun i hi => h2 i (by omega) (by omega)⟩⟩
  · exact ⟨t, .inr ⟨t, rfl, by omega, h3, h4, fun i hi => h5 i (by omega) hi⟩⟩
theorem spin_lenR (m : Nat) (X : Nat → Nat → Nat → Int) (L : Nat → Nat) (t : Nat) : lenR (bSpin m X) L t ≤ 4 * L t := by
  unfold lenR
  rw [code_len]
  exact spin_pl m X t (L t)
theorem spinLinks_any (w : World) (ca : Option Addr) (n cc : Nat) (wa : Option Addr) (wc : Nat) (lk rg : Int) (words : List Int) (A : Nat → Option Addr) (L C : Nat → Nat) (X : Nat → Nat → Nat → Int) (hm : words.length ≤ 9223372036854775807) (hp : PIn w ca n A L C X) (hw : SIs w wa words) (hnil : wa = none → words = [] ∧ wc = 0) :
    Calls Try.prog 3 #[prgV ca n cc wa words.length wc lk rg] w fun e w' => e = .returned (.bool true) ∧ Below w.heap.size w w' := by
  have HV : Hid (∀ W, Below w.heap.size w W → Calls Try.prog 5 #[prgV ca n cc wa words.length wc lk rg] W fun e w' => ∃ b, e = .returned (.bool b) ∧ Below W.heap.size W w') := fun W hb => (vast_any ca n cc wa words.length wc lk rg A L C X hm W (hp.below hb)).mono fun e w' ⟨⟨b, h1⟩, h2⟩ => ⟨b, h1, h2⟩
  obtain ⟨x, y, z, hR⟩ : ∃ x y z, chk n L X words.length lk rg = (x, y, z) := ⟨_, _, _, rfl⟩
  have HCK : Hid (∀ W, Below w.heap.size w W → Calls Try.prog 7 #[prgV ca n cc wa words.length wc lk rg] W fun e w' => e = .returned (ints3 x y z) ∧ Below W.heap.size W w') := fun W hb => rcheck_any ca n cc wa words.length wc lk rg A L C X x y z hR W (hp.below hb)
  by_cases hx : x = 0
  · obtain ⟨rfl, rfl, hn0, lk', rg', rfl, rfl, hc⟩ := chk_cok hR hx
    subst hx
    have hn4 := hc.n4
    have hcb : (chk n L X words.length lk' rg').1 = 0 → words.length ≤ 64 ∧ (0 : Int) ≤ lk' ∧ (lk' : Int) ≤ 4 := fun _ => ⟨hc.m64, by omega, by have := hc.lk4; omega⟩
    by_cases h6 : (6 : Int) < rg'
    · refine spinLinks_walk w ca n cc wa words.length wc lk' rg' 0 0 0 0 0 (fun _ _ _ => True) (fun _ => hcb (by rw [hR])) HV (fun W hb => ?_) HCK (fun _ h => absurd h (by omega))
      refine Calls.mono (link_no W ca n cc wa words.length wc lk' rg' 3 0 0 A L C X (hp.below hb) (by rw [hR]; unfold refF; rw [if_neg (by simp), if_pos h6]) hcb (by decide)) ?_
      rintro e w' ⟨rfl, hbw⟩
      exact ⟨none, 0, 0, none, 0, 0, 0, 0, 3, 0, 0, rfl, hbw, .inr (.inl ⟨rfl, h6, rfl, rfl, rfl, none_no⟩)⟩
    by_cases h64 : 64 < (words.length : Int) + lk'
    · refine spinLinks_walk w ca n cc wa words.length wc lk' rg' 0 0 0 0 0 (fun _ _ _ => True) (fun _ => hcb (by rw [hR])) HV (fun W hb => ?_) HCK (fun _ _ h => absurd h (by omega))
      refine Calls.mono (link_no W ca n cc wa words.length wc lk' rg' 1 0 0 A L C X (hp.below hb) (by rw [hR]; unfold refF; rw [if_neg (by simp), if_neg h6, if_pos h64]) hcb (by decide)) ?_
      rintro e w' ⟨rfl, hbw⟩
      exact ⟨none, 0, 0, none, 0, 0, 0, 0, 1, 0, 0, rfl, hbw, .inr (.inr (.inl ⟨rfl, by omega, h64, rfl, rfl, rfl, none_no⟩))⟩
    have hg : rg' ≤ 6 := by omega
    have hml : words.length + lk' ≤ 64 := by omega
    have hwl : (words ++ List.replicate lk' 0).length = words.length + lk' := by rw [List.length_append, List.length_replicate]
    have hlF : ∀ t, t < n → lenR (bSpin words.length X) L t ≤ 1000000 := fun t ht => by have := spin_lenR words.length X L t; have := hc.L4 t ht; omega
    have hq := spin_chk hc hn0 hg hml
    obtain ⟨lng, hlng⟩ := long_one (n := n) (lenR (bSpin words.length X) L)
    refine spinLinks_walk w ca n cc wa words.length wc lk' rg' 0 0 0 lng (words.length + lk') (MkP (bSpin words.length X) n L (words ++ List.replicate lk' 0)) (fun _ => hcb (by rw [hR])) HV (fun W hb => ?_) HCK (fun _ _ _ W hb => ?_)
    · rcases hlng with ⟨rfl, h1, _⟩ | ⟨t, rfl, _, h1, _⟩
      · rw [h1] at hq
        refine Calls.mono (link_may W ca n cc wa words wc lk' rg' 0 0 0 A L C X (hp.below hb) (hw.below hb) hnil hR hc hg hml hq) ?_
        intro e w' h
        rw [if_pos rfl] at h
        obtain ⟨va, vc, ua, uc, rfl, HQ, hbw⟩ := h
        refine ⟨va, n, vc, ua, words.length + lk', uc, 0, 8, 0, 0, 0, rfl, hbw, .inr (.inr (.inr (.inr ⟨rfl, by omega, by omega, by omega, rfl, fun V va' vc' ua' uc' hV hM => ?_⟩)))⟩
        have hQ := HQ.out V hV
        rw [← hwl] at hQ ⊢
        exact mk_same (by rw [hwl]; exact hml) (mk_new hQ hn4 hlF) hM
      · rw [h1] at hq
        refine Calls.mono (link_may W ca n cc wa words wc lk' rg' 1 t 0 A L C X (hp.below hb) (hw.below hb) hnil hR hc hg hml hq) ?_
        intro e w' h
        rw [if_neg (by decide)] at h
        obtain ⟨rfl, hbw⟩ := h
        exact ⟨none, 0, 0, none, 0, 0, 0, 0, 1, t, 0, rfl, hbw, .inr (.inr (.inr (.inl ⟨rfl, by omega, by omega, by omega, rfl, rfl, rfl, none_no⟩)))⟩
    · refine Calls.mono (rlink_any W ca n cc wa words wc lk' rg' A L C X (hp.below hb) (hw.below hb) hc hg) ?_
      rintro e w' ⟨q, r, rfl, hN, hr⟩
      obtain ⟨va, vc, ua, uc, tv, he, h1⟩ := id hN
      obtain rfl : q = _ := Ending.returned.inj he
      rw [hwl]
      refine ⟨va, vc, ua, uc, ?_, fun V hV => ?_, h1.2.2.2⟩
      · rcases hr with ⟨t, rfl, ht, h4, h5⟩ | ⟨rfl, h5⟩ <;> rcases hlng with ⟨rfl, _, k1⟩ | ⟨s, rfl, hs, _, k2, k3⟩
        · exact absurd (k1 t ht) (by omega)
        · have : t = s := by
            rcases Nat.lt_trichotomy t s with h | h | h
            · exact absurd (k3 t h) (by omega)
            · exact h
            · exact absurd (h5 s h) (by omega)
          rw [this]
        · rfl
        · exact absurd (h5 s hs) (by omega)
      · exact mk_new (hN.below hV) hn4 hlF
  · refine spinLinks_walk w ca n cc wa words.length wc lk rg x y z 0 0 (fun _ _ _ => True) (fun h => absurd h hx) HV (fun W hb => ?_) HCK (fun h => absurd h hx)
    refine Calls.mono (link_no W ca n cc wa words.length wc lk rg x y z A L C X (hp.below hb) (by rw [hR]; unfold refF; rw [if_pos hx]) (fun h => absurd (by rw [hR] at h; exact h) hx) hx) ?_
    rintro e w' ⟨rfl, hbw⟩
    exact ⟨none, 0, 0, none, 0, 0, 0, 0, x, y, z, rfl, hbw, .inl ⟨hx, rfl, rfl, rfl, none_no⟩⟩

end Go.Proofs.Ytefnmbnakphhfad
