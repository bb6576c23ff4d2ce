/-
  The law of the program with colours for registers, for every program and all colours.
-/
import Derived.Test.YtocfocjnnjdcgaaDoorLawAlp
namespace Go.Proofs.YtocfocjnnjdcgaaDoor
open Go.RowKit

/-- A program that was made anew, in memory. -/
def OkD (n : Nat) (ws : List Int) (lk : Int) (b : Nat → Nat → List I4) (L : Nat → Nat) (V : World) (v : Value) : Prop := ∃ va vc ua uc, v = prG va n vc ua ws.length uc lk 8 ∧ MkP b n L ws V va ua
theorem allocApplies_any (w : World) (ca : Option Addr) (n cc : Nat) (wa : Option Addr) (wc : Nat) (lk rg : Int) (words : List Int) (A : Nat → Option Addr) (L C : Nat → Nat) (X : Nat → Nat → Nat → Int) (ka : Option Addr) (kc : Nat) (K : List (List Int)) (hm : words.length ≤ 9223372036854775807) (hp : PIn w ca n A L C X) (hw : SIs w wa words) (hnil : wa = none → words = [] ∧ wc = 0) (hK : CIn w ka K) (hT : TabZ w) :
    Calls Tryd.prog 5 #[prgV ca n cc wa words.length wc lk rg, .slice ka K.length kc] w fun e w' => e = .returned (.bool true) ∧ Below w.heap.size w w' := by
  have HV : Hid (∀ W, Below w.heap.size w W → Calls Tryd.prog 7 #[prgV ca n cc wa words.length wc lk rg] W fun e w' => ∃ b, e = .returned (.bool b) ∧ Below W.heap.size W w') := fun W hb => (vast_any ca n cc wa words.length wc lk rg A L C X hm W (hp.below hb)).mono fun e w' ⟨⟨b, h1⟩, h2⟩ => ⟨b, h1, h2⟩
  obtain ⟨x, y, z, hR⟩ : ∃ x y z, chk n L X words.length lk rg = (x, y, z) := ⟨_, _, _, rfl⟩
  have HCK : Hid (∀ W, Below w.heap.size w W → Calls Tryd.prog 10 #[prgV ca n cc wa words.length wc lk rg] W fun e w' => e = .returned (ints3 x y z) ∧ Below W.heap.size W w') := fun W hb => rcheck_any ca n cc wa words.length wc lk rg A L C X x y z hR W (hp.below hb)
  have HC : Hid (∀ W, Below w.heap.size w W → Calls Tryd.prog 41 #[prgV ca n cc wa words.length wc lk rg] W fun e w' => e = .returned (ints3 x y z) ∧ Below W.heap.size W w') := fun W hb => check_any ca n cc wa words.length wc lk rg A L C X x y z hR W (hp.below hb)
  by_cases hx : x = 0
  · obtain ⟨rfl, rfl, hn0, lk', rg', rfl, rfl, hc⟩ := chk_cok hR hx
    subst hx
    have hn4 := hc.n4
    obtain ⟨gx, gy, gz, hq⟩ : ∃ gx gy gz, chk n (lenR (bPnt words.length rg' K X) L) (numR (bPnt words.length rg' K X) L) (words.length + spT K rg' n) lk' 8 = (gx, gy, gz) := ⟨_, _, _, rfl⟩
    have hl : ∀ t, t < n → lenR (bPnt words.length rg' K X) L t ≤ 1000000 := fun t ht => by
      unfold lenR
      rw [code_len]
      have h4 := hc.L4 t ht
      have := plR_four (b := bPnt words.length rg' K X t) (fun i => bPnt_len t i) (L t)
      omega
    have hwl : (words ++ List.replicate (spT K rg' n) 0).length = words.length + spT K rg' n := by rw [List.length_append, List.length_replicate]
    have h64 : gx = 0 → words.length + spT K rg' n ≤ 64 := fun e => by
      refine Decidable.byContradiction fun h => ?_
      have := bPnt_big (lenR (bPnt words.length rg' K X) L) (numR (bPnt words.length rg' K X) L) (lk := lk') (m := words.length + spT K rg' n) hn0 hn4 (by omega)
      rw [hq] at this
      simp only [Prod.mk.injEq] at this
      omega
    refine alp_walk w ca n cc wa words.length wc lk' rg' 0 0 0 gx gy gz ka K.length kc (ColP K n L X rg') (OkD n (words ++ List.replicate (spT K rg' n) 0) lk' (bPnt words.length rg' K X) L) HV (fun hk W hb => ?_) HCK (fun _ hk W hb => ?_) (fun _ hP W hb => ?_)
    · by_cases hP : ColP K n L X rg'
      · rw [hP.1]
        refine (apply_may W ca n cc wa words wc lk' rg' A L C X ka kc K gx gy gz (hp.below hb) (hw.below hb) hnil hc (hT.below hb) (hK.below hb) hP hq (fun V hV => HC.out V (hb.trans (hV.mono hb.size)))).mono ?_
        rintro e w' h
        by_cases hg : gx = 0
        · rw [if_pos hg] at h
          obtain ⟨va, vc, ua, uc, rfl, hN, hb'⟩ := h
          refine ⟨va, n, vc, ua, words.length + spT K rg' n, uc, lk', 8, 0, 0, 0, false, rfl, ⟨fun V hV => ?_, fun h => absurd rfl h, fun _ h => absurd hP h, fun _ _ h => absurd hg h, fun _ _ _ => ⟨rfl, fun V v hV hv => ?_⟩⟩, hb'⟩
          · exact none_some V va n vc ua _ uc _ _ hn0 hn4 (h64 hg)
          · obtain ⟨va', vc', ua', uc', rfl, hv⟩ := hv
            have h1 := mk_new (uc := uc) (by rw [hwl]; exact hN.out V hV) hn4 hl
            have := mk_same (lk := (lk' : Int)) (rg := 8) (vc := vc) (uc := uc) (vc' := vc') (uc' := uc') (by rw [hwl]; exact h64 hg) h1 hv
            rw [hwl] at this ⊢
            exact this
        · rw [if_neg hg] at h
          obtain ⟨rfl, hb'⟩ := h
          exact ⟨none, 0, 0, none, 0, 0, 0, 0, gx, gy, gz, true, rfl, ⟨fun V _ => none_no V, fun h => absurd rfl h, fun _ h => absurd hP h, fun _ _ _ => ⟨rfl, rfl, rfl, rfl⟩, fun _ _ h => absurd h hg⟩, hb'⟩
      · refine (apply_clash W ca n cc wa words.length wc lk' rg' A L C X ka K.length kc K (hp.below hb) hc (hT.below hb) (hK.below hb) rfl hk hP (fun V hV => HC.out V (hb.trans (hV.mono hb.size)))).mono ?_
        rintro e w' ⟨rfl, hb'⟩
        exact ⟨none, 0, 0, none, 0, 0, 0, 0, 11, 0, 0, true, rfl, ⟨fun V _ => none_no V, fun h => absurd rfl h, fun _ _ => ⟨rfl, rfl, rfl, rfl⟩, fun _ h => absurd h hP, fun _ h => absurd h hP⟩, hb'⟩
    · exact rcolours_any W ca n cc wa words.length wc lk' rg' A L C X ka K.length kc K (hp.below hb) hc (hK.below hb) rfl hk
    · rw [hP.1]
      refine (rapply_may W ca n cc wa words wc lk' rg' A L C X ka kc K gx gy gz (hp.below hb) (hw.below hb) hn0 hc (hK.below hb) hP hq).mono ?_
      rintro e w' h
      by_cases hg : gx = 0
      · rw [if_pos hg] at h
        obtain ⟨va, vc, ua, uc, rfl, hN, hb'⟩ := h
        have h0 : gy = 0 ∧ gz = 0 := by
          have := (chk_cok hq hg)
          exact ⟨this.1, this.2.1⟩
        obtain ⟨rfl, rfl⟩ := h0
        subst hg
        refine ⟨va, n, vc, ua, words.length + spT K rg' n, uc, lk', 8, rfl, fun _ V hV => ⟨va, vc, ua, uc, by rw [hwl], mk_new (uc := uc) (by rw [hwl]; exact hN.out V hV) hn4 hl⟩, hb'⟩
      · rw [if_neg hg] at h
        obtain ⟨rfl, hb'⟩ := h
        exact ⟨none, 0, 0, none, 0, 0, 0, 0, rfl, fun h => absurd h hg, hb'⟩
  · refine alp_walk w ca n cc wa words.length wc lk rg x y z 0 0 0 ka K.length kc True (fun _ _ => True) HV (fun _ W hb => ?_) HCK (fun h => absurd h hx) (fun h => absurd h hx)
    refine (apply_no W ca n cc wa words.length wc lk rg x y z (.slice ka K.length kc) hx (fun V hV => HC.out V (hb.trans (hV.mono hb.size)))).mono ?_
    rintro e w' ⟨rfl, hb'⟩
    exact ⟨none, 0, 0, none, 0, 0, 0, 0, x, y, z, true, rfl, ⟨fun V _ => none_no V, fun _ => ⟨rfl, rfl, rfl, rfl⟩, fun h => absurd h hx, fun h => absurd h hx, fun h => absurd h hx⟩, hb'⟩

end Go.Proofs.YtocfocjnnjdcgaaDoor
