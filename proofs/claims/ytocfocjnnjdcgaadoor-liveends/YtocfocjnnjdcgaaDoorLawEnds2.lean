/-
  The law of what is live behind the last order and of registers that clash, for every program, with what Check tells.
-/
import Derived.Test.YtocfocjnnjdcgaaDoorLawEnds
namespace Go.Proofs.YtocfocjnnjdcgaaDoor
open Go.RowKit

theorem nice_of {X : Nat → Nat → Int} {l rg m lk : Nat} {S : Nat → Nat → Nat} (hok : ∀ i, i < l → ordE rg m lk l (X i 0) (X i 1) (X i 2) (X i 3) = 0) (hrg : rg ≤ 200) (h : ∀ a b, has (S a) b = true ↔ Cl X l a b) : NiceQ (tellS S rg) := by
  refine ⟨by rw [tellS_len]; omega, fun r => ?_, fun r hr x hx => ?_⟩
  · by_cases hr : r < rg
    · rw [tellS_at hr]
      exact Nat.le_trans (lstP_len _ _) (by decide)
    · rw [List.getD_eq_getElem?_getD, List.getElem?_eq_none (by rw [tellS_len]; omega)]
      simp
  · rw [tellS_len] at hr
    rw [tellS_at hr] at hx
    obtain ⟨s, h1, h2, h3, h4⟩ := clash_mem hok h hx
    exact ⟨s, h1, by rw [tellS_len]; exact h2, h3, by rw [tellS_at h2]; exact h4 (by omega)⟩
theorem liveEnds_any (w : World) (ca : Option Addr) (n cc : Nat) (wa : Option Addr) (wc : Nat) (lk rg : Int) (words : List Int) (A : Nat → Option Addr) (L C : Nat → Nat) (X : Nat → Nat → Nat → Int) (hm : words.length ≤ 9223372036854775807) (hp : PIn w ca n A L C X) (hT : TabZ w) :
    Calls Tryd.prog 4 #[prgV ca n cc wa words.length wc lk rg] w fun e w' => e = .returned (.bool true) ∧ Below w.heap.size w w' := by
  have HV : Hid (∀ W, Below w.heap.size w W → Calls Tryd.prog 17 #[prgV ca n cc wa words.length wc lk rg] W fun e w' => ∃ b, e = .returned (.bool b) ∧ Below W.heap.size W w') := fun W hb => (kvast_any ca n cc wa words.length wc lk rg A L C X hm W (hp.below hb)).mono fun e w' ⟨⟨b, h1⟩, h2⟩ => ⟨b, h1, h2⟩
  have HB : Hid (∀ W, Below w.heap.size w W → Calls Tryd.prog 15 #[] W fun e w' => e = .returned (prgV (some ⟨W.heap.size + 3, 0, none⟩) 2 2 (some ⟨W.heap.size + 4, 0, none⟩) 2 2 0 2) ∧ IsBuf W.heap.size W w') := fun W _ => buffers_any W W.heap.size rfl
  have HBA : Hid (∀ W V d, Below w.heap.size w V → IsBuf d W V → Calls Tryd.prog 8 #[prgV (some ⟨d + 3, 0, none⟩) 2 2 (some ⟨d + 4, 0, none⟩) 2 2 0 2] V fun e w' => ∃ u ysss, e = .returned (.tuple #[u, ints3 0 0 0]) ∧ O3 w' V.heap.size u ysss ∧ ysss.length = 2 ∧ (ysss.getD 0 []).length = 5 ∧ (ysss.getD 0 []).getD 0 [] = [] ∧ (ysss.getD 0 []).getD 1 [] = [0] ∧ Below V.heap.size V w') := fun W V d hb h => buf_ahead V W d h (hT.below hb)
  obtain ⟨x, y, z, hR⟩ : ∃ x y z, chk n L X words.length lk rg = (x, y, z) := ⟨_, _, _, rfl⟩
  have HC : Hid (∀ W, Below w.heap.size w W → Calls Tryd.prog 41 #[prgV ca n cc wa words.length wc lk rg] W fun e w' => e = .returned (ints3 x y z) ∧ Below W.heap.size W w') := fun W hb => check_any ca n cc wa words.length wc lk rg A L C X x y z hR W (hp.below hb)
  have HCB : ∀ W, Below w.heap.size w W → Hid (∀ V, Below W.heap.size W V → Calls Tryd.prog 41 #[prgV ca n cc wa words.length wc lk rg] V fun e w' => e = .returned (ints3 x y z) ∧ Below V.heap.size V w') := fun W hb V hV => HC.out V (hb.trans (hV.mono hb.size))
  by_cases hx : x = 0
  · obtain ⟨rfl, rfl, hn0, lk', rg', rfl, rfl, hc⟩ := chk_cok hR hx
    subst hx
    have hrg := hc.rg2
    refine ends_walk w ca n cc wa words.length wc lk' rg' 0 0 0 n (by have := hc.n4; omega) HB HBA HV (fun W hb => ?_) (fun W hb => ?_)
    · refine (aheadP_yes W ca n cc wa words.length wc lk' rg' A L C X (hp.below hb) hc (hT.below hb) (HCB W hb)).mono ?_
      rintro e w' ⟨u, ysss, h1, h2, h3, h4, h5⟩
      refine ⟨u, ysss, h1, h2, h3, fun t ht => ?_, h5⟩
      obtain ⟨S, hS, hy⟩ := h4 t ht
      rw [hy]
      exact ⟨L t, hc.L4 t ht, tellS_len _ _, last_none hS⟩
    · refine (clashP_yes W ca n cc wa words.length wc lk' rg' A L C X (hp.below hb) hc (hT.below hb) (HCB W hb)).mono ?_
      rintro e w' ⟨u, ysss, h1, h2, h3, h4, h5⟩
      refine ⟨u, ysss, h1, h2, h3, fun t ht => ?_, h5⟩
      obtain ⟨S, hS, hy⟩ := h4 t ht
      rw [hy]
      exact nice_of (fun i hi => hc.ord t i ht hi) hrg hS
  · refine ends_walk w ca n cc wa words.length wc lk rg x y z 0 (by decide) HB HBA HV (fun W hb => ?_) (fun W hb => ?_)
    · refine (aheadP_no W ca n cc wa words.length wc lk rg x y z hx (HCB W hb)).mono ?_
      rintro e w' ⟨h1, h2⟩
      exact ⟨nilV, [], h1, o3_nil _ _, rfl, fun t ht => absurd ht (by omega), h2⟩
    · refine (clashP_no W ca n cc wa words.length wc lk rg x y z hx (HCB W hb)).mono ?_
      rintro e w' ⟨h1, h2⟩
      exact ⟨nilV, [], h1, o3_nil _ _, rfl, fun t ht => absurd ht (by omega), h2⟩

end Go.Proofs.YtocfocjnnjdcgaaDoor
