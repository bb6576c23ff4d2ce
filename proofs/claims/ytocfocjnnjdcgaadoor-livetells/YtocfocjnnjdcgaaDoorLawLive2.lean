/-
  The law of registers that are live, for every program, with what Check tells.
-/
import Derived.Test.YtocfocjnnjdcgaaDoorLawLive
namespace Go.Proofs.YtocfocjnnjdcgaaDoor
open Go.RowKit

theorem liveTells_any (w : World) (ca : Option Addr) (n cc : Nat) (wa : Option Addr) (wc : Nat) (lk rg : Int) (words : List Int) (A : Nat → Option Addr) (L C : Nat → Nat) (X : Nat → Nat → Nat → Int) (hm : words.length ≤ 9223372036854775807) (hp : PIn w ca n A L C X) (hT : TabZ w) :
    Calls Tryd.prog 3 #[prgV ca n cc wa words.length wc lk rg] w fun e w' => e = .returned (.bool true) ∧ Below w.heap.size w w' := by
  have HV : Hid (∀ W, Below w.heap.size w W → Calls Tryd.prog 7 #[prgV ca n cc wa words.length wc lk rg] W fun e w' => ∃ b, e = .returned (.bool b) ∧ Below W.heap.size W w') := fun W hb => (vast_any ca n cc wa words.length wc lk rg A L C X hm W (hp.below hb)).mono fun e w' ⟨⟨b, h1⟩, h2⟩ => ⟨b, h1, h2⟩
  obtain ⟨x, y, z, hR⟩ : ∃ x y z, chk n L X words.length lk rg = (x, y, z) := ⟨_, _, _, rfl⟩
  have HC : Hid (∀ W, Below w.heap.size w W → Calls Tryd.prog 41 #[prgV ca n cc wa words.length wc lk rg] W fun e w' => e = .returned (ints3 x y z) ∧ Below W.heap.size W w') := fun W hb => check_any ca n cc wa words.length wc lk rg A L C X x y z hR W (hp.below hb)
  have HK : Hid (∀ W, Below w.heap.size w W → Calls Tryd.prog 10 #[prgV ca n cc wa words.length wc lk rg] W fun e w' => e = .returned (ints3 x y z) ∧ Below W.heap.size W w') := fun W hb => rcheck_any ca n cc wa words.length wc lk rg A L C X x y z hR W (hp.below hb)
  have HCB : ∀ W, Below w.heap.size w W → Hid (∀ V, Below W.heap.size W V → Calls Tryd.prog 41 #[prgV ca n cc wa words.length wc lk rg] V fun e w' => e = .returned (ints3 x y z) ∧ Below V.heap.size V w') := fun W hb V hV => HC.out V (hb.trans (hV.mono hb.size))
  by_cases hx : x = 0
  · obtain ⟨rfl, rfl, hn0, lk', rg', rfl, rfl, hc⟩ := chk_cok hR hx
    subst hx
    exact live_yes w ca n cc wa words.length wc lk' rg' A L C X hp hc HV
      (fun W hb => aheadP_yes W ca n cc wa words.length wc lk' rg' A L C X (hp.below hb) hc (hT.below hb) (HCB W hb))
      (fun W hb => clashP_yes W ca n cc wa words.length wc lk' rg' A L C X (hp.below hb) hc (hT.below hb) (HCB W hb)) HK
  · exact live_no w ca n cc wa words.length wc lk rg x y z hx HV
      (fun W hb => aheadP_no W ca n cc wa words.length wc lk rg x y z hx (HCB W hb))
      (fun W hb => clashP_no W ca n cc wa words.length wc lk rg x y z hx (HCB W hb)) HK

end Go.Proofs.YtocfocjnnjdcgaaDoor
