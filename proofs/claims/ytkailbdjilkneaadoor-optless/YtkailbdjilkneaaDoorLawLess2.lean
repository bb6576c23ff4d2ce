/-
  The law of programs with less to do: no more orders, and a second time nothing changes, for every program.
-/
import Derived.Test.YtkailbdjilkneaaDoorLawLess
import Derived.Test.YtkailbdjilkneaaDoorNewO
import Derived.Test.YtkailbdjilkneaaDoorCOkP
namespace Go.Proofs.YtkailbdjilkneaaDoor
open Go.RowKit

theorem optLess_any (w : World) (ca : Option Addr) (n cc : Nat) (wa : Option Addr) (wc : Nat) (lk rg : Int) (words : List Int) (A : Nat → Option Addr) (L C : Nat → Nat) (X : Nat → Nat → Nat → Int) (hm : words.length ≤ 9223372036854775807) (hp : PIn w ca n A L C X) (hw : SIs w wa words) (hnil : wa = none → words = [] ∧ wc = 0) (hT : TabZ w) :
    Calls Tryd.prog 5 #[prgV ca n cc wa words.length wc lk rg] w fun e w' => e = .returned (.bool true) ∧ Below w.heap.size w w' := by
  have HV : Hid (∀ W, Below w.heap.size w W → Calls Tryd.prog 19 #[prgV ca n cc wa words.length wc lk rg] W fun e w' => ∃ b, e = .returned (.bool b) ∧ Below W.heap.size W w') := fun W hb => (kvast_any ca n cc wa words.length wc lk rg A L C X hm W (hp.below hb)).mono fun e w' ⟨⟨b, h1⟩, h2⟩ => ⟨b, h1, h2⟩
  obtain ⟨x, y, z, hR⟩ : ∃ x y z, chk n L X words.length lk rg = (x, y, z) := ⟨_, _, _, rfl⟩
  by_cases hx : x = 0
  · obtain ⟨rfl, rfl, hn0, lk', rg', rfl, rfl, hc⟩ := chk_cok hR hx
    subst hx
    have hn4 := hc.n4
    have hL := chk_len hR
    refine less_walk w ca n cc wa words wc lk' rg' 0 0 0 n words.length lk' rg' A L C X hp (fun E => lenR (bCon X E) L) (fun E => numR (bCon X E) L) (fun E => ∀ t, t < n → LsV (X t) (L t) rg' (E t)) own3_const HV (fun W hb => ?_) (fun W hb => ?_) (fun _ => ⟨rfl, rfl, rfl, fun E _ t ht => (con_len hc E t ht).1, fun U va vc ua uc E hE hQ hU => ?_⟩)
    · refine (const_may W ca n cc wa words wc lk' rg' A L C X (hp.below hb) (hw.below hb) hnil hR hc).mono ?_
      rintro e w' ⟨b, va, vc, ua, uc, rfl, HG, hb'⟩
      obtain ⟨E, hE, hcode⟩ := con_all hc HG.out.1
      refine ⟨va, vc, ua, uc, E, rfl, fun V hk hV _ => ⟨?_, hE⟩, hb'⟩
      exact new_open (((HG.out.2 w' (Below.refl _ _)).far hk hb.size hV).congr hcode) (Below.refl _ _) hn4 (fun t ht => (con_len hc E t ht).2)
    · refine (dead_may W ca n cc wa words wc lk' rg' A L C X (hp.below hb) (hw.below hb) hnil hR hc (hT.below hb)).mono ?_
      rintro e w' ⟨b, va, vc, ua, uc, rfl, HG, hb'⟩
      refine ⟨va, vc, ua, uc, lenR b L, numR b L, rfl, fun V hk hV _ => ⟨?_, fun t ht => (dea_len hc t ht (HG.out.1 t ht)).1⟩, hb'⟩
      exact (new_open ((HG.out.2 w' (Below.refl _ _)).far hk hb.size hV) (Below.refl _ _) hn4 (fun t ht => (dea_len hc t ht (HG.out.1 t ht)).2)).1
    · obtain ⟨⟨A', C', hp'⟩, hw', hnil'⟩ := hQ
      have hb1 := bCon_one X E
      have hbi := bCon_in hc E
      have hR' := newG_chk hc hn0 hL hb1 hbi
      have hc' := newG_cok hc hb1 hbi
      refine (const_may U va n vc ua words uc lk' rg' A' _ C' _ hp' hw' hnil' hR' hc').mono ?_
      rintro e w' ⟨b, vd, vdc, ud, udc, rfl, HG, hb'⟩
      refine ⟨vd, vdc, ud, udc, rfl, fun V hk hV => ?_, hb'⟩
      have hcode : ∀ t, t < n → codeR (b t) (lenR (bCon X E) L t) = codeR (bCon X E t) (L t) := fun t ht => by
        obtain ⟨E1, h1, h2⟩ := HG.out.1 t ht
        have hlen : lenR (bCon X E) L t = plR (bCon X E t) (L t) := by unfold lenR; exact code_len _
        rw [hlen] at h1 h2 ⊢
        exact code_twice (hE t ht) h1 (fun i hi => hc.ord t i ht hi) hc.rg0 (fun i _ => rfl) h2
      exact (new_open (((HG.out.2 w' (Below.refl _ _)).far hk hU.size hV).congr2 hcode) (Below.refl _ _) hn4 (fun t ht => (con_len hc E t ht).2)).1
  · refine less_walk w ca n cc wa words wc lk rg x y z 0 0 0 0 A L C X hp (fun _ _ => 0) (fun _ _ _ _ => 0) (fun _ => True) own3_const HV (fun W hb => ?_) (fun W hb => ?_) (fun h => absurd h hx)
    · refine (const_no W ca n cc wa words.length wc lk rg x y z A L C X (hp.below hb) hR hx).mono ?_
      rintro e w' ⟨rfl, hb'⟩
      exact ⟨none, 0, none, 0, fun _ _ _ => .no, rfl, fun V _ _ h => absurd h hx, hb'⟩
    · refine (dead_no W ca n cc wa words.length wc lk rg x y z A L C X (hp.below hb) hR hx).mono ?_
      rintro e w' ⟨rfl, hb'⟩
      exact ⟨none, 0, none, 0, fun _ => 0, fun _ _ _ => 0, rfl, fun V _ _ h => absurd h hx, hb'⟩

end Go.Proofs.YtkailbdjilkneaaDoor
