/-
  The law of fenced programs, by the program's own machines, for every program.
-/
import Derived.Test.YtgofbkgfonlceadGreatDoorLawFenced
import Derived.Test.YtgofbkgfonlceadGreatDoorFenOne
namespace Go.Proofs.YtgofbkgfonlceadGreatDoor
open Go.RowKit

/-- What Robust says of a fenced program. -/
theorem robust_new {w W U V : World} {n : Nat} {lk rg : Nat} {words : List Int} {L : Nat → Nat} {X : Nat → Nat → Nat → Int} {va : Option Addr} {vc : Nat} {ua : Option Addr} {uc : Nat} (hn0 : 0 < n) (hc : COk n L X words.length lk rg) (hfit : ∀ t i, t < n → i < L t → I64n (X t i 2)) (hwf : ∀ x, x ∈ words → I64n x) (htab : TabB w.heap.size w) (hq : chk n (lenR (bFull X) L) (numR (bFull X) L) words.length lk rg = (0, 0, 0)) (hl : ∀ t, t < n → lenR (bFull X) L t ≤ 400)
    (hN : NewQ W n words lk rg (bFull X) L (.returned (.agg #[.slice va n vc, .slice ua words.length uc, .int .i64 lk, .int .i64 rg])) U) (hW : Below w.heap.size w W) (hk : ∀ g, W.heap.size ≤ g → g < U.heap.size → V.heap[g]? = U.heap[g]?) (hV : Below w.heap.size w V) :
    Calls Tryz.prog 8 #[.agg #[.slice va n vc, .slice ua words.length uc, .int .i64 lk, .int .i64 rg]] V fun e w'' => ∃ r x y z, e = .returned (.tuple #[.bool r, ints3 x y z]) ∧ (x = 0 → r = true) ∧ Below V.heap.size V w'' := by
  have hN2 := hN.far hk hW.size hV
  obtain ⟨va', vc', ua', uc', tv, he, h1, h2, h3, _⟩ := hN2
  simp only [Ending.returned.injEq, Value.agg.injEq, Array.mk.injEq, List.cons.injEq, Value.slice.injEq, true_and, and_true] at he
  obtain ⟨⟨rfl, rfl⟩, rfl, rfl⟩ := he
  obtain ⟨ca', cc', A', C', e1, hpin⟩ := new_pin h1 h2 (by have := hc.n4; omega) (fun t ht => by have := hl t ht; omega)
  simp only [Value.slice.injEq, true_and] at e1
  obtain ⟨rfl, rfl⟩ := e1
  have hcq := new_cok hc (bFull X) (fun t i _ _ x hx => bFull_in X t i x hx) hl
  refine Calls.mono (robust_yes V va n vc ua uc lk rg words A' (lenR (bFull X) L) C' (numR (bFull X) L) hq hpin hcq hn0 (sis_own2 h3).1 (sis_own2 h3).2 (num_fit hc hfit hl) hwf (htab.up hV)) ?_
  rintro e w'' ⟨r, z, rfl, hR, hb⟩
  refine ⟨r, z, 0, 0, rfl, fun hz => ?_, hb⟩
  rcases hR with ⟨l1, _, _, h⟩ | ⟨l1, f2, l2, t1, t2, ⟨_, _, h⟩ | ⟨rfl, rfl, _⟩⟩
  · omega
  · omega
  · exact decide_eq_true (full_robust hc hcq t1 t2)
theorem topFenced_any (w : World) (ca : Option Addr) (n cc : Nat) (wa : Option Addr) (wc : Nat) (lk rg : Int) (words : List Int) (A : Nat → Option Addr) (L C : Nat → Nat) (X : Nat → Nat → Nat → Int) (hm : words.length ≤ 9223372036854775807) (hp : PIn w ca n A L C X) (hw : SIs w wa words) (hnil : wa = none → words = [] ∧ wc = 0) (hfit : ∀ t i, t < n → i < L t → I64n (X t i 2)) (hwf : ∀ x, x ∈ words → I64n x) (htab : TabB w.heap.size w) :
    Calls Tryz.prog 4 #[prgV ca n cc wa words.length wc lk rg] w fun e w' => e = .returned (.bool true) ∧ Below w.heap.size w w' := by
  have HV : Hid (∀ W, Below w.heap.size w W → Calls Tryz.prog 10 #[prgV ca n cc wa words.length wc lk rg] W fun e w' => ∃ b, e = .returned (.bool b) ∧ Below W.heap.size W w') := fun W hb => (vastT_any ca n cc wa words.length wc lk rg A L C X hm W (hp.below hb)).mono fun e w' ⟨⟨b, h1⟩, h2⟩ => ⟨b, h1, h2⟩
  refine topFenced_walk w ca n cc wa words.length wc lk rg HV (fun V _ => full_one V) (fun W hb => ?_)
  obtain ⟨x, y, z, hR⟩ : ∃ x y z, chk n L X words.length lk rg = (x, y, z) := ⟨_, _, _, rfl⟩
  by_cases hx : x = 0
  · obtain ⟨rfl, rfl, hn0, lk', rg', rfl, rfl, hc⟩ := chk_cok hR hx
    subst hx
    have hq := new_chk hc hn0 (bFull X) (fun t i _ _ x hx => bFull_in X t i x hx)
    rcases long_cases (L := lenR (bFull X) L) n 0 with ⟨h1, h2⟩ | ⟨t, _, _, h3, _⟩
    · rw [h1] at hq
      refine Calls.mono (full_may W ca n cc wa words wc lk' rg' 0 0 0 A L C X (hp.below hb) (hw.below hb) hnil hR hc hq) ?_
      intro e w' h
      rw [if_pos rfl] at h
      obtain ⟨va, vc, ua, uc, rfl, HQ, hbw⟩ := h
      exact ⟨va, n, vc, ua, words.length, uc, lk', rg', 0, 0, 0, rfl, hbw, fun _ V hk hV _ => robust_new hn0 hc hfit hwf htab hq (fun t ht => h2 t (Nat.zero_le _) (by omega)) (HQ.out w' (Below.refl _ _)) hb hk hV⟩
    · rw [h3] at hq
      refine Calls.mono (full_may W ca n cc wa words wc lk' rg' 1 t 0 A L C X (hp.below hb) (hw.below hb) hnil hR hc hq) ?_
      intro e w' h
      rw [if_neg (by decide)] at h
      obtain ⟨rfl, hbw⟩ := h
      exact ⟨none, 0, 0, none, 0, 0, 0, 0, 1, t, 0, rfl, hbw, fun h => absurd h (by decide)⟩
  · refine Calls.mono (full_no W ca n cc wa words.length wc lk rg x y z A L C X (hp.below hb) hR hx) ?_
    rintro e w' ⟨rfl, hbw⟩
    exact ⟨none, 0, 0, none, 0, 0, 0, 0, x, y, z, rfl, hbw, fun h => absurd h hx⟩

end Go.Proofs.YtgofbkgfonlceadGreatDoor
