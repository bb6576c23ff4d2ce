/-
  The law of linked programs, by the program's own machines, for every program.
-/
import Derived.Test.YtefnmbnakphhfadGreatDoorLawSpun
import Derived.Test.YtefnmbnakphhfadGreatDoorSpunOne
namespace Go.Proofs.YtefnmbnakphhfadGreatDoor
open Go.RowKit

theorem mt_of {n : Nat} {x y : Oc} (h1 : x.st = y.st) (h2 : x.ws.take n = y.ws.take n) (h3 : x.pr = y.pr) : mtO n x y = true := by
  unfold mtO
  rw [decide_eq_true h1, decide_eq_true h2, decide_eq_true h3]
  rfl
/-- What TSO says of a linked program. -/
theorem tso_new {w W U V : World} {n : Nat} {lk rg : Nat} {words : List Int} {L : Nat → Nat} {X : Nat → Nat → Nat → Int} {va : Option Addr} {vc : Nat} {ua : Option Addr} {uc : Nat} (hn0 : 0 < n) (hc : COk n L X words.length lk rg) (hg : rg ≤ 6) (hml : words.length + lk ≤ 64) (hfit : ∀ t i, t < n → i < L t → I64n (X t i 2)) (hwf : ∀ x, x ∈ words → I64n x) (htab : TabB w.heap.size w) (hq : chk n (lenR (bSpin words.length X) L) (numR (bSpin words.length X) L) (words.length + lk) 0 8 = (0, 0, 0)) (hl : ∀ t, t < n → lenR (bSpin words.length X) L t ≤ 400)
    (hN : NewQ W n (words ++ List.replicate lk 0) 0 8 (bSpin words.length X) L (.returned (.agg #[.slice va n vc, .slice ua (words.length + lk) uc, .int .i64 0, .int .i64 8])) U) (hW : Below w.heap.size w W) (hk : ∀ g, W.heap.size ≤ g → g < U.heap.size → V.heap[g]? = U.heap[g]?) (hV : Below w.heap.size w V) :
    Calls Tryz.prog 13 #[.agg #[.slice va n vc, .slice ua (words.length + lk) uc, .int .i64 0, .int .i64 8]] V (TsoE V (lenR (bSpin words.length X) L) (numR (bSpin words.length X) L) (beginX n (words ++ List.replicate lk 0) 0 8)) := by
  have hwl : (words ++ List.replicate lk 0).length = words.length + lk := by rw [List.length_append, List.length_replicate]
  have hN2 := hN.far hk hW.size hV
  obtain ⟨va', vc', ua', uc', tv, he, h1, h2, h3, _⟩ := hN2
  rw [hwl] at he h3
  simp only [Ending.returned.injEq, Value.agg.injEq, Array.mk.injEq, List.cons.injEq, Value.slice.injEq, true_and, and_true] at he
  obtain ⟨⟨rfl, rfl⟩, rfl, rfl⟩ := he
  obtain ⟨ca', cc', A', C', e1, hpin⟩ := new_pin h1 h2 (by have := hc.n4; omega) (fun t ht => by have := hl t ht; omega)
  simp only [Value.slice.injEq, true_and] at e1
  obtain ⟨rfl, rfl⟩ := e1
  have hl2 : ∀ t, t < n → lenR (bSpin words.length X) L t ≤ 1000 := fun t ht => Nat.le_trans (hl t ht) (by decide)
  have hcq : COk n (lenR (bSpin words.length X) L) (numR (bSpin words.length X) L) (words ++ List.replicate lk 0).length 0 8 := by rw [hwl]; exact spin_cok hc hg hml hl2
  have h3' : V.ownsRow w.heap.size 3 1 (.slice ua (words ++ List.replicate lk 0).length uc) (words ++ List.replicate lk 0).length (intsV (words ++ List.replicate lk 0)) := by rw [hwl]; exact h3
  have h := tso_yes V va n vc ua uc 0 8 (words ++ List.replicate lk 0) A' (lenR (bSpin words.length X) L) C' (numR (bSpin words.length X) L) (by show chk _ _ _ _ _ _ = _; rw [hwl]; exact hq) hpin hcq hn0 (sis_own2 h3').1 (sis_own2 h3').2 (spin_fit hfit hl2 hc hg) (fun x hx => by
    rcases List.mem_append.mp hx with hx | hx
    · exact hwf x hx
    · rw [List.eq_of_mem_replicate hx]; exact ⟨by decide, by decide⟩) (htab.up hV)
  rw [hwl] at h
  exact h.mono fun _ _ q => q.tsoE
theorem topSpun_any (w : World) (ca : Option Addr) (n cc : Nat) (wa : Option Addr) (wc : Nat) (lk rg : Int) (words : List Int) (A : Nat → Option Addr) (L C : Nat → Nat) (X : Nat → Nat → Nat → Int) (hm : words.length ≤ 9223372036854775807) (hp : PIn w ca n A L C X) (hw : SIs w wa words) (hnil : wa = none → words = [] ∧ wc = 0) (hfit : ∀ t i, t < n → i < L t → I64n (X t i 2)) (hwf : ∀ x, x ∈ words → I64n x) (htab : TabB w.heap.size w) :
    Calls Tryz.prog 5 #[prgV ca n cc wa words.length wc lk rg] w fun e w' => e = .returned (.bool true) ∧ Below w.heap.size w w' := by
  have HV : Hid (∀ W, Below w.heap.size w W → Calls Tryz.prog 11 #[prgV ca n cc wa words.length wc lk rg] W fun e w' => ∃ b, e = .returned (.bool b) ∧ Below W.heap.size W w') := fun W hb => (vastS_any ca n cc wa words.length wc lk rg A L C X hm W (hp.below hb)).mono fun e w' ⟨⟨b, h1⟩, h2⟩ => ⟨b, h1, h2⟩
  obtain ⟨x, y, z, hR⟩ : ∃ x y z, chk n L X words.length lk rg = (x, y, z) := ⟨_, _, _, rfl⟩
  by_cases hx : x = 0
  · obtain ⟨rfl, rfl, hn0, lk', rg', rfl, rfl, hc⟩ := chk_cok hR hx
    subst hx
    have hcb : (chk n L X words.length lk' rg').1 = 0 → words.length ≤ 64 ∧ (0 : Int) ≤ lk' ∧ (lk' : Int) ≤ 4 := fun _ => ⟨hc.m64, by omega, by have := hc.lk4; omega⟩
    refine topSpun_walk w ca n cc wa words.length wc lk' rg' L X (lenR (bSpin words.length X) L) (numR (bSpin words.length X) L) (beginX n words lk' rg') (beginX n (words ++ List.replicate lk' 0) 0 8) HV (fun V _ => link_two V) (fun W hb => ?_)
    by_cases h6 : (6 : Int) < rg'
    · refine Calls.mono (link_no W ca n cc wa words.length wc lk' rg' 3 0 0 A L C X (hp.below hb) (by rw [hR]; unfold refF; rw [if_neg (by simp), if_pos h6]) hcb (by decide)) ?_
      rintro e w' ⟨rfl, hbw⟩
      exact ⟨none, 0, 0, none, 0, 0, 0, 0, 3, 0, 0, rfl, hbw, fun h => absurd h (by decide)⟩
    by_cases h64 : 64 < (words.length : Int) + lk'
    · refine Calls.mono (link_no W ca n cc wa words.length wc lk' rg' 1 0 0 A L C X (hp.below hb) (by rw [hR]; unfold refF; rw [if_neg (by simp), if_neg h6, if_pos h64]) hcb (by decide)) ?_
      rintro e w' ⟨rfl, hbw⟩
      exact ⟨none, 0, 0, none, 0, 0, 0, 0, 1, 0, 0, rfl, hbw, fun h => absurd h (by decide)⟩
    have hg : rg' ≤ 6 := by omega
    have hml : words.length + lk' ≤ 64 := by omega
    have hq := spin_chk hc hn0 hg hml
    rcases long_cases (L := lenR (bSpin words.length X) L) n 0 with ⟨h1, h2⟩ | ⟨t, _, _, h3, _⟩
    · rw [h1] at hq
      refine Calls.mono (link_may W ca n cc wa words wc lk' rg' 0 0 0 A L C X (hp.below hb) (hw.below hb) hnil hR hc hg hml hq) ?_
      intro e w' h
      rw [if_pos rfl] at h
      obtain ⟨va, vc, ua, uc, rfl, HQ, hbw⟩ := h
      refine ⟨va, n, vc, ua, words.length + lk', uc, 0, 8, 0, 0, 0, rfl, hbw, fun _ => ⟨hc.m64, fun V hV => ?_, fun V hk hV _ => tso_new hn0 hc hg hml hfit hwf htab hq (fun t ht => h2 t (Nat.zero_le _) (by omega)) (HQ.out w' (Below.refl _ _)) hb hk hV, fun a b ta hf tb => ?_⟩⟩
      · exact (tso_yes V ca n cc wa wc lk' rg' words A L C X hR (hp.below hV) hc hn0 (hw.below hV) hnil hfit hwf (htab.up hV)).mono fun _ _ h => h.tsoE
      · obtain ⟨h1, h2⟩ := spin_told hc hg (Or.inr rfl) (told_noFall hc ta hf (Or.inr rfl)) ta tb
        refine ⟨fun o ho h0 => ?_, fun o ho h0 => ?_⟩
        · obtain ⟨q, hq, q0, q1, q2⟩ := h2 o ho h0
          have hl := told_words hc (by decide) ta ho h0
          exact ⟨q, hq, mt_of (h0.trans q0.symm) (by rw [q1, ← hl, List.take_length]) q2.symm⟩
        · exact ⟨_, h1 o ho h0, mt_of h0 (by show o.ws.take words.length = (o.ws.take words.length).take words.length; rw [List.take_take, Nat.min_self]) rfl⟩
    · rw [h3] at hq
      refine Calls.mono (link_may W ca n cc wa words wc lk' rg' 1 t 0 A L C X (hp.below hb) (hw.below hb) hnil hR hc hg hml hq) ?_
      intro e w' h
      rw [if_neg (by decide)] at h
      obtain ⟨rfl, hbw⟩ := h
      exact ⟨none, 0, 0, none, 0, 0, 0, 0, 1, t, 0, rfl, hbw, fun h => absurd h (by decide)⟩
  · refine topSpun_walk w ca n cc wa words.length wc lk rg L X L X (beginX n words 0 0) (beginX n words 0 0) HV (fun V _ => link_two V) (fun W hb => ?_)
    refine Calls.mono (link_no W ca n cc wa words.length wc lk rg x y z A L C X (hp.below hb) (by rw [hR]; unfold refF; rw [if_pos hx]) (fun h => absurd (by rw [hR] at h; exact h) hx) hx) ?_
    rintro e w' ⟨rfl, hbw⟩
    exact ⟨none, 0, 0, none, 0, 0, 0, 0, x, y, z, rfl, hbw, fun h => absurd h hx⟩

end Go.Proofs.YtefnmbnakphhfadGreatDoor
