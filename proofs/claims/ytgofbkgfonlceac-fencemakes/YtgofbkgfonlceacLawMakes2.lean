/-
  The law of fences that are put and taken away, for every program.
-/
import Derived.Test.YtgofbkgfonlceacLawMakes
import Derived.Test.YtgofbkgfonlceacSameA
namespace Go.Proofs.Ytgofbkgfonlceac
open Go.RowKit

theorem code_congr {b c : Nat → List I4} {L : Nat} (h : ∀ i, i < L → b i = c i) (ht : ∀ i x, i < L → x ∈ b i → (x.1 = 14 → x.2.1.toNat ≤ L) ∧ (x.1 = 15 → x.2.2.1.toNat ≤ L)) : codeR b L = codeR c L := by
  have hpl : ∀ j, j ≤ L → plR b j = plR c j := fun j hj => (raw_congr (fun i hi => h i (by omega))).2
  unfold codeR
  rw [← (raw_congr h).1]
  apply List.map_congr_left
  intro x hx
  obtain ⟨i, hi, hm⟩ := raw_mem hx
  obtain ⟨h1, h2⟩ := ht i x hi hm
  unfold ledO
  by_cases e1 : x.1 = 14
  · rw [if_pos e1, if_pos e1, hpl _ (h1 e1), if_neg (by omega), if_neg (by omega)]
  · rw [if_neg e1, if_neg e1]
    by_cases e2 : x.1 = 15
    · rw [if_pos e2, if_pos e2, hpl _ (h2 e2)]
    · rw [if_neg e2, if_neg e2]
/-- A program that was made anew lies in memory. -/
def MkP (b : Nat → Nat → List I4) (n : Nat) (L : Nat → Nat) (words : List Int) (V : World) (va ua : Option Addr) : Prop := (∃ A C, PIn V va n A (lenR b L) C (numR b L)) ∧ SIs V ua words
theorem mk_new {W U : World} {n : Nat} {words : List Int} {lk rg : Int} {b : Nat → Nat → List I4} {L : Nat → Nat} {va : Option Addr} {vc : Nat} {ua : Option Addr} {uc : Nat} (hN : NewQ W n words lk rg b L (.returned (.agg #[.slice va n vc, .slice ua words.length uc, .int .i64 lk, .int .i64 rg])) U) (hn : n ≤ 4) (hl : ∀ t, t < n → lenR b L t ≤ 1000000) : MkP b n L words U va ua := by
  obtain ⟨va', vc', ua', uc', tv, he, h1, h2, h3, _⟩ := hN
  simp only [Ending.returned.injEq, Value.agg.injEq, Array.mk.injEq, List.cons.injEq, Value.slice.injEq, true_and, and_true] at he
  obtain ⟨⟨rfl, rfl⟩, rfl, rfl⟩ := he
  obtain ⟨ca', cc', A', C', e1, hpin⟩ := new_pin h1 h2 (by omega) hl
  simp only [Value.slice.injEq, true_and] at e1
  obtain ⟨rfl, rfl⟩ := e1
  exact ⟨⟨A', C', hpin⟩, sis_own h3⟩
theorem NewQ.congr {w V : World} {n : Nat} {words : List Int} {lk rg : Int} {b c : Nat → Nat → List I4} {L : Nat → Nat} {e : Ending} (h : NewQ w n words lk rg b L e V) (hbc : ∀ t, t < n → codeR (b t) (L t) = codeR (c t) (L t)) : NewQ w n words lk rg c L e V := by
  obtain ⟨va, vc, ua, uc, tv, h0, h1, h2, h3, h4⟩ := h
  exact ⟨va, vc, ua, uc, tv, h0, h1, fun t ht => by rw [← hbc t ht]; exact h2 t ht, h3, h4⟩
theorem mk_same {b : Nat → Nat → List I4} {n : Nat} {L : Nat → Nat} {words : List Int} {V : World} {va ua va' ua' : Option Addr} {vc uc vc' uc' : Nat} {lk rg : Int} (hm : words.length ≤ 64) (h : MkP b n L words V va ua) (h' : MkP b n L words V va' ua') :
    Calls Try.prog 12 #[.agg #[.slice va n vc, .slice ua words.length uc, .int .i64 lk, .int .i64 rg], .agg #[.slice va' n vc', .slice ua' words.length uc', .int .i64 lk, .int .i64 rg]] V fun e w' => e = .returned (.bool true) ∧ Below V.heap.size V w' := by
  obtain ⟨⟨A, C, hp⟩, hs⟩ := h
  obtain ⟨⟨A', C', hp'⟩, hs'⟩ := h'
  exact same_any va n vc ua words.length uc lk rg A (lenR b L) C (numR b L) va' vc' ua' uc' A' C' (fun i => words.getD i 0) (by omega) V hp hp' hs hs'
theorem fullw_len (X : Nat → Nat → Nat → Int) (L : Nat → Nat) (t : Nat) : lenR (bFull X) L t ≤ 2 * L t := by
  unfold lenR
  rw [code_len]
  induction L t with
  | zero => simp [plR]
  | succ k ih =>
    rw [plR]
    have : (bFull X t k).length ≤ 2 := by unfold bFull bWith; split <;> simp
    omega
theorem newq_set {W w' V : World} {n : Nat} {words : List Int} {lk rg : Int} {b : Nat → Nat → List I4} {L : Nat → Nat} {e : Ending} (h : NewQ W n words lk rg b L e w') {gb : Nat} (hg : gb < W.heap.size) {x0 x1 x2 x3 : Value} (hV : Below w'.heap.size ((((w'.setCell ⟨gb, 0, none⟩ x0).setCell ⟨gb, 1, none⟩ x1).setCell ⟨gb, 2, none⟩ x2).setCell ⟨gb, 3, none⟩ x3) V) : ∃ va vc ua uc tv, e = .returned (.agg #[.slice va n vc, .slice ua words.length uc, .int .i64 lk, .int .i64 rg]) ∧ V.ownsRow W.heap.size 47 1 (.slice va n vc) n tv ∧ (∀ t, t < n → OwnC V W.heap.size (tv.getD t nilV) (codeR (b t) (L t))) ∧ V.ownsRow W.heap.size 3 1 (.slice ua words.length uc) words.length (intsV words) := by
  obtain ⟨va, vc, ua, uc, tv, h0, h1, h2, h3, h4⟩ := h
  have hk : ∀ g, W.heap.size ≤ g → g < w'.heap.size → V.heap[g]? = w'.heap[g]? := fun g h1 h2 => by
    rw [hV.block g h2]
    rw [Below.heap_setCell _ _ _ _ (fun x => by simp at x; omega), Below.heap_setCell _ _ _ _ (fun x => by simp at x; omega), Below.heap_setCell _ _ _ _ (fun x => by simp at x; omega), Below.heap_setCell _ _ _ _ (fun x => by simp at x; omega)]
  exact ⟨va, vc, ua, uc, tv, h0, fam_keeps h1 fun g hg => hk g (h1.lt g hg).1 (h1.lt g hg).2, fun t ht => fam_keeps (h2 t ht) fun g hg => hk g ((h2 t ht).lt g hg).1 ((h2 t ht).lt g hg).2, fam_keeps h3 fun g hg => hk g (h3.lt g hg).1 (h3.lt g hg).2⟩
theorem fenceMakes_any (w : World) (ca : Option Addr) (n cc : Nat) (wa : Option Addr) (wc : Nat) (lk rg : Int) (words : List Int) (A : Nat → Option Addr) (L C : Nat → Nat) (X : Nat → Nat → Nat → Int) (hm : words.length ≤ 9223372036854775807) (hp : PIn w ca n A L C X) (hw : SIs w wa words) (hnil : wa = none → words = [] ∧ wc = 0) :
    Calls Try.prog 3 #[prgV ca n cc wa words.length wc lk rg] w fun e w' => e = .returned (.bool true) ∧ Below w.heap.size w w' := by
  have HV : Hid (∀ W, Below w.heap.size w W → Calls Try.prog 6 #[prgV ca n cc wa words.length wc lk rg] W fun e w' => ∃ b, e = .returned (.bool b) ∧ Below W.heap.size W w') := fun W hb => (vast_any ca n cc wa words.length wc lk rg A L C X hm W (hp.below hb)).mono fun e w' ⟨⟨b, h1⟩, h2⟩ => ⟨b, h1, h2⟩
  obtain ⟨x, y, z, hR⟩ : ∃ x y z, chk n L X words.length lk rg = (x, y, z) := ⟨_, _, _, rfl⟩
  have HCK : Hid (∀ W, Below w.heap.size w W → Calls Try.prog 9 #[prgV ca n cc wa words.length wc lk rg] W fun e w' => e = .returned (ints3 x y z) ∧ Below W.heap.size W w') := fun W hb => rcheck_any ca n cc wa words.length wc lk rg A L C X x y z hR W (hp.below hb)
  by_cases hx : x = 0
  · obtain ⟨rfl, rfl, hn0, lk', rg', rfl, rfl, hc⟩ := chk_cok hR hx
    subst hx
    obtain ⟨Bc, hBc⟩ : ∃ B : Nat → Nat → Bool, ∀ t i, B t i = true ↔ Way (L t) (X t) i true := by
      classical exact ⟨fun t i => decide (Way (L t) (X t) i true), fun t i => by simp⟩
    have hn4 := hc.n4
    have hlF : ∀ t, t < n → lenR (bFull X) L t ≤ 1000000 := fun t ht => by have := fullw_len X L t; have := hc.L4 t ht; omega
    have hlD : ∀ t, t < n → lenR (bLess (dropD Bc X) X) L t ≤ 1000000 := fun t ht => by have := less_len (dropD Bc X) X L t; have := hc.L4 t ht; omega
    have hcg : ∀ B : Nat → Nat → Bool, (∀ t i, t < n → i < L t → (B t i = true ↔ Way (L t) (X t) i true)) → ∀ t, t < n → codeR (bLess (dropD B X) X t) (L t) = codeR (bLess (dropD Bc X) X t) (L t) := fun B hB t ht => by
      refine code_congr (fun i hi => ?_) (fun i x hi hx => ?_)
      · have : B t i = Bc t i := Bool.eq_iff_iff.2 ((hB t i ht hi).trans (hBc t i).symm)
        unfold bLess dropD
        rw [this]
      · have h1 := new_led hc ht hi (bLess_in _ _ _ _ _ hx)
        exact ⟨fun e => by have := h1.2.1 e; omega, fun e => by have := h1.2.2 e; omega⟩
    have hq := new_chk hc hn0 (bFull X) (fun t i _ _ x hx => bFull_in X t i x hx)
    obtain ⟨lng, hlng⟩ : ∃ lng : Int, (lng = -1 ∧ firstThread (longR (lenR (bFull X) L)) n 0 = (0, 0, 0) ∧ ∀ i, i < n → lenR (bFull X) L i ≤ 400) ∨ ∃ t : Nat, lng = t ∧ t < n ∧ firstThread (longR (lenR (bFull X) L)) n 0 = (1, (t : Int), 0) ∧ 400 < lenR (bFull X) L t ∧ ∀ i, i < t → lenR (bFull X) L i ≤ 400 := by
      rcases long_cases (L := lenR (bFull X) L) n 0 with ⟨h1, h2⟩ | ⟨t, _, h2, h3, h4, h5⟩
      · exact ⟨-1, .inl ⟨rfl, h1, fun i hi => h2 i (by omega) (by omega)⟩⟩
      · exact ⟨t, .inr ⟨t, rfl, by omega, h3, h4, fun i hi => h5 i (by omega) hi⟩⟩
    refine fenceMakes_walk w ca n cc wa words.length wc lk' rg' 0 0 0 lng (MkP (bFull X) n L words) (MkP (bLess (dropD Bc X) X) n L words) (fun V v => WsIn V v n L (fun t i => wtO (X t i 0))) HV (fun W hb => ?_) (fun W hb => ?_) HCK (fun _ W hb => ?_) (fun _ W hb => ?_) (fun _ W hv hb hs => ?_) (fun _ V va vc ua uc hM => ?_)
    · rcases hlng with ⟨rfl, h1, _⟩ | ⟨t, rfl, _, h1, _⟩
      · rw [h1] at hq
        refine Calls.mono (full_may W ca n cc wa words wc lk' rg' 0 0 0 A L C X (hp.below hb) (hw.below hb) hnil hR hc hq) ?_
        intro e w' h
        rw [if_pos rfl] at h
        obtain ⟨va, vc, ua, uc, rfl, HQ, hbw⟩ := h
        refine ⟨va, n, vc, ua, words.length, uc, lk', rg', 0, 0, 0, rfl, hbw, fun V hV => ?_, .inr (.inr ⟨rfl, rfl, rfl, fun V va' vc' ua' uc' hV hM => mk_same hc.m64 (mk_new (HQ.out V hV) hn4 hlF) hM⟩)⟩
        refine Calls.mono (none_some V va n vc ua words.length uc lk' rg' hn0 hn4 hc.m64) ?_
        rintro e w'' ⟨rfl, hb2⟩
        exact ⟨false, rfl, fun h => by rcases h with h | h <;> omega, hb2⟩
      · rw [h1] at hq
        refine Calls.mono (full_may W ca n cc wa words wc lk' rg' 1 t 0 A L C X (hp.below hb) (hw.below hb) hnil hR hc hq) ?_
        intro e w' h
        rw [if_neg (by decide)] at h
        obtain ⟨rfl, hbw⟩ := h
        refine ⟨none, 0, 0, none, 0, 0, 0, 0, 1, t, 0, rfl, hbw, fun V hV => ?_, .inr (.inl ⟨rfl, by omega, rfl, rfl, rfl⟩)⟩
        refine Calls.mono (none_no V) ?_
        rintro e w'' ⟨rfl, hb2⟩
        exact ⟨true, rfl, fun _ => rfl, hb2⟩
    · refine Calls.mono (drop_may W ca n cc wa words wc lk' rg' A L C X (hp.below hb) (hw.below hb) hnil hR hc) ?_
      rintro e w' ⟨B, va, vc, ua, uc, rfl, HQ, hbw⟩
      refine ⟨va, n, vc, ua, words.length, uc, lk', rg', 0, 0, 0, rfl, hbw, fun V hV => ?_, .inr ⟨rfl, rfl, fun V va' vc' ua' uc' hV hM => mk_same hc.m64 (mk_new ((HQ.out.2 V hV).congr (hcg B HQ.out.1)) hn4 hlD) hM⟩⟩
      refine Calls.mono (none_some V va n vc ua words.length uc lk' rg' hn0 hn4 hc.m64) ?_
      rintro e w'' ⟨rfl, hb2⟩
      exact ⟨false, rfl, fun h => absurd rfl h, hb2⟩
    · refine Calls.mono (rdrop_any W ca n cc wa words wc lk' rg' A L C X (hp.below hb) (hw.below hb) hc) ?_
      rintro e w' ⟨B, hB, hN⟩
      have hN' := hN.congr (hcg B hB)
      obtain ⟨va, vc, ua, uc, tv, rfl, h1⟩ := hN
      exact ⟨va, vc, ua, uc, rfl, fun V hV => mk_new (hN'.below hV) hn4 hlD, h1.2.2.2⟩
    · refine Calls.mono (stores_any W ca n cc wa words.length wc lk' rg' A L C X (hp.below hb) hn4 hc.L4) ?_
      rintro e w' ⟨v, rfl, h1, h2⟩
      obtain ⟨g, c, _, _, rfl, _⟩ := h1 0 hn0
      exact ⟨_, _, _, rfl, h1, h2⟩
    · refine Calls.mono (with_any W ca n cc wa words wc lk' rg' hv _ A L C X (hp.below hb) (hw.below hb) hc hs) ?_
      intro e w' hN
      have hN0 := hN
      obtain ⟨va, vc, ua, uc, tv, rfl, h1⟩ := hN
      refine ⟨va, vc, ua, uc, rfl, fun gb a b c d V hg hV => ?_, h1.2.2.2⟩
      obtain ⟨va', vc', ua', uc', tv', he, k1, k2, k3⟩ := newq_set hN0 hg hV
      simp only [Ending.returned.injEq, Value.agg.injEq, Array.mk.injEq, List.cons.injEq, Value.slice.injEq, true_and, and_true] at he
      obtain ⟨⟨rfl, rfl⟩, rfl, rfl⟩ := he
      obtain ⟨ca', cc', A', C', e1, hpin⟩ := new_pin (b := bFull X) k1 k2 (by omega) hlF
      simp only [Value.slice.injEq, true_and] at e1
      obtain ⟨rfl, rfl⟩ := e1
      exact ⟨⟨A', C', hpin⟩, sis_own k3⟩
    · obtain ⟨⟨A', C', hpin⟩, _⟩ := hM
      refine Calls.mono (long_any V va n vc ua words.length uc lk' rg' A' _ C' _ hpin hn4) ?_
      rintro e w' ⟨r, rfl, hr, hbV⟩
      refine ⟨?_, hbV⟩
      rcases hr with ⟨t, rfl, ht, h4, h5⟩ | ⟨rfl, h5⟩ <;> rcases hlng with ⟨rfl, _, k1⟩ | ⟨s, rfl, hs, _, k2, k3⟩
      · exact absurd (k1 t ht) (by omega)
      · have : t = s := by
          rcases Nat.lt_trichotomy t s with h | h | h
          · exact absurd (k3 t h) (by omega)
          · exact h
          · exact absurd (h5 s h) (by omega)
        rw [this]
      · rfl
      · exact absurd (h5 s hs) (by omega)
  · refine fenceMakes_walk w ca n cc wa words.length wc lk rg x y z 0 (fun _ _ _ => True) (fun _ _ _ => True) (fun _ _ => True) HV (fun W hb => ?_) (fun W hb => ?_) HCK (fun h => absurd h hx) (fun h => absurd h hx) (fun h => absurd h hx) (fun h => absurd h hx)
    · refine Calls.mono (full_no W ca n cc wa words.length wc lk rg x y z A L C X (hp.below hb) hR hx) ?_
      rintro e w' ⟨rfl, hbw⟩
      refine ⟨none, 0, 0, none, 0, 0, 0, 0, x, y, z, rfl, hbw, fun V hV => ?_, .inl ⟨hx, rfl, rfl, rfl⟩⟩
      refine Calls.mono (none_no V) ?_
      rintro e w'' ⟨rfl, hb2⟩
      exact ⟨true, rfl, fun _ => rfl, hb2⟩
    · refine Calls.mono (drop_no W ca n cc wa words.length wc lk rg x y z A L C X (hp.below hb) hR hx) ?_
      rintro e w' ⟨rfl, hbw⟩
      refine ⟨none, 0, 0, none, 0, 0, 0, 0, x, y, z, rfl, hbw, fun V hV => ?_, .inl ⟨hx, rfl, rfl, rfl⟩⟩
      refine Calls.mono (none_no V) ?_
      rintro e w'' ⟨rfl, hb2⟩
      exact ⟨true, rfl, fun _ => rfl, hb2⟩

end Go.Proofs.Ytgofbkgfonlceac
