/-
  The law of programs with few registers that come to the same, for every program and all colours.
-/
import Derived.Test.YtocfocjnnjdcgaaDoorAlhW
import Derived.Test.YtocfocjnnjdcgaaDoorAlcJ
import Derived.Test.YtocfocjnnjdcgaaDoorAlpH
import Derived.Test.YtocfocjnnjdcgaaDoorRDo4
import Derived.Test.YtocfocjnnjdcgaaDoorEffP
namespace Go.Proofs.YtocfocjnnjdcgaaDoor
open Go.RowKit

/-- Colours that are some of the program, in memory. -/
def CkA (n : Nat) (L : Nat → Nat) (X : Nat → Nat → Nat → Int) (rg : Nat) (V : World) (v : Value) : Prop := ∃ va vc K, v = .slice va n vc ∧ CIn V va K ∧ ColP K n L X rg
/-- What is told has words, but where the run fell. -/
theorem told_len {n : Nat} {L : Nat → Nat} {X : Nat → Nat → Nat → Int} {words : List Int} {lk rg : Nat} {b : List Oc} {mx : Nat} (hc : COk n L X words.length lk rg) (hb : Told (nxX L X 0) (outsX L X 0) (beginX n words lk rg) mx false b) {o : Oc} (ho : o ∈ b) : (o.st ≠ 1 → o.ws.length = words.length) ∧ (o.st = 1 → o.ws = []) := by
  rcases hb with ⟨e, _⟩ | ⟨_, _, mb, _⟩
  · cases e
  obtain ⟨s, h1, h2⟩ := (mb o).1 ho
  obtain ⟨hok, hf⟩ := reach_ok begin_ok rfl hc (Int.le_refl _) h1
  rcases outs_cases hf (fun t ht => hok.wlen t (by rw [← hok.ths]; exact ht)) h2 with ⟨_, rfl⟩ | ⟨_, _, _, _, rfl⟩
  · refine ⟨fun _ => hok.words, fun h => ?_⟩
    have h' : (if endedX L s then (0 : Int) else 2) = 1 := h
    split at h' <;> omega
  · exact ⟨fun h => absurd rfl h, fun _ => rfl⟩
/-- A program with colours is told a fault of size alone. -/
theorem bPnt_or {n m lk rg : Nat} {L : Nat → Nat} {X : Nat → Nat → Nat → Int} {K : List (List Int)} (hc : COk n L X m lk rg) (hn : 0 < n) (hk : ∀ t, t < n → Col6 (K.getD t []) rg) {gx gy gz : Int} (h : chk n (lenR (bPnt m rg K X) L) (numR (bPnt m rg K X) L) (m + spT K rg n) lk 8 = (gx, gy, gz)) : gx = 0 ∨ gx = 1 := by
  by_cases hb : 64 < m + spT K rg n
  · rw [bPnt_big _ _ hn hc.n4 hb] at h
    simp only [Prod.mk.injEq] at h
    exact Or.inr h.1.symm
  · rw [bPnt_chk hc hn hk (by omega)] at h
    rcases long_cases (L := lenR (bPnt m rg K X) L) n 0 with ⟨h1, _⟩ | ⟨t, _, _, h3, _⟩
    · rw [h1] at h
      simp only [Prod.mk.injEq] at h
      exact Or.inl h.1.symm
    · rw [h3] at h
      simp only [Prod.mk.injEq] at h
      exact Or.inr h.1.symm

theorem allocHolds_any (w : World) (ca : Option Addr) (n cc : Nat) (wa : Option Addr) (wc : Nat) (lk rg : Int) (words : List Int) (A : Nat → Option Addr) (L C : Nat → Nat) (X : Nat → Nat → Nat → Int) (ka : Option Addr) (kc : Nat) (K : List (List Int)) (hm : words.length ≤ 9223372036854775807) (hp : PIn w ca n A L C X) (hw : SIs w wa words) (hnil : wa = none → words = [] ∧ wc = 0) (hK : CIn w ka K) (hT : TabZ w) :
    Calls Tryd.prog 6 #[prgV ca n cc wa words.length wc lk rg, .slice ka K.length kc] w fun e w' => e = .returned (.bool true) ∧ Below w.heap.size w w' := by
  have HV : Hid (∀ W, Below w.heap.size w W → Calls Tryd.prog 7 #[prgV ca n cc wa words.length wc lk rg] W fun e w' => ∃ b, e = .returned (.bool b) ∧ Below W.heap.size W w') := fun W hb => (vast_any ca n cc wa words.length wc lk rg A L C X hm W (hp.below hb)).mono fun e w' ⟨⟨b, h1⟩, h2⟩ => ⟨b, h1, h2⟩
  obtain ⟨x, y, z, hR⟩ : ∃ x y z, chk n L X words.length lk rg = (x, y, z) := ⟨_, _, _, rfl⟩
  have HCK : Hid (∀ W, Below w.heap.size w W → Calls Tryd.prog 10 #[prgV ca n cc wa words.length wc lk rg] W fun e w' => e = .returned (ints3 x y z) ∧ Below W.heap.size W w') := fun W hb => rcheck_any ca n cc wa words.length wc lk rg A L C X x y z hR W (hp.below hb)
  have HC : Hid (∀ W, Below w.heap.size w W → Calls Tryd.prog 41 #[prgV ca n cc wa words.length wc lk rg] W fun e w' => e = .returned (ints3 x y z) ∧ Below W.heap.size W w') := fun W hb => check_any ca n cc wa words.length wc lk rg A L C X x y z hR W (hp.below hb)
  by_cases hx : x = 0
  · obtain ⟨rfl, rfl, hn0, lk', rg', rfl, rfl, hc⟩ := chk_cok hR hx
    subst hx
    have hn4 := hc.n4
    refine alh_walk w ca n cc wa words.length wc lk' rg' 0 0 0 A L C X (beginX n words lk' rg') ka K.length kc (ColP K n L X rg') (CkA n L X rg') hp (fun _ => ⟨fun t ht => hc.L4 t ht, by omega⟩) (fun W V v ⟨va, vc, K', e, h1, h2⟩ hb => ⟨va, vc, K', e, h1.below hb, h2⟩) HV HCK (fun W hb => ?_) (fun _ hk => ⟨fun W hb => ?_, fun hP W hb => ⟨ka, kc, K, by rw [hP.1], hK.below hb, hP⟩⟩) (fun _ W va vn vc hb hck => ?_) (fun _ W hb => ?_)
    · refine (acolours_yes W ca n cc wa words.length wc lk' rg' A L C X (hp.below hb) hn0 hc (hT.below hb) (fun V hV => HC.out V (hb.trans (hV.mono hb.size)))).mono ?_
      rintro e w' ⟨K', ua, uc, rfl, hO, hP, h2⟩
      exact ⟨ua, n, uc, rfl, fun _ => ⟨ua, uc, K', rfl, cin_own hO, hP⟩, h2⟩
    · exact rcolours_any W ca n cc wa words.length wc lk' rg' A L C X ka K.length kc K (hp.below hb) hc (hK.below hb) rfl hk
    · obtain ⟨va', vc', K', e, hK', hP⟩ := hck
      simp only [Value.slice.injEq] at e
      obtain ⟨rfl, rfl, rfl⟩ := e
      have hk6 : ∀ t, t < vn → Col6 (K'.getD t []) rg' := fun t ht r hr => ((hP.2 t ht).2 r hr).2.1
      obtain ⟨gx, gy, gz, hq⟩ : ∃ gx gy gz, chk vn (lenR (bPnt words.length rg' K' X) L) (numR (bPnt words.length rg' K' X) L) (words.length + spT K' rg' vn) lk' 8 = (gx, gy, gz) := ⟨_, _, _, rfl⟩
      have hor := bPnt_or hc hn0 hk6 hq
      have hl : ∀ t, t < vn → lenR (bPnt words.length rg' K' X) L t ≤ 1000000 := fun t ht => by
        unfold lenR
        rw [code_len]
        have h4 := hc.L4 t ht
        have := plR_four (b := bPnt words.length rg' K' X t) (fun i => bPnt_len t i) (L t)
        omega
      have hwl : (words ++ List.replicate (spT K' rg' vn) 0).length = words.length + spT K' rg' vn := by rw [List.length_append, List.length_replicate]
      refine (apply_may W ca vn cc wa words wc lk' rg' A L C X va vc K' gx gy gz (hp.below hb) (hw.below hb) hnil hc (hT.below hb) hK' hP hq (fun V hV => HC.out V (hb.trans (hV.mono hb.size)))).mono ?_
      rintro e w' h
      by_cases hg : gx = 0
      · rw [if_pos hg] at h
        subst hg
        obtain ⟨rfl, rfl, _, lk2, rg2, e2, e3, hc'⟩ := chk_cok hq rfl
        obtain rfl : lk2 = lk' := by omega
        obtain rfl : rg2 = 8 := by omega
        obtain ⟨qa, qc, ua, uc, rfl, hN, hb'⟩ := h
        refine ⟨qa, vn, qc, ua, words.length + spT K' rg' vn, uc, lk2, 8, 0, 0, 0, rfl, fun V hk hV => Or.inr ⟨rfl, rfl, lenR (bPnt words.length rg' K' X) L, numR (bPnt words.length rg' K' X) L, beginX vn (words ++ List.replicate (spT K' rg' vn) 0) lk2 (8 : Nat), ?_⟩, hb'⟩
        obtain ⟨⟨A', C', hp'⟩, hw'⟩ := mk_new (uc := uc) (by rw [hwl]; exact (hN.out w' (Below.refl _ _)).far hk hb.size hV) hn4 hl
        rw [← hwl] at hc'
        refine ⟨fun U hU => ?_, fun U hU => ?_, fun b hb o ho => ?_, fun a b ha hb hnf => ?_⟩
        · exact rcheck_any qa vn qc ua _ uc lk2 8 A' _ C' _ 0 0 0 hq U (hp'.below hU)
        · have := make_anyE U false qa vn qc ua uc lk2 8 (words ++ List.replicate (spT K' rg' vn) 0) A' _ C' _ (hw'.below hU) hn0 hc' (hp'.below hU)
          rw [hwl] at this
          exact this
        · obtain ⟨h1, h2⟩ := told_len hc' hb ho
          exact ⟨fun h => by rw [h1 h, hwl]; omega, h2⟩
        · have hs : SortedO a := by
            rcases ha with ⟨e, _⟩ | ⟨_, sa, _, _⟩
            · cases e
            · exact sa
          rw [hwl] at hc'
          have h1 := alloc_same hc hc' hP ha hb (fun ⟨t, i, ht, hi, hr⟩ => hnf ⟨t, i, Or.inl ht, hi, hr⟩)
          refine sorted_same hs (once_sorted _) fun o => ?_
          rw [h1 o, once_mem, List.mem_map]
          constructor
          · rintro ⟨o', g1, g2⟩
            exact ⟨o', g1, g2.symm⟩
          · rintro ⟨o', g1, g2⟩
            exact ⟨o', g1, g2.symm⟩
      · rw [if_neg hg] at h
        obtain ⟨rfl, hb'⟩ := h
        exact ⟨none, 0, 0, none, 0, 0, 0, 0, gx, gy, gz, rfl, fun V _ _ => Or.inl (by omega), hb'⟩
    · exact make_anyE W false ca n cc wa wc lk' rg' words A L C X (hw.below hb) hn0 hc (hp.below hb)
  · refine alh_walk w ca n cc wa words.length wc lk rg x y z A L C X (beginX n words lk rg) ka K.length kc True (fun _ _ => True) hp (fun h => absurd h hx) (fun _ _ _ _ _ => True.intro) HV HCK (fun W hb => ?_) (fun h => absurd h hx) (fun h => absurd h hx) (fun h => absurd h hx)
    refine (acolours_no W ca n cc wa words.length wc lk rg x y z hx (fun V hV => HC.out V (hb.trans (hV.mono hb.size)))).mono ?_
    rintro e w' ⟨rfl, h2⟩
    exact ⟨none, 0, 0, rfl, fun _ => True.intro, h2⟩

end Go.Proofs.YtocfocjnnjdcgaaDoor
