/-
  A program that was made anew, in memory.
  What Const and Dead make: by one solution for all threads; how long it is.
  The law of programs with less to do, for every program.
-/
import Derived.Test.YtkailbdjilkneaaDoorNewC
import Derived.Test.YtkailbdjilkneaaDoorOptCk
import Derived.Test.YtkailbdjilkneaaDoorLivMa
import Derived.Test.YtkailbdjilkneaaDoorLawOpt
import Derived.Test.YtkailbdjilkneaaDoorOptH2
namespace Go.Proofs.YtkailbdjilkneaaDoor
section
open Go.RowKit

/-- The orders anew, known of the thread's own alone. -/
theorem code_congr {b c : Nat → List I4} {L : Nat} (h : ∀ i, i < L → b i = c i) (ht : ∀ i x, i < L → x ∈ b i → (x.1 = 14 → x.2.1.toNat ≤ L) ∧ (x.1 = 15 → x.2.2.1.toNat ≤ L)) : codeR b L = codeR c L := by
  have hpl : ∀ j, j ≤ L → plR b j = plR c j := fun j hj => (raw_congr (fun i hi => h i (by omega))).2
  unfold codeR
  rw [← (raw_congr h).1]
  apply List.map_congr_left
  intro x hx
  obtain ⟨i, hi, hm⟩ := raw_mem hx
  obtain ⟨h1, h2⟩ := ht i x hi hm
  unfold ledO
  by_cases e1 : x.1 = 14
  · rw [if_pos e1, if_pos e1, hpl _ (h1 e1), if_neg (by omega), if_neg (by omega)]
  · rw [if_neg e1, if_neg e1]
    by_cases e2 : x.1 = 15
    · rw [if_pos e2, if_pos e2, hpl _ (h2 e2)]
    · rw [if_neg e2, if_neg e2]
theorem NewQ.congr {w V : World} {n : Nat} {words : List Int} {lk rg : Int} {b c : Nat → Nat → List I4} {L : Nat → Nat} {e : Ending} (h : NewQ w n words lk rg b L e V) (hbc : ∀ t, t < n → codeR (b t) (L t) = codeR (c t) (L t)) : NewQ w n words lk rg c L e V := by
  obtain ⟨va, vc, ua, uc, tv, h0, h1, h2, h3, h4⟩ := h
  exact ⟨va, vc, ua, uc, tv, h0, h1, fun t ht => by rw [← hbc t ht]; exact h2 t ht, h3, h4⟩
end

section
open Go.RowKit

/-- What Const made, by one solution for all threads. -/
theorem con_all {n m lk rg : Nat} {L : Nat → Nat} {X : Nat → Nat → Nat → Int} (hc : COk n L X m lk rg) {b : Nat → Nat → List I4} (h : ∀ t, t < n → ConG X L rg t (b t)) : ∃ E : Nat → Nat → Nat → Vl, (∀ t, t < n → LsV (X t) (L t) rg (E t)) ∧ ∀ t, t < n → codeR (b t) (L t) = codeR (bCon X E t) (L t) := by
  have h1 : ∀ t, ∃ E : Nat → Nat → Vl, t < n → LsV (X t) (L t) rg E ∧ ∀ i, i < L t → b t i = bConX (X t) i (E i) := fun t => by
    by_cases ht : t < n
    · obtain ⟨E, h2⟩ := h t ht
      exact ⟨E, fun _ => h2⟩
    · exact ⟨fun _ _ => .no, fun h => absurd h ht⟩
  refine ⟨fun t => Classical.choose (h1 t), fun t ht => (Classical.choose_spec (h1 t) ht).1, fun t ht => ?_⟩
  refine code_congr (fun i hi => (Classical.choose_spec (h1 t) ht).2 i hi) (fun i x hi hx => ?_)
  have h2 := (conG_led hc t (b t) ht (h t ht) i hi).2 x hx
  exact ⟨fun e => by have := h2.2.1 e; omega, fun e => by have := h2.2.2 e; omega⟩
theorem con_len {n m lk rg : Nat} {L : Nat → Nat} {X : Nat → Nat → Nat → Int} (hc : COk n L X m lk rg) (E : Nat → Nat → Nat → Vl) (t : Nat) (ht : t < n) : lenR (bCon X E) L t ≤ L t ∧ lenR (bCon X E) L t ≤ 1000 := by
  have h1 := one_len (L := L) (bCon_one X E) t
  have h2 := hc.L4 t ht
  omega
/-- What Dead made, by which orders are dead. -/
theorem dea_all {n m lk rg : Nat} {L : Nat → Nat} {X : Nat → Nat → Nat → Int} (hc : COk n L X m lk rg) {b : Nat → Nat → List I4} (h : ∀ t, t < n → DeaG X L t (b t)) : ∃ D : Nat → Nat → Bool, (∀ t i, t < n → i < L t → (D t i = true ↔ deadO (X t) (L t) i)) ∧ ∀ t, t < n → codeR (b t) (L t) = codeR (bLess D X t) (L t) := by
  classical
  refine ⟨fun t i => decide (deadO (X t) (L t) i), fun t i _ _ => by simp, fun t ht => ?_⟩
  refine code_congr (fun i hi => ?_) (fun i x hi hx => ?_)
  · obtain ⟨d, h1, h2⟩ := h t ht i hi
    have e : decide (deadO (X t) (L t) i) = d := by
      cases d with
      | true => exact decide_eq_true (h2.1 rfl)
      | false => exact decide_eq_false fun h3 => by cases h2.2 h3
    rw [h1]
    show _ = bDrop (decide (deadO (X t) (L t) i)) (ordAt X t i)
    rw [e]
  · have h2 := (deaG_led hc t (b t) ht (h t ht) i hi).2 x hx
    exact ⟨fun e => by have := h2.2.1 e; omega, fun e => by have := h2.2.2 e; omega⟩
end

section
open Go.RowKit

/-- A program that was made anew, as a value. -/
def MkV (b : Nat → Nat → List I4) (n : Nat) (L : Nat → Nat) (words : List Int) (lk rg : Int) (V : World) (Q : Value) : Prop := ∃ va vc ua uc, Q = .agg #[.slice va n vc, .slice ua words.length uc, .int .i64 lk, .int .i64 rg] ∧ MkP b n L words V va ua
theorem mkv_same {b : Nat → Nat → List I4} {n : Nat} {L : Nat → Nat} {words : List Int} {lk rg : Int} (hm : words.length ≤ 64) (V : World) (Q R : Value) (h : MkV b n L words lk rg V Q) (h' : MkV b n L words lk rg V R) : Calls Tryd.prog 16 #[Q, R] V fun e w'' => e = .returned (.bool true) ∧ Below V.heap.size V w'' := by
  obtain ⟨va, vc, ua, uc, rfl, h1⟩ := h
  obtain ⟨va', vc', ua', uc', rfl, h2⟩ := h'
  exact mk_same hm h1 h2
theorem newq_made {W w' : World} {n : Nat} {words : List Int} {lk rg : Int} {b c : Nat → Nat → List I4} {L : Nat → Nat} {e : Ending} (h : NewQ W n words lk rg b L e w') (hcode : ∀ t, t < n → codeR (b t) (L t) = codeR (c t) (L t)) (hn : n ≤ 4) (hl : ∀ t, t < n → lenR c L t ≤ 1000) : OptD W (MkV c n L words lk rg) e w' := by
  have h' := h.congr hcode
  obtain ⟨va, vc, ua, uc, tv, rfl, h1⟩ := h
  exact ⟨va, n, vc, ua, words.length, uc, lk, rg, rfl, h1.2.2.2, fun V hV => ⟨va, vc, ua, uc, rfl, mk_new (h'.below hV) hn fun t ht => Nat.le_trans (hl t ht) (by omega)⟩⟩

theorem optMakes_any (w : World) (ca : Option Addr) (n cc : Nat) (wa : Option Addr) (wc : Nat) (lk rg : Int) (words : List Int) (A : Nat → Option Addr) (L C : Nat → Nat) (X : Nat → Nat → Nat → Int) (hm : words.length ≤ 9223372036854775807) (hp : PIn w ca n A L C X) (hw : SIs w wa words) (hnil : wa = none → words = [] ∧ wc = 0) (hT : TabZ w) :
    Calls Tryd.prog 3 #[prgV ca n cc wa words.length wc lk rg] w fun e w' => e = .returned (.bool true) ∧ Below w.heap.size w w' := by
  have HV : Hid (∀ W, Below w.heap.size w W → Calls Tryd.prog 9 #[prgV ca n cc wa words.length wc lk rg] W fun e w' => ∃ b, e = .returned (.bool b) ∧ Below W.heap.size W w') := fun W hb => (vast_any ca n cc wa words.length wc lk rg A L C X hm W (hp.below hb)).mono fun e w' ⟨⟨b, h1⟩, h2⟩ => ⟨b, h1, h2⟩
  obtain ⟨x, y, z, hR⟩ : ∃ x y z, chk n L X words.length lk rg = (x, y, z) := ⟨_, _, _, rfl⟩
  have HCK : Hid (∀ W, Below w.heap.size w W → Calls Tryd.prog 12 #[prgV ca n cc wa words.length wc lk rg] W fun e w' => e = .returned (ints3 x y z) ∧ Below W.heap.size W w') := fun W hb => rcheck_any ca n cc wa words.length wc lk rg A L C X x y z hR W (hp.below hb)
  by_cases hx : x = 0
  · obtain ⟨rfl, rfl, hn0, lk', rg', rfl, rfl, hc⟩ := chk_cok hR hx
    subst hx
    -- one solution, and one set of dead orders, for both sides
    obtain ⟨E0, hE0⟩ : ∃ E : Nat → Nat → Nat → Vl, ∀ t, t < n → LsV (X t) (L t) rg' (E t) := by
      have h1 : ∀ t, ∃ E : Nat → Nat → Vl, t < n → LsV (X t) (L t) rg' E := fun t => by
        by_cases ht : t < n
        · obtain ⟨E, h⟩ := ls_ex (X := X t) (l := L t) (rg := rg') (hc.ord t · ht)
          exact ⟨E, fun _ => h⟩
        · exact ⟨fun _ _ => .no, fun h => absurd h ht⟩
      exact ⟨fun t => Classical.choose (h1 t), fun t ht => Classical.choose_spec (h1 t) ht⟩
    obtain ⟨D0, hD0⟩ : ∃ D : Nat → Nat → Bool, ∀ t i, D t i = true ↔ deadO (X t) (L t) i := by
      classical exact ⟨fun t i => decide (deadO (X t) (L t) i), fun t i => by simp⟩
    have hcE : ∀ E : Nat → Nat → Nat → Vl, (∀ t, t < n → LsV (X t) (L t) rg' (E t)) → ∀ t, t < n → codeR (bCon X E t) (L t) = codeR (bCon X E0 t) (L t) := fun E hE t ht => by
      refine code_congr (fun i hi => bConX_congr hc.rg0 (hc.ord t i ht hi) fun r hr => (hE t ht).same (hE0 t ht) (by omega) hr) (fun i x hi hx => ?_)
      obtain ⟨h1, h2⟩ := bc_put (hc.ord t i ht hi) hx
      exact ⟨fun e => by have := h1 e; omega, fun e => by have := h2 e; omega⟩
    have hcD : ∀ D : Nat → Nat → Bool, (∀ t i, t < n → i < L t → (D t i = true ↔ deadO (X t) (L t) i)) → ∀ t, t < n → codeR (bLess D X t) (L t) = codeR (bLess D0 X t) (L t) := fun D hD t ht => by
      refine code_congr (fun i hi => ?_) (fun i x hi hx => ?_)
      · have : D t i = D0 t i := Bool.eq_iff_iff.2 ((hD t i ht hi).trans (hD0 t i).symm)
        unfold bLess
        rw [this]
      · have h1 := new_led hc ht hi (bLess_in _ _ _ _ _ hx)
        exact ⟨fun e => by have := h1.2.1 e; omega, fun e => by have := h1.2.2 e; omega⟩
    have hlE : ∀ t, t < n → lenR (bCon X E0) L t ≤ 1000 := fun t ht => (con_len hc E0 t ht).2
    have hlD : ∀ t, t < n → lenR (bLess D0 X) L t ≤ 1000 := fun t ht => Nat.le_trans (less_len D0 X L t) (hc.L4 t ht)
    refine optMakes_walk w ca n cc wa words.length wc lk' rg' 0 0 0 (MkV (bCon X E0) n L words lk' rg') (MkV (bLess D0 X) n L words lk' rg') HV (fun W hb => ?_) (fun W hb => ?_) HCK (fun _ W hb => ?_) (fun _ W hb => ?_) (mkv_same hc.m64) (mkv_same hc.m64)
    · refine (const_may W ca n cc wa words wc lk' rg' A L C X (hp.below hb) (hw.below hb) hnil hR hc).mono ?_
      rintro e w' ⟨b, va, vc, ua, uc, rfl, HG, hb'⟩
      obtain ⟨E, hE, hcode⟩ := con_all hc HG.out.1
      refine ⟨va, n, vc, ua, words.length, uc, lk', rg', rfl, hb', fun V hV => ⟨fun h => absurd rfl h, fun _ => ⟨va, vc, ua, uc, rfl, mk_new ((HG.out.2 V hV).congr fun t ht => (hcode t ht).trans (hcE E hE t ht)) hc.n4 fun t ht => Nat.le_trans (hlE t ht) (by omega)⟩⟩⟩
    · refine (dead_may W ca n cc wa words wc lk' rg' A L C X (hp.below hb) (hw.below hb) hnil hR hc (hT.below hb)).mono ?_
      rintro e w' ⟨b, va, vc, ua, uc, rfl, HG, hb'⟩
      obtain ⟨D, hD, hcode⟩ := dea_all hc HG.out.1
      refine ⟨va, n, vc, ua, words.length, uc, lk', rg', rfl, hb', fun V hV => ⟨fun h => absurd rfl h, fun _ => ⟨va, vc, ua, uc, rfl, mk_new ((HG.out.2 V hV).congr fun t ht => (hcode t ht).trans (hcD D hD t ht)) hc.n4 fun t ht => Nat.le_trans (hlD t ht) (by omega)⟩⟩⟩
    · refine (rconst_any W ca n cc wa words wc lk' rg' A L C X (hp.below hb) (hw.below hb) hc).mono ?_
      rintro e w' ⟨E, hE, hN⟩
      exact newq_made hN (hcE E hE) hc.n4 hlE
    · refine (rdead_any W ca n cc wa words wc lk' rg' A L C X (hp.below hb) (hw.below hb) hc).mono ?_
      rintro e w' ⟨D, hD, hN⟩
      exact newq_made hN (hcD D hD) hc.n4 hlD
  · refine optMakes_walk w ca n cc wa words.length wc lk rg x y z (fun _ _ => False) (fun _ _ => False) HV (fun W hb => ?_) (fun W hb => ?_) HCK (fun h => absurd h hx) (fun h => absurd h hx) (fun _ _ _ h => absurd h id) (fun _ _ _ h => absurd h id)
    · refine (const_no W ca n cc wa words.length wc lk rg x y z A L C X (hp.below hb) hR hx).mono ?_
      rintro e w' ⟨rfl, hb'⟩
      exact ⟨none, 0, 0, none, 0, 0, 0, 0, rfl, hb', fun V hV => ⟨fun _ => none_no V, fun h => absurd h hx⟩⟩
    · refine (dead_no W ca n cc wa words.length wc lk rg x y z A L C X (hp.below hb) hR hx).mono ?_
      rintro e w' ⟨rfl, hb'⟩
      exact ⟨none, 0, 0, none, 0, 0, 0, 0, rfl, hb', fun V hV => ⟨fun _ => none_no V, fun h => absurd h hx⟩⟩
end

end Go.Proofs.YtkailbdjilkneaaDoor
