/-
  The three orders that a statement makes by itself: what always is a number there.
  The three orders that a statement makes by itself, in memory.
  A program that was made anew, in memory.
  What Const makes of the three orders that a statement makes by itself.
  What Const and Dead make: by one solution for all threads; how long it is.
-/
import Derived.Test.YtkailbdjilkneaaDoorOptJ
import Derived.Test.YtkailbdjilkneaaDoorInProg
import Derived.Test.YtkailbdjilkneaaDoorRead
import Derived.Test.YtkailbdjilkneaaDoorNewC
import Derived.Test.YtkailbdjilkneaaDoorOptCk
import Derived.Test.YtkailbdjilkneaaDoorOptDe
namespace Go.Proofs.YtkailbdjilkneaaDoor
section
open Go.RowKit

def ownX3 (i q : Nat) : Int := nth4 ([(1, 0, 2, 0), (3, 0, 0, 0), (16, 0, 0, 0)].getD i fenceI) q
def ownE3 (i : Nat) (_ : Nat) : Vl := if i = 0 then .num 0 else if i = 1 then .num 2 else .num 4
theorem num_le {n : Int} {v : Vl} (h : (Vl.num n).le v) : v = .num n ∨ v = .any := by
  rcases h with h | h | h
  · exact Or.inl h.symm
  · exact absurd h (by simp)
  · exact Or.inr h
theorem own3_ls : LsV ownX3 3 1 ownE3 := by
  have w0 : ∀ e, wyX ownX3 0 e = [1] := fun e => rfl
  have w1 : ∀ e, wyX ownX3 1 e = [2] := fun e => rfl
  have w2 : ∀ e, wyX ownX3 2 e = [3] := fun e => rfl
  have b0 : ∀ e, bhV ownX3 0 e 0 = .num 2 := fun e => rfl
  have b1 : ∀ e, bhV ownX3 1 e 0 = rcV 3 (e 0) (e 0) := fun e => rfl
  have b2 : ∀ e, bhV ownX3 2 e 0 = e 0 := fun e => rfl
  have r4 : rcV 3 (.num 2) (.num 2) = .num 4 := by
    show Vl.num (rcI 3 2 2) = Vl.num 4
    congr 1
  refine ⟨⟨fun r hr => Vl.le_refl _, fun i s hi hs hne j hj r hr => ?_⟩, fun F hF i r hi hr => ?_⟩
  · obtain rfl : r = 0 := by omega
    match i, hi with
    | 0, _ =>
      rw [w0] at hj
      obtain rfl := List.mem_singleton.1 hj
      rw [b0]
      exact Vl.le_refl _
    | 1, _ =>
      rw [w1] at hj
      obtain rfl := List.mem_singleton.1 hj
      rw [b1]
      show (rcV 3 (.num 2) (.num 2)).le (.num 4)
      rw [r4]
      exact Vl.le_refl _
    | 2, _ =>
      rw [w2] at hj
      obtain rfl := List.mem_singleton.1 hj
      rw [b2]
      exact Vl.le_refl _
  · obtain rfl : r = 0 := by omega
    have f0 : (Vl.num 0).le (F 0 0) := hF.z 0 (by omega)
    have n0 : F 0 0 ≠ .no := by rcases num_le f0 with h | h <;> rw [h] <;> simp
    have f1 : (Vl.num 2).le (F 1 0) := by
      have := hF.s 0 0 (by omega) (by omega) n0 1 (by rw [w0]; simp) 0 (by omega)
      rwa [b0] at this
    have n1 : F 1 0 ≠ .no := by rcases num_le f1 with h | h <;> rw [h] <;> simp
    have f2 : (Vl.num 4).le (F 2 0) := by
      have := hF.s 1 0 (by omega) (by omega) n1 2 (by rw [w1]; simp) 0 (by omega)
      rw [b1] at this
      rcases num_le f1 with h | h
      · rw [h, r4] at this
        exact this
      · rw [h] at this
        exact Vl.le_trans (Vl.le_any _) this
    have n2 : F 2 0 ≠ .no := by rcases num_le f2 with h | h <;> rw [h] <;> simp
    have f3 : (Vl.num 4).le (F 3 0) := by
      have := hF.s 2 0 (by omega) (by omega) n2 3 (by rw [w2]; simp) 0 (by omega)
      rw [b2] at this
      exact Vl.le_trans f2 this
    match i, hi with
    | 0, _ => exact f0
    | 1, _ => exact f1
    | 2, _ => exact f2
    | 3, _ => exact f3



theorem own3_ok : ∀ i, i < 3 → ordE 1 0 0 3 (ownX3 i 0) (ownX3 i 1) (ownX3 i 2) (ownX3 i 3) = 0 := fun i hi => by
  match i, hi with
  | 0, _ => decide +kernel
  | 1, _ => decide +kernel
  | 2, _ => decide +kernel
/-- What becomes of them. -/
theorem own3_code {E : Nat → Nat → Vl} {b : Nat → List I4} (h : LsV ownX3 3 1 E) (hb : ∀ i, i < 3 → b i = bConX ownX3 i (E i)) : codeR b 3 = [(1, 0, 2, 0), (1, 0, 4, 0), (16, 0, 0, 0)] := by
  have hE : ∀ i, i < 3 → bConX ownX3 i (E i) = bConX ownX3 i (ownE3 i) := fun i hi => bConX_congr (rg := 1) (m := 0) (lk := 0) (l := 3) (by omega) (own3_ok i hi) fun r hr => h.same own3_ls (by omega) hr
  have r0 : b 0 = [(1, 0, 2, 0)] := (hb 0 (by omega)).trans ((hE 0 (by omega)).trans rfl)
  have r1 : b 1 = [(1, 0, 4, 0)] := (hb 1 (by omega)).trans ((hE 1 (by omega)).trans (by
    show bConX ownX3 1 (ownE3 1) = _
    decide +kernel))
  have r2 : b 2 = [(16, 0, 0, 0)] := (hb 2 (by omega)).trans ((hE 2 (by omega)).trans rfl)
  unfold codeR
  simp [rawR, r0, r1, r2, ledO]
end

section
open Go.RowKit

abbrev own3W (V : World) : World := (V.alloc (.cells #[.int .i64 1, .int .i64 0, .int .i64 2, .int .i64 0, .int .i64 3, .int .i64 0, .int .i64 0, .int .i64 0, .int .i64 16, .int .i64 0, .int .i64 0, .int .i64 0] 44)).alloc (.cells #[.slice (some ⟨V.heap.size, 0, none⟩) 3 3] 45)
theorem own3_pin (V : World) : PIn (own3W V) (some ⟨V.heap.size + 1, 0, none⟩) 1 (fun _ => some ⟨V.heap.size, 0, none⟩) (fun _ => 3) (fun _ => 3) (fun _ => ownX3) ∧ Below V.heap.size V (own3W V) := by
  have h0 := box_later (heap_alloc_new V (.cells #[.int .i64 1, .int .i64 0, .int .i64 2, .int .i64 0, .int .i64 3, .int .i64 0, .int .i64 0, .int .i64 0, .int .i64 16, .int .i64 0, .int .i64 0, .int .i64 0] 44)) (.cells #[.slice (some ⟨V.heap.size, 0, none⟩) 3 3] 45)
  have h1 := heap_alloc_new (V.alloc (.cells #[.int .i64 1, .int .i64 0, .int .i64 2, .int .i64 0, .int .i64 3, .int .i64 0, .int .i64 0, .int .i64 0, .int .i64 16, .int .i64 0, .int .i64 0, .int .i64 0] 44)) (.cells #[.slice (some ⟨V.heap.size, 0, none⟩) 3 3] 45)
  rw [World.size_alloc] at h1
  refine ⟨⟨fun t ht => ?_, fun t i ht hi => ?_, fun _ _ => by omega, by omega⟩, ((Below.refl _ _).alloc (Nat.le_refl _) _).alloc (by simp) _⟩
  · obtain rfl : t = 0 := by omega
    exact ⟨_, _, rfl, box_cell h1 rfl⟩
  · match i, hi with
    | 0, _ => exact ⟨_, _, rfl, box_cell h0 rfl, box_cell h0 rfl, box_cell h0 rfl, box_cell h0 rfl⟩
    | 1, _ => exact ⟨_, _, rfl, box_cell h0 rfl, box_cell h0 rfl, box_cell h0 rfl, box_cell h0 rfl⟩
    | 2, _ => exact ⟨_, _, rfl, box_cell h0 rfl, box_cell h0 rfl, box_cell h0 rfl, box_cell h0 rfl⟩
end

section
open Go.RowKit

theorem sis_own2 {w : World} {B : Nat} {a : Option Addr} {c : Nat} {l : List Int} (h : w.ownsRow B 3 1 (.slice a l.length c) l.length (intsV l)) : SIs w a l ∧ (a = none → l = [] ∧ c = 0) := by
  refine ⟨fun k hk => ?_, fun e => ?_⟩
  · obtain ⟨g, cap, e, hg, _⟩ := fam_block h (by omega)
    simp only [Value.slice.injEq] at e
    refine ⟨g, 0, e.1, ?_⟩
    rw [Nat.zero_add]
    exact fam_cell h hg (intsV_at hk)
  · subst e
    rcases h.2 with ⟨e, _⟩ | ⟨g, cap, cur, e, _⟩
    · simp only [Value.slice.injEq, true_and] at e
      exact ⟨List.length_eq_zero_iff.mp e.1, e.2⟩
    · simp at e
/-- All that is known of a program that was made anew. -/
theorem new_open {w U V : World} {n : Nat} {words : List Int} {lk rg : Int} {b : Nat → Nat → List I4} {L : Nat → Nat} {va : Option Addr} {vc : Nat} {ua : Option Addr} {uc : Nat} (hN : NewQ w n words lk rg b L (.returned (.agg #[.slice va n vc, .slice ua words.length uc, .int .i64 lk, .int .i64 rg])) U) (hb : Below U.heap.size U V) (hn : n ≤ 4) (hl : ∀ t, t < n → lenR b L t ≤ 1000) : (∃ A C, PIn V va n A (lenR b L) C (numR b L)) ∧ SIs V ua words ∧ (ua = none → words = [] ∧ uc = 0) := by
  obtain ⟨va', vc', ua', uc', tv, he, h1, h2, h3, _⟩ := hN.below hb
  simp only [Ending.returned.injEq, Value.agg.injEq, Array.mk.injEq, List.cons.injEq, Value.slice.injEq, true_and, and_true] at he
  obtain ⟨⟨rfl, rfl⟩, rfl, rfl⟩ := he
  obtain ⟨ca', cc', A', C', e1, hpin⟩ := new_pin h1 h2 (by omega) (fun t ht => by have := hl t ht; omega)
  simp only [Value.slice.injEq, true_and] at e1
  obtain ⟨rfl, rfl⟩ := e1
  exact ⟨⟨A', C', hpin⟩, sis_own2 h3⟩

/-- The orders anew, known of the thread's own alone. -/
theorem code_congr {b c : Nat → List I4} {L : Nat} (h : ∀ i, i < L → b i = c i) (ht : ∀ i x, i < L → x ∈ b i → (x.1 = 14 → x.2.1.toNat ≤ L) ∧ (x.1 = 15 → x.2.2.1.toNat ≤ L)) : codeR b L = codeR c L := by
  have hpl : ∀ j, j ≤ L → plR b j = plR c j := fun j hj => (raw_congr (fun i hi => h i (by omega))).2
  unfold codeR
  rw [← (raw_congr h).1]
  apply List.map_congr_left
  intro x hx
  obtain ⟨i, hi, hm⟩ := raw_mem hx
  obtain ⟨h1, h2⟩ := ht i x hi hm
  unfold ledO
  by_cases e1 : x.1 = 14
  · rw [if_pos e1, if_pos e1, hpl _ (h1 e1), if_neg (by omega), if_neg (by omega)]
  · rw [if_neg e1, if_neg e1]
    by_cases e2 : x.1 = 15
    · rw [if_pos e2, if_pos e2, hpl _ (h2 e2)]
    · rw [if_neg e2, if_neg e2]
theorem NewQ.congr {w V : World} {n : Nat} {words : List Int} {lk rg : Int} {b c : Nat → Nat → List I4} {L : Nat → Nat} {e : Ending} (h : NewQ w n words lk rg b L e V) (hbc : ∀ t, t < n → codeR (b t) (L t) = codeR (c t) (L t)) : NewQ w n words lk rg c L e V := by
  obtain ⟨va, vc, ua, uc, tv, h0, h1, h2, h3, h4⟩ := h
  exact ⟨va, vc, ua, uc, tv, h0, h1, fun t ht => by rw [← hbc t ht]; exact h2 t ht, h3, h4⟩
/-- By its orders alone it is known. -/
theorem NewQ.congr2 {w V : World} {n : Nat} {words : List Int} {lk rg : Int} {b c : Nat → Nat → List I4} {L M : Nat → Nat} {e : Ending} (h : NewQ w n words lk rg b L e V) (hbc : ∀ t, t < n → codeR (b t) (L t) = codeR (c t) (M t)) : NewQ w n words lk rg c M e V := by
  obtain ⟨va, vc, ua, uc, tv, h0, h1, h2, h3, h4⟩ := h
  exact ⟨va, vc, ua, uc, tv, h0, h1, fun t ht => by rw [← hbc t ht]; exact h2 t ht, h3, h4⟩
end

section
open Go.RowKit

theorem own3_cok : COk 1 (fun _ => 3) (fun _ => ownX3) ([] : List Int).length 0 1 := ⟨by omega, fun _ _ => by omega, by decide, by omega, by omega, by omega, fun _ i _ hi => own3_ok i hi⟩
theorem own3_chk : chk 1 (fun _ => 3) (fun _ => ownX3) ([] : List Int).length ((0 : Nat) : Int) ((1 : Nat) : Int) = (0, 0, 0) := by kernel_rfl
theorem own3_const (V : World) : Calls Tryd.prog 10 #[.agg #[.slice (some ⟨V.heap.size + 1, 0, none⟩) 1 1, nilV, .int .i64 0, .int .i64 1]] (own3W V) fun e w' => ∃ qb qo qc ua uc rb ro rc, e = .returned (.tuple #[.agg #[.slice (some ⟨qb, qo, none⟩) 1 qc, .slice ua 0 uc, .int .i64 0, .int .i64 1], ints3 0 0 0]) ∧ w'.cell? ⟨qb, qo, none⟩ = some (.slice (some ⟨rb, ro, none⟩) 3 rc) ∧ w'.cell? ⟨rb, ro + 4, none⟩ = some (.int .i64 1) ∧ w'.cell? ⟨rb, ro + 4 + 1, none⟩ = some (.int .i64 0) ∧ w'.cell? ⟨rb, ro + 4 + 2, none⟩ = some (.int .i64 4) ∧ w'.cell? ⟨rb, ro + 4 + 3, none⟩ = some (.int .i64 0) ∧ Below V.heap.size V w' := by
  obtain ⟨hp, hb⟩ := own3_pin V
  refine (const_may (own3W V) (some ⟨V.heap.size + 1, 0, none⟩) 1 1 none [] 0 0 1 _ _ _ (fun _ => ownX3) hp (fun _ h => absurd h (Nat.not_lt_zero _)) (fun _ => ⟨rfl, rfl⟩) own3_chk own3_cok).mono ?_
  rintro e w' ⟨b, va, vc, ua, uc, rfl, HG, hb'⟩
  obtain ⟨E, hE, hbt⟩ := HG.out.1 0 (by omega)
  have hcode := own3_code hE hbt
  have hl0 : lenR b (fun _ => 3) 0 = 3 := by unfold lenR; rw [hcode]; rfl
  have hx : ∀ q, numR b (fun _ => 3) 0 1 q = nth4 (1, 0, 4, 0) q := fun q => by unfold numR; rw [hcode]; rfl
  obtain ⟨⟨A', C', hpn⟩, -, -⟩ := new_open (HG.out.2 w' (Below.refl _ _)) (Below.refl _ _) (by omega) (fun t ht => by
    obtain rfl : t = 0 := by omega
    rw [hl0]; omega)
  obtain ⟨qb, qo, rfl, hq⟩ := hpn.code 0 (by omega)
  obtain ⟨rb, ro, hA, r0, r1, r2, r3⟩ := hpn.ord 0 1 (by omega) (by omega)
  rw [hA, hl0] at hq
  rw [hx] at r0 r1 r2 r3
  exact ⟨qb, qo, vc, ua, uc, rb, ro, C' 0, rfl, hq, r0, r1, r2, r3, hb.trans (hb'.mono hb.size)⟩
end

section
open Go.RowKit

/-- What Const made, by one solution for all threads. -/
theorem con_all {n m lk rg : Nat} {L : Nat → Nat} {X : Nat → Nat → Nat → Int} (hc : COk n L X m lk rg) {b : Nat → Nat → List I4} (h : ∀ t, t < n → ConG X L rg t (b t)) : ∃ E : Nat → Nat → Nat → Vl, (∀ t, t < n → LsV (X t) (L t) rg (E t)) ∧ ∀ t, t < n → codeR (b t) (L t) = codeR (bCon X E t) (L t) := by
  have h1 : ∀ t, ∃ E : Nat → Nat → Vl, t < n → LsV (X t) (L t) rg E ∧ ∀ i, i < L t → b t i = bConX (X t) i (E i) := fun t => by
    by_cases ht : t < n
    · obtain ⟨E, h2⟩ := h t ht
      exact ⟨E, fun _ => h2⟩
    · exact ⟨fun _ _ => .no, fun h => absurd h ht⟩
  refine ⟨fun t => Classical.choose (h1 t), fun t ht => (Classical.choose_spec (h1 t) ht).1, fun t ht => ?_⟩
  refine code_congr (fun i hi => (Classical.choose_spec (h1 t) ht).2 i hi) (fun i x hi hx => ?_)
  have h2 := (conG_led hc t (b t) ht (h t ht) i hi).2 x hx
  exact ⟨fun e => by have := h2.2.1 e; omega, fun e => by have := h2.2.2 e; omega⟩
theorem con_len {n m lk rg : Nat} {L : Nat → Nat} {X : Nat → Nat → Nat → Int} (hc : COk n L X m lk rg) (E : Nat → Nat → Nat → Vl) (t : Nat) (ht : t < n) : lenR (bCon X E) L t ≤ L t ∧ lenR (bCon X E) L t ≤ 1000 := by
  have h1 := one_len (L := L) (bCon_one X E) t
  have h2 := hc.L4 t ht
  omega
theorem dea_len {n m lk rg : Nat} {L : Nat → Nat} {X : Nat → Nat → Nat → Int} (hc : COk n L X m lk rg) {b : Nat → Nat → List I4} (t : Nat) (ht : t < n) (h : DeaG X L t (b t)) : lenR b L t ≤ L t ∧ lenR b L t ≤ 1000 := by
  have h1 : lenR b L t ≤ L t := by
    unfold lenR
    rw [code_len]
    refine pl_le fun i hi => ?_
    obtain ⟨d, e, _⟩ := h i hi
    rw [e]
    cases d <;> simp [bDrop]
  have h2 := hc.L4 t ht
  omega
end

end Go.Proofs.YtkailbdjilkneaaDoor
