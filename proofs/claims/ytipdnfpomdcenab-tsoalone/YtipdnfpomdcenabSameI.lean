/-
  What the document's Ints does with two lists of the same numbers.
  A list of numbers that was made is one that can be read.
  Whether two traces are the same, whether one is empty.
  A program that passed Check.
-/
import Derived.Test.YtipdnfpomdcenabInProg
import Derived.Test.YtipdnfpomdcenabRMoves
import Derived.Test.YtipdnfpomdcenabPRun
import Derived.Test.YtipdnfpomdcenabSOk
namespace Go.Proofs.Ytipdnfpomdcenab
section
open Go.RowKit

/-- A list of numbers lies in w. -/
def IIn (w : World) (a : Option Addr) (n : Nat) (X : Nat → Int) : Prop := ∀ i, i < n → ∃ b o, a = some ⟨b, o, none⟩ ∧ w.cell? ⟨b, o + i, none⟩ = some (.int .i64 (X i))
theorem IIn.below {w w' : World} {a : Option Addr} {n : Nat} {X : Nat → Int} (h : IIn w a n X) (hb : Below w.heap.size w w') : IIn w' a n X := fun i hi => by
  obtain ⟨b, o, hc, h1⟩ := h i hi
  exact ⟨b, o, hc, (hb.cell (lt_of_cell h1)).trans h1⟩

set_option maxHeartbeats 800000 in
theorem ints_same (a a' : Option Addr) (n c c' : Nat) (hn : n ≤ 9223372036854775807) (X : Nat → Int) (w : World) (h : IIn w a n X) (h' : IIn w a' n X) :
    Calls Try.prog 25 #[.slice a n c, .slice a' n c'] w fun e w' => e = .returned (.bool true) ∧ Below w.heap.size w w' := by
  go_enter Try.func25, Try.ntmps25
  go_wp2
  go_loopw [5] (fun i wr => ∃ k : Nat, k ≤ n ∧ i = .int .i64 k ∧ Below w.heap.size w wr) (fun i _ => n - (intOf i).toNat)
  case atStart => exact ⟨0, Nat.zero_le _, rfl, Below.refl _ _⟩
  case round =>
    obtain ⟨k, hk, rfl, hbr⟩ := hrel
    by_cases hlt : k < n
    · obtain ⟨b, o, rfl, hc⟩ := h.below hbr k hlt
      obtain ⟨b', o', rfl, hc'⟩ := h'.below hbr k hlt
      go_wp2
      go_region
      all_goals go_wp2
      all_goals go_roundw
      case rel => exact ⟨k + 1, by omega, by go_num, hbr.drew⟩
      case measure => simp [intOf]; omega
    · go_wp2
      go_ret
      exact ⟨rfl, hbr⟩
end

section
open Go.RowKit

theorem IsI.iin {w : World} {B : Nat} {a : Option Addr} {len c : Nat} {xs : List Int} (h : IsI w B a len c xs) : IIn w a len (fun i => xs.getD i 0) := fun i hi => by
  obtain ⟨g, cap, h1, h2, _, _⟩ := fam_block h.own (by omega)
  simp only [Value.slice.injEq] at h1
  exact ⟨g, 0, h1.1, by simpa using fam_cell h.own h2 (intsV_at (by rw [h.is]; exact hi))⟩
end

section
open Go.RowKit

set_option maxRecDepth 100000 in
set_option maxHeartbeats 1600000 in
theorem none_empty (w : World) : Calls Try.prog 8 #[.agg #[nilV, .int .i64 0, nilV, .int .i64 0]] w fun e w' => e = .returned (.bool true) ∧ Below w.heap.size w w' := by
  go_enter Try.func8, Try.ntmps8
  go_wp2
  go_ret
  exact ⟨rfl, (Below.refl _ _).alloc (Nat.le_refl _) _⟩

abbrev boxT (pa : Option Addr) (pl pc : Nat) (st : Int) (wa : Option Addr) (wl wc : Nat) (k : Int) : Obj := .cells #[.slice pa pl pc, .int .i64 st, .slice wa wl wc, .int .i64 k] 28

set_option maxRecDepth 100000 in
set_option maxHeartbeats 3200000 in
theorem traces_same (w : World) (pa qa va wa : Option Addr) (pl pc qc wl vc wc : Nat) (st k : Int) (Y Z : Nat → Int) (h1 : IIn w pa pl Y) (h2 : IIn w qa pl Y) (h3 : IIn w va wl Z) (h4 : IIn w wa wl Z) (hp : pl ≤ 9223372036854775807) (hw : wl ≤ 9223372036854775807) :
    Calls Try.prog 10 #[.agg #[.slice pa pl pc, .int .i64 st, .slice va wl vc, .int .i64 k], .agg #[.slice qa pl qc, .int .i64 st, .slice wa wl wc, .int .i64 k]] w fun e w' => e = .returned (.bool true) ∧ Below w.heap.size w w' := by
  have HB0 : Below w.heap.size w ((w.alloc (boxT pa pl pc st va wl vc k)).alloc (boxT qa pl qc st wa wl wc k)) := ((Below.refl _ _).alloc (Nat.le_refl _) _).alloc (by simp) _
  have j1 := h1.below HB0
  have j2 := h2.below HB0
  go_enter Try.func10, Try.ntmps10
  go_wp2_with (fail)
  refine (ints_same pa qa pl pc qc hp Y _ j1 j2).mono ?_
  rintro e w1 ⟨rfl, hb1⟩
  have cell : ∀ (b i : Nat) x, b < w.heap.size + 2 → ((w.alloc (boxT pa pl pc st va wl vc k)).alloc (boxT qa pl qc st wa wl wc k)).cell? ⟨b, i, none⟩ = some x → w1.cell? ⟨b, i, none⟩ = some x := fun b i x hb h => (hb1.cell (p := ⟨b, i, none⟩) (by simp; omega)).trans h
  have p1 : w1.cell? ⟨w.heap.size, 1, none⟩ = some (.int .i64 st) := cell _ _ _ (by omega) (by go_simp)
  have p2 : w1.cell? ⟨w.heap.size, 2, none⟩ = some (.slice va wl vc) := cell _ _ _ (by omega) (by go_simp)
  have p3 : w1.cell? ⟨w.heap.size, 3, none⟩ = some (.int .i64 k) := cell _ _ _ (by omega) (by go_simp)
  have q1 : w1.cell? ⟨w.heap.size + 1, 1, none⟩ = some (.int .i64 st) := cell _ _ _ (by omega) (by go_simp)
  have q2 : w1.cell? ⟨w.heap.size + 1, 2, none⟩ = some (.slice wa wl wc) := cell _ _ _ (by omega) (by go_simp)
  have q3 : w1.cell? ⟨w.heap.size + 1, 3, none⟩ = some (.int .i64 k) := cell _ _ _ (by omega) (by go_simp)
  have HB1 : Below w.heap.size w w1 := HB0.trans (hb1.mono HB0.size)
  have j3 := h3.below HB1
  have j4 := h4.below HB1
  clear cell hb1 HB0 j1 j2 h1 h2 h3 h4
  go_wp2_with (fail)
  refine (ints_same va wa wl vc wc hw Z _ j3 j4).mono ?_
  rintro e w2 ⟨rfl, hb2⟩
  have r1 := (hb2.cell (lt_of_cell p1)).trans p1
  have r3 := (hb2.cell (lt_of_cell p3)).trans p3
  have s1 := (hb2.cell (lt_of_cell q1)).trans q1
  have s3 := (hb2.cell (lt_of_cell q3)).trans q3
  have HB2 : Below w.heap.size w w2 := HB1.trans (hb2.mono HB1.size)
  clear p1 p2 p3 q1 q2 q3 hb2 HB1 j3 j4
  go_wp2
  go_ret
  exact ⟨rfl, HB2⟩
end

section
open Go.RowKit

theorem bad_none {E : Nat → Int} : ∀ (f k : Nat), firstBad E f k = none → ∀ i, k ≤ i → i < k + f → E i = 0
  | 0, k, _, i, h1, h2 => by omega
  | f + 1, k, h, i, h1, h2 => by
    rw [firstBad] at h
    split at h
    · rename_i h0
      by_cases e : i = k
      · subst e; exact h0
      · exact bad_none f (k + 1) h i (by omega) (by omega)
    · cases h
theorem thread_ok {R : Nat → Option (Int × Int)} (hR : ∀ t c a, R t = some (c, a) → c ≠ 0) : ∀ (f k : Nat), (firstThread R f k).1 = 0 → ∀ i, k ≤ i → i < k + f → R i = none
  | 0, k, _, i, h1, h2 => by omega
  | f + 1, k, h, i, h1, h2 => by
    rw [firstThread] at h
    split at h
    · rename_i h0
      by_cases e : i = k
      · subst e; exact h0
      · exact thread_ok hR f (k + 1) h i (by omega) (by omega)
    · rename_i c a h0
      exact absurd h (hR k c a h0)
theorem thread_zero {R : Nat → Option (Int × Int)} (hR : ∀ t c a, R t = some (c, a) → c ≠ 0) : ∀ (f k : Nat), (firstThread R f k).1 = 0 → firstThread R f k = (0, 0, 0)
  | 0, _, _ => rfl
  | f + 1, k, h => by
    rw [firstThread] at h ⊢
    split at h
    · exact thread_zero hR f (k + 1) h
    · rename_i c a h0
      exact absurd h (hR k c a h0)
theorem bad_ne {E : Nat → Int} : ∀ (f k : Nat) (c a : Int), firstBad E f k = some (c, a) → c ≠ 0
  | 0, k, c, a, h => by simp [firstBad] at h
  | f + 1, k, c, a, h => by
    rw [firstBad] at h
    split at h
    · exact bad_ne f (k + 1) c a h
    · rename_i h0
      simp only [Option.some.injEq, Prod.mk.injEq] at h
      rw [← h.1]; exact h0
theorem thr_ne {rg wd lk : Int} {L : Nat → Nat} {X : Nat → Nat → Nat → Int} : ∀ t c a, thr rg wd lk L X t = some (c, a) → c ≠ 0 := fun t c a e => by
  unfold thr at e
  split at e
  · simp at e; omega
  · exact bad_ne _ _ _ _ e

/-- What Check lets pass: the sizes, every order. -/
theorem chk_cok {n m : Nat} {L : Nat → Nat} {X : Nat → Nat → Nat → Int} {lk rg x y z : Int} (h : chk n L X m lk rg = (x, y, z)) (hx : x = 0) : y = 0 ∧ z = 0 ∧ 0 < n ∧ ∃ lk' rg' : Nat, lk = lk' ∧ rg = rg' ∧ COk n L X m lk' rg' := by
  subst hx
  unfold chk at h
  split at h
  · rename_i h1
    simp only [Prod.mk.injEq] at h
    exact absurd h.1 h1
  · rename_i h1
    have h1 : sizesE n m lk rg = 0 := by simpa using h1
    unfold sizesE at h1
    split at h1
    · cases h1
    · split at h1
      · cases h1
      · rename_i h2 h3
        have hz := thread_zero thr_ne n 0 (by rw [h])
        rw [h] at hz
        simp only [Prod.mk.injEq] at hz
        have hR : ∀ t, t < n → thr rg m lk L X t = none := fun t ht => thread_ok thr_ne n 0 (by rw [h]) t (Nat.zero_le _) (by omega)
        have hL : ∀ t, t < n → L t ≤ 400 ∧ firstBad (fun i => ordE rg m lk (L t) (X t i 0) (X t i 1) (X t i 2) (X t i 3)) (L t) 0 = none := fun t ht => by
          have := hR t ht
          unfold thr at this
          split at this
          · cases this
          · exact ⟨by omega, this⟩
        obtain ⟨lk', rfl⟩ := Int.eq_ofNat_of_zero_le (by omega : 0 ≤ lk)
        obtain ⟨rg', rfl⟩ := Int.eq_ofNat_of_zero_le (by omega : 0 ≤ rg)
        exact ⟨hz.2.1, hz.2.2, by omega, lk', rg', rfl, rfl, by omega, fun t ht => (hL t ht).1, by omega, by omega, by omega, by omega, fun t i ht hi => bad_none (L t) 0 (hL t ht).2 i (Nat.zero_le _) (by omega)⟩
end

end Go.Proofs.Ytipdnfpomdcenab
