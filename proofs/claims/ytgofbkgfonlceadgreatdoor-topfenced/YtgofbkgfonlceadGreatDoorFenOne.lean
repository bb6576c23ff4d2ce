/-
  Fenced programs: numbers that fit, and the statement's own little program.
-/
import Derived.Test.YtgofbkgfonlceadGreatDoorFenRoot
namespace Go.Proofs.YtgofbkgfonlceadGreatDoor
open Go.RowKit

theorem num_fit {n m lk rg : Nat} {L : Nat → Nat} {X : Nat → Nat → Nat → Int} (hc : COk n L X m lk rg) (hfit : ∀ t i, t < n → i < L t → -9223372036854775808 ≤ X t i 2 ∧ X t i 2 ≤ 9223372036854775807) (hl : ∀ t, t < n → lenR (bFull X) L t ≤ 400) : ∀ t i, t < n → i < lenR (bFull X) L t → -9223372036854775808 ≤ numR (bFull X) L t i 2 ∧ numR (bFull X) L t i 2 ≤ 9223372036854775807 := fun t i ht hi => by
  have hi' : i < (codeR (bFull X t) (L t)).length := hi
  obtain ⟨y, hy⟩ : ∃ y, (codeR (bFull X t) (L t)).getD i fenceI = y := ⟨_, rfl⟩
  have hmem : y ∈ codeR (bFull X t) (L t) := by
    rw [← hy, List.getD_eq_getElem?_getD, List.getElem?_eq_getElem hi']
    exact List.getElem_mem _
  have hN : numR (bFull X) L t i 2 = y.2.2.1 := by
    unfold numR nth4
    rw [hy]
    rfl
  rw [hN]
  obtain ⟨x, hx, rfl⟩ := List.mem_map.mp hmem
  obtain ⟨k, hk, hm⟩ := raw_mem hx
  have hx' := bFull_in X t k x hm
  have hled := new_led hc ht hk hx'
  have e0 : (ledO (plR (bFull X t)) x).2.2.1 = if x.1 = 15 then (plR (bFull X t) x.2.2.1.toNat : Int) else x.2.2.1 := rfl
  rw [e0]
  by_cases e : x.1 = 15
  · rw [if_pos e]
    have h1 := hled.2.2 e
    have h2 : plR (bFull X t) x.2.2.1.toNat ≤ plR (bFull X t) (L t) := pl_mono (by omega)
    have h3 := hl t ht
    unfold lenR at h3
    rw [code_len] at h3
    omega
  · rw [if_neg e]
    rcases hx' with rfl | rfl
    · exact hfit t k ht hk
    · show -9223372036854775808 ≤ (0 : Int) ∧ (0 : Int) ≤ 9223372036854775807
      omega
theorem sis_own2 {w : World} {B : Nat} {a : Option Addr} {c : Nat} {l : List Int} (h : w.ownsRow B 3 1 (.slice a l.length c) l.length (intsV l)) : SIs w a l ∧ (a = none → l = [] ∧ c = 0) := by
  refine ⟨fun k hk => ?_, fun e => ?_⟩
  · obtain ⟨g, cap, e, hg, _⟩ := fam_block h (by omega)
    simp only [Value.slice.injEq] at e
    refine ⟨g, 0, e.1, ?_⟩
    rw [Nat.zero_add]
    exact fam_cell h hg (intsV_at hk)
  · subst e
    rcases h.2 with ⟨e, _⟩ | ⟨g, cap, cur, e, _⟩
    · simp only [Value.slice.injEq, true_and] at e
      exact ⟨List.length_eq_zero_iff.mp e.1, e.2⟩
    · simp at e
def oneX : Nat → Nat → Nat → Int := fun _ _ q => if q = 0 then 9 else 0
theorem one_cok : COk 1 (fun _ => 1) oneX ([0] : List Int).length 0 1 := ⟨by omega, fun _ _ => by omega, by decide, by omega, by omega, by omega, fun _ _ _ _ => by simp only [oneX]; decide +kernel⟩
abbrev oneW (V : World) : World := ((V.alloc (.cells #[.int .i64 9, .int .i64 0, .int .i64 0, .int .i64 0] 37)).alloc (.cells #[.slice (some ⟨V.heap.size, 0, none⟩) 1 1] 35)).alloc (.cells #[.int .i64 0] 3)
theorem one_pin (V : World) : PIn (oneW V) (some ⟨V.heap.size + 1, 0, none⟩) 1 (fun _ => some ⟨V.heap.size, 0, none⟩) (fun _ => 1) (fun _ => 1) oneX ∧ SIs (oneW V) (some ⟨V.heap.size + 1 + 1, 0, none⟩) [0] ∧ Below V.heap.size V (oneW V) := by
  have h0 := box_later (box_later (heap_alloc_new V (.cells #[.int .i64 9, .int .i64 0, .int .i64 0, .int .i64 0] 37)) (.cells #[.slice (some ⟨V.heap.size, 0, none⟩) 1 1] 35)) (.cells #[.int .i64 0] 3)
  have h1 := box_later (heap_alloc_new (V.alloc (.cells #[.int .i64 9, .int .i64 0, .int .i64 0, .int .i64 0] 37)) (.cells #[.slice (some ⟨V.heap.size, 0, none⟩) 1 1] 35)) (.cells #[.int .i64 0] 3)
  have h2 := heap_alloc_new ((V.alloc (.cells #[.int .i64 9, .int .i64 0, .int .i64 0, .int .i64 0] 37)).alloc (.cells #[.slice (some ⟨V.heap.size, 0, none⟩) 1 1] 35)) (.cells #[.int .i64 0] 3)
  rw [World.size_alloc] at h1
  rw [World.size_alloc, World.size_alloc] at h2
  refine ⟨⟨fun t ht => ?_, fun t i ht hi => ?_, fun _ _ => by omega, by omega⟩, fun k hk => ?_, (((Below.refl _ _).alloc (Nat.le_refl _) _).alloc (by simp) _).alloc (by simp; omega) _⟩
  · obtain rfl : t = 0 := by omega
    exact ⟨_, _, rfl, box_cell h1 rfl⟩
  · obtain rfl : i = 0 := by omega
    exact ⟨_, _, rfl, box_cell h0 rfl, box_cell h0 rfl, box_cell h0 rfl, box_cell h0 rfl⟩
  · obtain rfl : k = 0 := by simp at hk; omega
    exact ⟨_, _, rfl, box_cell h2 rfl⟩
theorem full_one (V : World) : Calls Tryz.prog 9 #[.agg #[.slice (some ⟨V.heap.size + 1, 0, none⟩) 1 1, .slice (some ⟨V.heap.size + 1 + 1, 0, none⟩) 1 1, .int .i64 0, .int .i64 1]] (oneW V) fun e w' => ∃ vb vo vc ua uc ra rc, e = .returned (.tuple #[.agg #[.slice (some ⟨vb, vo, none⟩) 1 vc, .slice ua 1 uc, .int .i64 0, .int .i64 1], ints3 0 0 0]) ∧ w'.cell? ⟨vb, vo, none⟩ = some (.slice ra 2 rc) ∧ Below V.heap.size V w' := by
  obtain ⟨hp, hw, hb⟩ := one_pin V
  have hR : chk 1 (fun _ => 1) oneX ([0] : List Int).length ((0 : Nat) : Int) ((1 : Nat) : Int) = (0, 0, 0) := by decide +kernel
  have hl : lenR (bFull oneX) (fun _ => 1) 0 = 2 := by decide +kernel
  have hq : chk 1 (lenR (bFull oneX) (fun _ => 1)) (numR (bFull oneX) (fun _ => 1)) ([0] : List Int).length ((0 : Nat) : Int) ((1 : Nat) : Int) = (0, 0, 0) := by decide +kernel
  have h := full_may (oneW V) (some ⟨V.heap.size + 1, 0, none⟩) 1 1 (some ⟨V.heap.size + 1 + 1, 0, none⟩) [0] 1 0 1 0 0 0 _ _ _ oneX hp hw (fun e => by cases e) hR one_cok hq
  refine Calls.mono h ?_
  intro e w' h
  rw [if_pos rfl] at h
  obtain ⟨va, vc, ua, uc, rfl, HQ, hbw⟩ := h
  obtain ⟨va', vc', ua', uc', tv, he, h1, h2, _⟩ := HQ.out w' (Below.refl _ _)
  simp only [Ending.returned.injEq, Value.agg.injEq, Array.mk.injEq, List.cons.injEq, Value.slice.injEq, true_and, and_true] at he
  obtain ⟨⟨rfl, rfl⟩, rfl, rfl⟩ := he
  obtain ⟨g, cap, e, hg, _⟩ := fam_block h1 (by omega)
  simp only [Value.slice.injEq] at e
  obtain ⟨rfl, _, rfl⟩ := e
  obtain ⟨ra, rc, e2⟩ := fam_form (h2 0 (by omega))
  have htl : tv.length = 1 := by have := h1.1; omega
  refine ⟨g, 0, vc, ua, uc, ra, rc, rfl, ?_, hb.trans (hbw.mono hb.size)⟩
  have hc0 := fam_cell h1 hg (i := 0) (u := tv.getD 0 nilV) (by simp [List.getD, show 0 < tv.length by omega])
  rw [e2] at hc0
  have hl' : (codeR (bFull oneX 0) 1).length = 2 := hl
  rw [hl'] at hc0
  exact hc0
end Go.Proofs.YtgofbkgfonlceadGreatDoor
