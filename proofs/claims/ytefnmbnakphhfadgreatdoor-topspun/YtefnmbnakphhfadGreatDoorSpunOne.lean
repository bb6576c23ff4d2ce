/-
  Linked programs: numbers that fit, and the statement's own little program.
-/
import Derived.Test.YtefnmbnakphhfadGreatDoorSpnRoot
namespace Go.Proofs.YtefnmbnakphhfadGreatDoor
open Go.RowKit

/-- The new orders' numbers fit. -/
theorem spin_fit {n m lk rg : Nat} {L : Nat → Nat} {X : Nat → Nat → Nat → Int} (hfit : ∀ t i, t < n → i < L t → I64n (X t i 2)) (hl : ∀ t, t < n → lenR (bSpin m X) L t ≤ 1000) (hc : COk n L X m lk rg) (hg : rg ≤ 6) : ∀ t i, t < n → i < lenR (bSpin m X) L t → I64n (numR (bSpin m X) L t i 2) := by
  intro t j ht hj
  have hl' := hl t ht
  unfold lenR at hj hl'
  rw [code_len] at hj hl'
  obtain ⟨i, k, hi, hk, rfl⟩ := raw_find hj
  have h1 := code_at hk hi fenceI
  have hx : (bSpin m X t i).getD k fenceI ∈ bSpin m X t i := by
    rw [List.getD_eq_getElem?_getD, List.getElem?_eq_getElem hk]
    exact List.getElem_mem hk
  have hled := spin_led hc hg ht hi hx
  have key : I64n ((bSpin m X t i).getD k fenceI).2.2.1 := by
    obtain ⟨y, hy⟩ : ∃ y, (bSpin m X t i).getD k fenceI = y := ⟨_, rfl⟩
    rw [hy] at hx ⊢
    have hL := hc.L4 t ht
    by_cases h17 : X t i 0 = 17
    · rw [spin_17 h17] at hx
      simp only [takeL, List.mem_cons, List.not_mem_nil, or_false] at hx
      rcases hx with rfl | rfl | rfl | rfl
      · exact ⟨by decide, by decide⟩
      · exact ⟨by decide, by decide⟩
      · exact ⟨by show (-9223372036854775808 : Int) ≤ 6; decide, by show (6 : Int) ≤ 9223372036854775807; decide⟩
      · exact ⟨by show _ ≤ (i : Int); omega, by show (i : Int) ≤ _; omega⟩
    by_cases h18 : X t i 0 = 18
    · rw [spin_18 h18] at hx
      simp only [giveL, List.mem_cons, List.not_mem_nil, or_false] at hx
      rcases hx with rfl | rfl
      · exact ⟨by decide, by decide⟩
      · exact ⟨by show (-9223372036854775808 : Int) ≤ 6; decide, by show (6 : Int) ≤ 9223372036854775807; decide⟩
    rw [spin_no h17 h18] at hx
    have hx : y = ordAt X t i := by simpa using hx
    rw [hx]
    exact hfit t i ht hi
  unfold numR
  rw [h1]
  show I64n (if ((bSpin m X t i).getD k fenceI).1 = 15 then ((plR (bSpin m X t) ((bSpin m X t i).getD k fenceI).2.2.1.toNat : Nat) : Int) else ((bSpin m X t i).getD k fenceI).2.2.1)
  split
  · rename_i h15
    have h2 := hled.2.2 h15
    have h3 := pl_mono (b := bSpin m X t) (i := ((bSpin m X t i).getD k fenceI).2.2.1.toNat) (j := L t) (by omega)
    exact ⟨by omega, by omega⟩
  · exact key
def twoX : Nat → Nat → Nat → Int := fun _ i q => if q = 0 then (if i = 0 then 17 else 18) else 0
theorem two_cok : COk 1 (fun _ => 2) twoX ([] : List Int).length 1 1 := ⟨by omega, fun _ _ => by omega, by decide, by omega, by omega, by omega, fun t i _ hi => by
  have : i = 0 ∨ i = 1 := by omega
  rcases this with rfl | rfl <;> simp only [twoX] <;> decide +kernel⟩
abbrev twoW (V : World) : World := (V.alloc (.cells #[.int .i64 17, .int .i64 0, .int .i64 0, .int .i64 0, .int .i64 18, .int .i64 0, .int .i64 0, .int .i64 0] 37)).alloc (.cells #[.slice (some ⟨V.heap.size, 0, none⟩) 2 2] 35)
theorem two_pin (V : World) : PIn (twoW V) (some ⟨V.heap.size + 1, 0, none⟩) 1 (fun _ => some ⟨V.heap.size, 0, none⟩) (fun _ => 2) (fun _ => 2) twoX ∧ Below V.heap.size V (twoW V) := by
  have h0 := box_later (heap_alloc_new V (.cells #[.int .i64 17, .int .i64 0, .int .i64 0, .int .i64 0, .int .i64 18, .int .i64 0, .int .i64 0, .int .i64 0] 37)) (.cells #[.slice (some ⟨V.heap.size, 0, none⟩) 2 2] 35)
  have h1 := heap_alloc_new (V.alloc (.cells #[.int .i64 17, .int .i64 0, .int .i64 0, .int .i64 0, .int .i64 18, .int .i64 0, .int .i64 0, .int .i64 0] 37)) (.cells #[.slice (some ⟨V.heap.size, 0, none⟩) 2 2] 35)
  rw [World.size_alloc] at h1
  refine ⟨⟨fun t ht => ?_, fun t i ht hi => ?_, fun _ _ => by omega, by omega⟩, ((Below.refl _ _).alloc (Nat.le_refl _) _).alloc (by simp) _⟩
  · obtain rfl : t = 0 := by omega
    exact ⟨_, _, rfl, box_cell h1 rfl⟩
  · have : i = 0 ∨ i = 1 := by omega
    rcases this with rfl | rfl
    · exact ⟨_, _, rfl, box_cell h0 rfl, box_cell h0 rfl, box_cell h0 rfl, box_cell h0 rfl⟩
    · exact ⟨_, _, rfl, box_cell h0 rfl, box_cell h0 rfl, box_cell h0 rfl, box_cell h0 rfl⟩
theorem link_two (V : World) : Calls Tryz.prog 12 #[.agg #[.slice (some ⟨V.heap.size + 1, 0, none⟩) 1 1, .slice none 0 0, .int .i64 1, .int .i64 1]] (twoW V) fun e w' => ∃ vb vo vc ua uc ra rc, e = .returned (.tuple #[.agg #[.slice (some ⟨vb, vo, none⟩) 1 vc, .slice ua 1 uc, .int .i64 0, .int .i64 8], ints3 0 0 0]) ∧ w'.cell? ⟨vb, vo, none⟩ = some (.slice ra 6 rc) ∧ Below V.heap.size V w' := by
  obtain ⟨hp, hb⟩ := two_pin V
  have hR : chk 1 (fun _ => 2) twoX ([] : List Int).length ((1 : Nat) : Int) ((1 : Nat) : Int) = (0, 0, 0) := by decide +kernel
  have hl : lenR (bSpin 0 twoX) (fun _ => 2) 0 = 6 := by decide +kernel
  have hq : chk 1 (lenR (bSpin ([] : List Int).length twoX) (fun _ => 2)) (numR (bSpin ([] : List Int).length twoX) (fun _ => 2)) (([] : List Int).length + 1) 0 8 = (0, 0, 0) := by decide +kernel
  have h := link_may (twoW V) (some ⟨V.heap.size + 1, 0, none⟩) 1 1 none [] 0 1 1 0 0 0 _ _ _ twoX hp (fun k hk => absurd hk (by simp)) (fun _ => ⟨rfl, rfl⟩) hR two_cok (by omega) (by decide) hq
  refine Calls.mono h ?_
  intro e w' h
  rw [if_pos rfl] at h
  obtain ⟨va, vc, ua, uc, rfl, HQ, hbw⟩ := h
  obtain ⟨va', vc', ua', uc', tv, he, h1, h2, _⟩ := HQ.out w' (Below.refl _ _)
  simp only [Ending.returned.injEq, Value.agg.injEq, Array.mk.injEq, List.cons.injEq, Value.slice.injEq, true_and, and_true] at he
  obtain ⟨⟨rfl, rfl⟩, ⟨rfl, _, rfl⟩⟩ := he
  obtain ⟨g, cap, e, hg, _⟩ := fam_block h1 (by omega)
  simp only [Value.slice.injEq] at e
  obtain ⟨rfl, _, rfl⟩ := e
  obtain ⟨ra, rc, e2⟩ := fam_form (h2 0 (by omega))
  have htl : tv.length = 1 := by have := h1.1; omega
  refine ⟨g, 0, vc, ua, uc, ra, rc, rfl, ?_, hb.trans (hbw.mono hb.size)⟩
  have hc0 := fam_cell h1 hg (i := 0) (u := tv.getD 0 nilV) (by simp [List.getD, show 0 < tv.length by omega])
  rw [e2] at hc0
  have hl' : (codeR (bSpin 0 twoX 0) 2).length = 6 := hl
  have hl2 : (codeR (bSpin ([] : List Int).length twoX 0) ((fun _ => 2) 0)).length = 6 := hl'
  rw [hl2] at hc0
  exact hc0

end Go.Proofs.YtefnmbnakphhfadGreatDoor
