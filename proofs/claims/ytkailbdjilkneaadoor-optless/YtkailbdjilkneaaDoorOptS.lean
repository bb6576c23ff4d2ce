/-
  What an order makes of a register, and where it leads, by the program.
-/
import Derived.Test.YtkailbdjilkneaaDoorOptR
namespace Go.Proofs.YtkailbdjilkneaaDoor
open Go.RowKit

theorem rkV_mk {op b c : Int} (h27 : 2 ≤ op ∧ op ≤ 7) (e : Nat → Vl) : rkV op b c e = mkV op b c e := by
  unfold rkV mkV
  rw [if_neg (show ¬ op = 1 by omega)]
  by_cases h2 : op = 2
  · rw [if_pos h2, if_pos h2]
  · rw [if_neg h2, if_neg h2, if_pos (by omega)]
/-- The two numbers that an order reckons of are registers. -/
theorem rk_regs {rg m lk sz : Nat} {op a b c : Int} (hrg : 0 < rg) (ho : ordE rg m lk sz op a b c = 0) (h27 : 2 ≤ op ∧ op ≤ 7) : ∃ b' c' : Nat, b = b' ∧ c = c' ∧ b' < rg ∧ c' < rg := by
  by_cases h2 : op = 2
  · subst h2
    have h1 := (ok_rr (by omega) ho).2
    have h3 := (ok_three (op := 2) rfl ho).2.2
    have h4 : c = 0 := by
      have : 0 ≤ c ∧ c < 1 := by simpa [okN, lim] using h3
      omega
    exact ⟨b.toNat, 0, by omega, by omega, by omega, hrg⟩
  · obtain ⟨_, h1, h3⟩ := ok_rrr (by omega) ho
    exact ⟨b.toNat, c.toNat, by omega, by omega, by omega, by omega⟩
set_option maxRecDepth 100000 in
set_option maxHeartbeats 1600000 in
theorem made_any (w : World) (mb rg n m lk sz : Nat) (f : Nat → Vl) (op a b c : Int) (hrg0 : 0 < rg) (hrg : rg ≤ 1000) (ho : ordE rg m lk sz op a b c = 0) (hm : MpV w mb f rg n) :
    Calls Tryd.prog 130 #[.agg #[.int .i64 op, .int .i64 a, .int .i64 b, .int .i64 c], .map (some mb)] w fun e w' => e = .returned (vlV (mkV op b c f)) ∧ Below w.heap.size w w' := by
  have HRE : Hid (∀ k V, Calls Tryd.prog 63 #[.int .i64 k] V fun e w' => e = .returned (.bool (decide (2 ≤ k) && decide (k ≤ 7))) ∧ w' = V) := fun k V => reckons_any V k
  have HAL : Hid (∀ k V, Calls Tryd.prog 60 #[.int .i64 k] V fun e w' => e = .returned (.agg #[.int .i64 1, .int .i64 k]) ∧ Below V.heap.size V w') := fun k V => always_any k V
  obtain ⟨W, hW⟩ : ∃ V, (w.alloc (.cells #[.int .i64 op, .int .i64 a, .int .i64 b, .int .i64 c] 44)).alloc (.cells #[.int .i64 0, .int .i64 0] 116) = V := ⟨_, rfl⟩
  have hbW : Below w.heap.size w W := by rw [← hW]; exact low2 _ _ _
  have hib : W.heap[w.heap.size]? = some (.cells #[.int .i64 op, .int .i64 a, .int .i64 b, .int .i64 c] 44) := by rw [← hW]; exact box_later (heap_alloc_new _ _) _
  have hrb : W.heap[w.heap.size + 1]? = some (.cells #[.int .i64 0, .int .i64 0] 116) := by
    rw [← hW]
    have := heap_alloc_new (w.alloc (.cells #[.int .i64 op, .int .i64 a, .int .i64 b, .int .i64 c] 44)) (.cells #[.int .i64 0, .int .i64 0] 116)
    rwa [World.size_alloc] at this
  have HW := Hid.out (p := Hid _) hW
  have HFIN : Hid (∀ V, Below W.heap.size W V → Below w.heap.size w V ∧ V.heap[w.heap.size + 1]? = some (.cells #[.int .i64 0, .int .i64 0] 116)) := fun V hV => ⟨hbW.trans (hV.mono hbW.size), (hV.block _ (box_lt hrb)).trans hrb⟩
  have i0 : W.cell? ⟨w.heap.size, 0, none⟩ = some (.int .i64 op) := box_cell hib rfl
  have i1 : W.cell? ⟨w.heap.size, 1, none⟩ = some (.int .i64 a) := box_cell hib rfl
  have i2 : W.cell? ⟨w.heap.size, 2, none⟩ = some (.int .i64 b) := box_cell hib rfl
  have i3 : W.cell? ⟨w.heap.size, 3, none⟩ = some (.int .i64 c) := box_cell hib rfl
  have r0 : W.cell? ⟨w.heap.size + 1, 0, none⟩ = some (.int .i64 0) := box_cell hrb rfl
  have r1 : W.cell? ⟨w.heap.size + 1, 1, none⟩ = some (.int .i64 0) := box_cell hrb rfl
  have rf : ∀ i, W.frozen? ⟨w.heap.size + 1, i, none⟩ = false := fun i => box_free hrb
  by_cases h1 : op = 1
  · subst h1
    have hmk : mkV 1 b c f = .num b := by unfold mkV; rw [if_pos rfl]
    rw [hmk]
    clear hm ho hW hbW hib hrb
    go_enter Tryd.func130, Tryd.ntmps130
    go_wp2_with fail
    rw [HW.out]
    go_wp2_with fail
    refine Calls.mono (HAL.out _ _) ?_
    rintro e w5 ⟨rfl, hb5⟩
    obtain ⟨hbw, hq⟩ := HFIN.out w5 hb5
    have q0 : w5.cell? ⟨w.heap.size + 1, 0, none⟩ = some (.int .i64 0) := box_cell hq rfl
    have q1 : w5.cell? ⟨w.heap.size + 1, 1, none⟩ = some (.int .i64 0) := box_cell hq rfl
    have qf : ∀ i, w5.frozen? ⟨w.heap.size + 1, i, none⟩ = false := fun i => box_free hq
    have HQ := Hid.out (p := Hid _) (And.intro hbw hq)
    clear hbw hq hb5
    go_wp2
    have hs := heap_set_same (i := 1) (u := .int .i64 b) (heap_set_same (i := 0) (u := .int .i64 1) HQ.out.2)
    have t0 := box_cell (i := 0) hs rfl
    have t1 := box_cell (i := 1) hs rfl
    refine bodyPost_ret (v := vlV (.num b)) (by simp [results, Tryd.results130, go_sem, t0, t1, vlV, Vl.st, Vl.nb]) rfl ⟨rfl, (HQ.out.1.setCell (by simp) _).setCell (by simp) _⟩
  · have h1' : (op == 1) = false := by simpa using h1
    by_cases h27 : 2 ≤ op ∧ op ≤ 7
    · have hdec : (decide (2 ≤ op) && decide (op ≤ 7)) = true := by simp [h27]
      obtain ⟨b', c', rfl, rfl, hb', hc'⟩ := rk_regs hrg0 ho h27
      rw [← rkV_mk h27]
      obtain ⟨x, hx⟩ : ∃ x, rkV op (b' : Int) (c' : Int) f = x := ⟨_, rfl⟩
      have HRK : Hid (Calls Tryd.prog 64 #[.agg #[.int .i64 op, .int .i64 a, .int .i64 (b' : Int), .int .i64 (c' : Int)], .map (some mb)] W fun e w' => e = .returned (.agg #[.int .i64 (x.st : Int), .int .i64 x.nb]) ∧ Below W.heap.size W w') := by
        have h := reckoned_any W mb rg n f op a b' c' hb' hc' hrg h27 (hm.keep (hbW.block _ hm.lt))
        rw [hx] at h
        exact h
      rw [hx]
      unfold vlV
      clear hm ho hW hbW hib hrb hx
      go_enter Tryd.func130, Tryd.ntmps130
      go_wp2_with fail
      rw [HW.out]
      go_wp2_with fail
      refine Calls.mono (HRE.out _ _) ?_
      rw [hdec]
      rintro e w' ⟨rfl, rfl⟩
      go_wp2_with fail
      refine Calls.mono HRK.out ?_
      rintro e w5 ⟨rfl, hb5⟩
      obtain ⟨hbw, hq⟩ := HFIN.out w5 hb5
      have q0 : w5.cell? ⟨w.heap.size + 1, 0, none⟩ = some (.int .i64 0) := box_cell hq rfl
      have q1 : w5.cell? ⟨w.heap.size + 1, 1, none⟩ = some (.int .i64 0) := box_cell hq rfl
      have qf : ∀ i, w5.frozen? ⟨w.heap.size + 1, i, none⟩ = false := fun i => box_free hq
      have HQ := Hid.out (p := Hid _) (And.intro hbw hq)
      clear hbw hq hb5
      go_wp2
      have hs := heap_set_same (i := 1) (u := .int .i64 x.nb) (heap_set_same (i := 0) (u := .int .i64 (x.st : Int)) HQ.out.2)
      have t0 := box_cell (i := 0) hs rfl
      have t1 := box_cell (i := 1) hs rfl
      refine bodyPost_ret (v := .agg #[.int .i64 (x.st : Int), .int .i64 x.nb]) (by simp [results, Tryd.results130, go_sem, t0, t1]) rfl ⟨rfl, (HQ.out.1.setCell (by simp) _).setCell (by simp) _⟩
    · have hdec : (decide (2 ≤ op) && decide (op ≤ 7)) = false := by
        rw [Bool.and_eq_false_iff]
        by_cases h : 2 ≤ op
        · right; simp; omega
        · left; simp; omega
      have hmk : mkV op b c f = .any := by
        unfold mkV
        rw [if_neg h1, if_neg (by omega), if_neg (by omega)]
      have HFW := Hid.out (p := Hid _) (And.intro hbW hrb)
      rw [hmk]
      clear hm ho hW hbW hib hrb h27
      go_enter Tryd.func130, Tryd.ntmps130
      go_wp2_with fail
      rw [HW.out]
      go_wp2_with fail
      refine Calls.mono (HRE.out _ _) ?_
      rw [hdec]
      rintro e w' ⟨rfl, rfl⟩
      go_wp2
      have hs := heap_set_same (i := 1) (u := .int .i64 0) (heap_set_same (i := 0) (u := .int .i64 2) HFW.out.2)
      have t0 := box_cell (i := 0) hs rfl
      have t1 := box_cell (i := 1) hs rfl
      refine bodyPost_ret (v := vlV .any) (by simp [results, Tryd.results130, go_sem, t0, t1, vlV, Vl.st, Vl.nb]) rfl ⟨rfl, (HFW.out.1.setCell (by simp) _).setCell (by simp) _⟩

end Go.Proofs.YtkailbdjilkneaaDoor
