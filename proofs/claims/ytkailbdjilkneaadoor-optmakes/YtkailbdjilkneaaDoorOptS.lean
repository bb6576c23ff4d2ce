/-
  What an order makes of a register, and where it leads, by the program.
  What a register holds behind an order, by the program.
-/
import Derived.Test.YtkailbdjilkneaaDoorOptR
namespace Go.Proofs.YtkailbdjilkneaaDoor
section
open Go.RowKit

theorem rkV_mk {op b c : Int} (h27 : 2 ≤ op ∧ op ≤ 7) (e : Nat → Vl) : rkV op b c e = mkV op b c e := by
  unfold rkV mkV
  rw [if_neg (show ¬ op = 1 by omega)]
  by_cases h2 : op = 2
  · rw [if_pos h2, if_pos h2]
  · rw [if_neg h2, if_neg h2, if_pos (by omega)]
/-- The two numbers that an order reckons of are registers. -/
theorem rk_regs {rg m lk sz : Nat} {op a b c : Int} (hrg : 0 < rg) (ho : ordE rg m lk sz op a b c = 0) (h27 : 2 ≤ op ∧ op ≤ 7) : ∃ b' c' : Nat, b = b' ∧ c = c' ∧ b' < rg ∧ c' < rg := by
  by_cases h2 : op = 2
  · subst h2
    have h1 := (ok_rr (by omega) ho).2
    have h3 := (ok_three (op := 2) rfl ho).2.2
    have h4 : c = 0 := by
      have : 0 ≤ c ∧ c < 1 := by simpa [okN, lim] using h3
      omega
    exact ⟨b.toNat, 0, by omega, by omega, by omega, hrg⟩
  · obtain ⟨_, h1, h3⟩ := ok_rrr (by omega) ho
    exact ⟨b.toNat, c.toNat, by omega, by omega, by omega, by omega⟩
set_option maxRecDepth 100000 in
set_option maxHeartbeats 1600000 in
theorem made_any (w : World) (mb rg n m lk sz : Nat) (f : Nat → Vl) (op a b c : Int) (hrg0 : 0 < rg) (hrg : rg ≤ 1000) (ho : ordE rg m lk sz op a b c = 0) (hm : MpV w mb f rg n) :
    Calls Tryd.prog 130 #[.agg #[.int .i64 op, .int .i64 a, .int .i64 b, .int .i64 c], .map (some mb)] w fun e w' => e = .returned (vlV (mkV op b c f)) ∧ Below w.heap.size w w' := by
  have HRE : Hid (∀ k V, Calls Tryd.prog 63 #[.int .i64 k] V fun e w' => e = .returned (.bool (decide (2 ≤ k) && decide (k ≤ 7))) ∧ w' = V) := fun k V => reckons_any V k
  have HAL : Hid (∀ k V, Calls Tryd.prog 60 #[.int .i64 k] V fun e w' => e = .returned (.agg #[.int .i64 1, .int .i64 k]) ∧ Below V.heap.size V w') := fun k V => always_any k V
  obtain ⟨W, hW⟩ : ∃ V, (w.alloc (.cells #[.int .i64 op, .int .i64 a, .int .i64 b, .int .i64 c] 44)).alloc (.cells #[.int .i64 0, .int .i64 0] 116) = V := ⟨_, rfl⟩
  have hbW : Below w.heap.size w W := by rw [← hW]; exact low2 _ _ _
  have hib : W.heap[w.heap.size]? = some (.cells #[.int .i64 op, .int .i64 a, .int .i64 b, .int .i64 c] 44) := by rw [← hW]; exact box_later (heap_alloc_new _ _) _
  have hrb : W.heap[w.heap.size + 1]? = some (.cells #[.int .i64 0, .int .i64 0] 116) := by
    rw [← hW]
    have := heap_alloc_new (w.alloc (.cells #[.int .i64 op, .int .i64 a, .int .i64 b, .int .i64 c] 44)) (.cells #[.int .i64 0, .int .i64 0] 116)
    rwa [World.size_alloc] at this
  have HW := Hid.out (p := Hid _) hW
  have HFIN : Hid (∀ V, Below W.heap.size W V → Below w.heap.size w V ∧ V.heap[w.heap.size + 1]? = some (.cells #[.int .i64 0, .int .i64 0] 116)) := fun V hV => ⟨hbW.trans (hV.mono hbW.size), (hV.block _ (box_lt hrb)).trans hrb⟩
  have i0 : W.cell? ⟨w.heap.size, 0, none⟩ = some (.int .i64 op) := box_cell hib rfl
  have i1 : W.cell? ⟨w.heap.size, 1, none⟩ = some (.int .i64 a) := box_cell hib rfl
  have i2 : W.cell? ⟨w.heap.size, 2, none⟩ = some (.int .i64 b) := box_cell hib rfl
  have i3 : W.cell? ⟨w.heap.size, 3, none⟩ = some (.int .i64 c) := box_cell hib rfl
  have r0 : W.cell? ⟨w.heap.size + 1, 0, none⟩ = some (.int .i64 0) := box_cell hrb rfl
  have r1 : W.cell? ⟨w.heap.size + 1, 1, none⟩ = some (.int .i64 0) := box_cell hrb rfl
  have rf : ∀ i, W.frozen? ⟨w.heap.size + 1, i, none⟩ = false := fun i => box_free hrb
  by_cases h1 : op = 1
  · subst h1
    have hmk : mkV 1 b c f = .num b := by unfold mkV; rw [if_pos rfl]
    rw [hmk]
    clear hm ho hW hbW hib hrb
    go_enter Tryd.func130, Tryd.ntmps130
    go_wp2_with fail
    rw [HW.out]
    go_wp2_with fail
    refine Calls.mono (HAL.out _ _) ?_
    rintro e w5 ⟨rfl, hb5⟩
    obtain ⟨hbw, hq⟩ := HFIN.out w5 hb5
    have q0 : w5.cell? ⟨w.heap.size + 1, 0, none⟩ = some (.int .i64 0) := box_cell hq rfl
    have q1 : w5.cell? ⟨w.heap.size + 1, 1, none⟩ = some (.int .i64 0) := box_cell hq rfl
    have qf : ∀ i, w5.frozen? ⟨w.heap.size + 1, i, none⟩ = false := fun i => box_free hq
    have HQ := Hid.out (p := Hid _) (And.intro hbw hq)
    clear hbw hq hb5
    go_wp2
    have hs := heap_set_same (i := 1) (u := .int .i64 b) (heap_set_same (i := 0) (u := .int .i64 1) HQ.out.2)
    have t0 := box_cell (i := 0) hs rfl
    have t1 := box_cell (i := 1) hs rfl
    refine bodyPost_ret (v := vlV (.num b)) (by simp [results, Tryd.results130, go_sem, t0, t1, vlV, Vl.st, Vl.nb]) rfl ⟨rfl, (HQ.out.1.setCell (by simp) _).setCell (by simp) _⟩
  · have h1' : (op == 1) = false := by simpa using h1
    by_cases h27 : 2 ≤ op ∧ op ≤ 7
    · have hdec : (decide (2 ≤ op) && decide (op ≤ 7)) = true := by simp [h27]
      obtain ⟨b', c', rfl, rfl, hb', hc'⟩ := rk_regs hrg0 ho h27
      rw [← rkV_mk h27]
      obtain ⟨x, hx⟩ : ∃ x, rkV op (b' : Int) (c' : Int) f = x := ⟨_, rfl⟩
      have HRK : Hid (Calls Tryd.prog 64 #[.agg #[.int .i64 op, .int .i64 a, .int .i64 (b' : Int), .int .i64 (c' : Int)], .map (some mb)] W fun e w' => e = .returned (.agg #[.int .i64 (x.st : Int), .int .i64 x.nb]) ∧ Below W.heap.size W w') := by
        have h := reckoned_any W mb rg n f op a b' c' hb' hc' hrg h27 (hm.keep (hbW.block _ hm.lt))
        rw [hx] at h
        exact h
      rw [hx]
      unfold vlV
      clear hm ho hW hbW hib hrb hx
      go_enter Tryd.func130, Tryd.ntmps130
      go_wp2_with fail
      rw [HW.out]
      go_wp2_with fail
      refine Calls.mono (HRE.out _ _) ?_
      rw [hdec]
      rintro e w' ⟨rfl, rfl⟩
      go_wp2_with fail
      refine Calls.mono HRK.out ?_
      rintro e w5 ⟨rfl, hb5⟩
      obtain ⟨hbw, hq⟩ := HFIN.out w5 hb5
      have q0 : w5.cell? ⟨w.heap.size + 1, 0, none⟩ = some (.int .i64 0) := box_cell hq rfl
      have q1 : w5.cell? ⟨w.heap.size + 1, 1, none⟩ = some (.int .i64 0) := box_cell hq rfl
      have qf : ∀ i, w5.frozen? ⟨w.heap.size + 1, i, none⟩ = false := fun i => box_free hq
      have HQ := Hid.out (p := Hid _) (And.intro hbw hq)
      clear hbw hq hb5
      go_wp2
      have hs := heap_set_same (i := 1) (u := .int .i64 x.nb) (heap_set_same (i := 0) (u := .int .i64 (x.st : Int)) HQ.out.2)
      have t0 := box_cell (i := 0) hs rfl
      have t1 := box_cell (i := 1) hs rfl
      refine bodyPost_ret (v := .agg #[.int .i64 (x.st : Int), .int .i64 x.nb]) (by simp [results, Tryd.results130, go_sem, t0, t1]) rfl ⟨rfl, (HQ.out.1.setCell (by simp) _).setCell (by simp) _⟩
    · have hdec : (decide (2 ≤ op) && decide (op ≤ 7)) = false := by
        rw [Bool.and_eq_false_iff]
        by_cases h : 2 ≤ op
        · right; simp; omega
        · left; simp; omega
      have hmk : mkV op b c f = .any := by
        unfold mkV
        rw [if_neg h1, if_neg (by omega), if_neg (by omega)]
      have HFW := Hid.out (p := Hid _) (And.intro hbW hrb)
      rw [hmk]
      clear hm ho hW hbW hib hrb h27
      go_enter Tryd.func130, Tryd.ntmps130
      go_wp2_with fail
      rw [HW.out]
      go_wp2_with fail
      refine Calls.mono (HRE.out _ _) ?_
      rw [hdec]
      rintro e w' ⟨rfl, rfl⟩
      go_wp2
      have hs := heap_set_same (i := 1) (u := .int .i64 0) (heap_set_same (i := 0) (u := .int .i64 2) HFW.out.2)
      have t0 := box_cell (i := 0) hs rfl
      have t1 := box_cell (i := 1) hs rfl
      refine bodyPost_ret (v := vlV .any) (by simp [results, Tryd.results130, go_sem, t0, t1, vlV, Vl.st, Vl.nb]) rfl ⟨rfl, (HFW.out.1.setCell (by simp) _).setCell (by simp) _⟩
end

section
open Go.RowKit

theorem wr_reg {rg m lk sz : Nat} {op a b c : Int} (ho : ordE rg m lk sz op a b c = 0) (hw : op = 1 ∨ op = 2 ∨ op = 3 ∨ op = 4 ∨ op = 5 ∨ op = 6 ∨ op = 7 ∨ op = 8 ∨ op = 10 ∨ op = 13) : 0 ≤ wrL op a b ∧ wrL op a b < rg := by
  rcases ok_wr ho with h | h
  · exfalso
    have h1 : wrL op a b = a ∨ wrL op a b = b := by
      unfold wrL
      split
      · exact Or.inl rfl
      · rw [if_pos (by omega)]; exact Or.inr rfl
    rcases (by omega : op = 1 ∨ op = 2 ∨ op = 3 ∨ op = 4 ∨ op = 5 ∨ op = 6 ∨ op = 7 ∨ op = 8 ∨ op = 10 ∨ op = 13) with rfl | rfl | rfl | rfl | rfl | rfl | rfl | rfl | rfl | rfl
    · have := ok_const ho; have e : wrL 1 a b = a := rfl; omega
    · have := (ok_rr (by omega) ho).1; have e : wrL 2 a b = a := rfl; omega
    · have := (ok_rrr (by omega) ho).1; have e : wrL 3 a b = a := rfl; omega
    · have := (ok_rrr (by omega) ho).1; have e : wrL 4 a b = a := rfl; omega
    · have := (ok_rrr (by omega) ho).1; have e : wrL 5 a b = a := rfl; omega
    · have := (ok_rrr (by omega) ho).1; have e : wrL 6 a b = a := rfl; omega
    · have := (ok_rrr (by omega) ho).1; have e : wrL 7 a b = a := rfl; omega
    · have := (ok_load ho).1; have e : wrL 8 a b = a := rfl; omega
    · have := (ok_rr (by omega) ho).1; have e : wrL 10 a b = a := rfl; omega
    · have := (ok_cas ho).2.1; have e : wrL 13 a b = b := rfl; omega
  · exact h
set_option maxRecDepth 100000 in
set_option maxHeartbeats 1600000 in
theorem behind_opt (w : World) (mb rg n m lk sz : Nat) (f : Nat → Vl) (op a b c : Int) (r : Nat) (hr : r < rg) (hrg0 : 0 < rg) (hrg : rg ≤ 1000) (ho : ordE rg m lk sz op a b c = 0) (hm : MpV w mb f rg n) :
    Calls Tryd.prog 102 #[.agg #[.int .i64 op, .int .i64 a, .int .i64 b, .int .i64 c], .map (some mb), .int .i64 (r : Int)] w fun e w' => e = .returned (vlV (if wrL op a b = (r : Int) then mkV op b c f else f r)) ∧ Below w.heap.size w w' := by
  have HWR : Hid (∀ V, Calls Tryd.prog 67 #[.agg #[.int .i64 op, .int .i64 a, .int .i64 b, .int .i64 c]] V fun e w' => ((∃ x, e = .returned (.tuple #[.int .i64 x, .bool true]) ∧ Hid (x = wrL op a b)) ∨ (e = .returned (.tuple #[.int .i64 0, .bool false]) ∧ Hid (wrL op a b = -1))) ∧ Below V.heap.size V w') := fun V => (writes_any op a b c (ok_op ho) V).mono fun e w' h => by
    obtain ⟨h1, h2⟩ := h
    rcases h1 with ⟨x, h3, h4, _⟩ | ⟨h3, h4⟩
    · exact ⟨Or.inl ⟨x, h3, h4⟩, h2⟩
    · exact ⟨Or.inr ⟨h3, h4⟩, h2⟩
  obtain ⟨mk, hmk⟩ : ∃ x, mkV op b c f = x := ⟨_, rfl⟩
  obtain ⟨fr, hfr⟩ : ∃ x, f r = x := ⟨_, rfl⟩
  obtain ⟨wr, hwr⟩ : ∃ x, wrL op a b = x := ⟨_, rfl⟩
  rw [hwr] at HWR
  have HMD : Hid (∀ V, Below w.heap.size w V → Calls Tryd.prog 130 #[.agg #[.int .i64 op, .int .i64 a, .int .i64 b, .int .i64 c], .map (some mb)] V fun e w' => e = .returned (.agg #[.int .i64 (mk.st : Int), .int .i64 mk.nb]) ∧ Below V.heap.size V w') := fun V hV => by
    have h := made_any V mb rg n m lk sz f op a b c hrg0 hrg ho (hm.keep (hV.block _ hm.lt))
    rw [hmk] at h
    exact h
  have HLK : Hid (∀ V, Below w.heap.size w V → (Instr.lookup 110 (.map (some mb)) (.int .i64 (r : Int)) false).run Tryd.prog V = .ok (.agg #[.int .i64 (fr.st : Int), .int .i64 fr.nb]) V) := fun V hV => by
    have := (hm.keep (hV.block _ hm.lt)).look hr hrg
    rw [hfr] at this
    exact this
  obtain ⟨W, hW⟩ : ∃ V, (w.alloc (.cells #[.int .i64 op, .int .i64 a, .int .i64 b, .int .i64 c] 44)).alloc (.cells #[.int .i64 0, .int .i64 0] 116) = V := ⟨_, rfl⟩
  have hbW : Below w.heap.size w W := by rw [← hW]; exact low2 _ _ _
  have hib : W.heap[w.heap.size]? = some (.cells #[.int .i64 op, .int .i64 a, .int .i64 b, .int .i64 c] 44) := by rw [← hW]; exact box_later (heap_alloc_new _ _) _
  have hrb : W.heap[w.heap.size + 1]? = some (.cells #[.int .i64 0, .int .i64 0] 116) := by
    rw [← hW]
    have := heap_alloc_new (w.alloc (.cells #[.int .i64 op, .int .i64 a, .int .i64 b, .int .i64 c] 44)) (.cells #[.int .i64 0, .int .i64 0] 116)
    rwa [World.size_alloc] at this
  have HW := Hid.out (p := Hid _) hW
  have HAT : Hid (∀ V, Below W.heap.size W V → Below w.heap.size w V ∧ V.heap[w.heap.size]? = some (.cells #[.int .i64 op, .int .i64 a, .int .i64 b, .int .i64 c] 44) ∧ V.heap[w.heap.size + 1]? = some (.cells #[.int .i64 0, .int .i64 0] 116)) := fun V hV => ⟨hbW.trans (hV.mono hbW.size), (hV.block _ (box_lt hib)).trans hib, (hV.block _ (box_lt hrb)).trans hrb⟩
  have i0 : W.cell? ⟨w.heap.size, 0, none⟩ = some (.int .i64 op) := box_cell hib rfl
  have i1 : W.cell? ⟨w.heap.size, 1, none⟩ = some (.int .i64 a) := box_cell hib rfl
  have i2 : W.cell? ⟨w.heap.size, 2, none⟩ = some (.int .i64 b) := box_cell hib rfl
  have i3 : W.cell? ⟨w.heap.size, 3, none⟩ = some (.int .i64 c) := box_cell hib rfl
  rw [hwr, hmk, hfr]
  obtain ⟨res, hres⟩ : ∃ v, (if wr = (r : Int) then mk else fr) = v := ⟨_, rfl⟩
  rw [hres]
  have HRES := Hid.out (p := Hid _) hres
  clear hm ho hW hbW hib hrb hfr hmk hres
  go_enter Tryd.func102, Tryd.ntmps102
  go_wp2_with fail
  rw [HW.out]
  go_wp2_with fail
  refine Calls.mono (HWR.out _) ?_
  rintro e w3 ⟨h3, hb3⟩
  obtain ⟨hw3, hi3, hr3⟩ := HAT.out w3 hb3
  have lk3 := HLK.out w3 hw3
  have j0 : w3.cell? ⟨w.heap.size, 0, none⟩ = some (.int .i64 op) := box_cell hi3 rfl
  have j1 : w3.cell? ⟨w.heap.size, 1, none⟩ = some (.int .i64 a) := box_cell hi3 rfl
  have j2 : w3.cell? ⟨w.heap.size, 2, none⟩ = some (.int .i64 b) := box_cell hi3 rfl
  have j3 : w3.cell? ⟨w.heap.size, 3, none⟩ = some (.int .i64 c) := box_cell hi3 rfl
  have q0 : w3.cell? ⟨w.heap.size + 1, 0, none⟩ = some (.int .i64 0) := box_cell hr3 rfl
  have q1 : w3.cell? ⟨w.heap.size + 1, 1, none⟩ = some (.int .i64 0) := box_cell hr3 rfl
  have qf : ∀ i, w3.frozen? ⟨w.heap.size + 1, i, none⟩ = false := fun i => box_free hr3
  have H3 := Hid.out (p := Hid _) (And.intro hb3 (And.intro hw3 hr3))
  clear hb3 hw3 hi3 hr3 i0 i1 i2 i3
  rcases h3 with ⟨x, rfl, hx⟩ | ⟨rfl, hx⟩
  · have hxe : x = wr := hx.out
    subst hxe
    by_cases hxr : x = (r : Int)
    · have he : mk = res := by rw [← HRES.out, if_pos hxr]
      subst he
      subst hxr
      clear lk3 q0 q1 qf hx HRES
      go_wp2_with fail
      refine Calls.mono (HMD.out _ H3.out.2.1) ?_
      rintro e w5 ⟨rfl, hb5⟩
      obtain ⟨hbw, _, hq⟩ := HAT.out w5 (H3.out.1.trans (hb5.mono H3.out.1.size))
      have q0 : w5.cell? ⟨w.heap.size + 1, 0, none⟩ = some (.int .i64 0) := box_cell hq rfl
      have q1 : w5.cell? ⟨w.heap.size + 1, 1, none⟩ = some (.int .i64 0) := box_cell hq rfl
      have qf : ∀ i, w5.frozen? ⟨w.heap.size + 1, i, none⟩ = false := fun i => box_free hq
      have HQ := Hid.out (p := Hid _) (And.intro hbw hq)
      clear hbw hq hb5
      go_wp2
      have hs := heap_set_same (i := 1) (u := .int .i64 mk.nb) (heap_set_same (i := 0) (u := .int .i64 (mk.st : Int)) HQ.out.2)
      have t0 := box_cell (i := 0) hs rfl
      have t1 := box_cell (i := 1) hs rfl
      refine bodyPost_ret (v := vlV mk) (by simp [results, Tryd.results102, go_sem, t0, t1, vlV]) rfl ⟨rfl, (HQ.out.1.setCell (by simp) _).setCell (by simp) _⟩
    · have hxr' : (x == (r : Int)) = false := by simpa using hxr
      have he : fr = res := by rw [← HRES.out, if_neg hxr]
      subst he
      clear hx HRES
      go_wp2
      have hs := heap_set_same (i := 1) (u := .int .i64 fr.nb) (heap_set_same (i := 0) (u := .int .i64 (fr.st : Int)) H3.out.2.2)
      have t0 := box_cell (i := 0) hs rfl
      have t1 := box_cell (i := 1) hs rfl
      refine bodyPost_ret (v := vlV fr) (by simp [results, Tryd.results102, go_sem, t0, t1, vlV]) rfl ⟨rfl, (H3.out.2.1.setCell (by simp) _).setCell (by simp) _⟩
  · have hxr : ¬ wr = (r : Int) := by rw [hx.out]; omega
    have he : fr = res := by rw [← HRES.out, if_neg hxr]
    subst he
    clear hx hxr HRES
    go_wp2
    have hs := heap_set_same (i := 1) (u := .int .i64 fr.nb) (heap_set_same (i := 0) (u := .int .i64 (fr.st : Int)) H3.out.2.2)
    have t0 := box_cell (i := 0) hs rfl
    have t1 := box_cell (i := 1) hs rfl
    refine bodyPost_ret (v := vlV fr) (by simp [results, Tryd.results102, go_sem, t0, t1, vlV]) rfl ⟨rfl, (H3.out.2.1.setCell (by simp) _).setCell (by simp) _⟩
end

end Go.Proofs.YtkailbdjilkneaaDoor
