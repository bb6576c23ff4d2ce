/-
  What a register holds behind an order, by the program.
-/
import Derived.Test.YtkailbdjilkneaaDoorOptS
namespace Go.Proofs.YtkailbdjilkneaaDoor
open Go.RowKit

theorem wr_reg {rg m lk sz : Nat} {op a b c : Int} (ho : ordE rg m lk sz op a b c = 0) (hw : op = 1 ∨ op = 2 ∨ op = 3 ∨ op = 4 ∨ op = 5 ∨ op = 6 ∨ op = 7 ∨ op = 8 ∨ op = 10 ∨ op = 13) : 0 ≤ wrL op a b ∧ wrL op a b < rg := by
  rcases ok_wr ho with h | h
  · exfalso
    have h1 : wrL op a b = a ∨ wrL op a b = b := by
      unfold wrL
      split
      · exact Or.inl rfl
      · rw [if_pos (by omega)]; exact Or.inr rfl
    rcases (by omega : op = 1 ∨ op = 2 ∨ op = 3 ∨ op = 4 ∨ op = 5 ∨ op = 6 ∨ op = 7 ∨ op = 8 ∨ op = 10 ∨ op = 13) with rfl | rfl | rfl | rfl | rfl | rfl | rfl | rfl | rfl | rfl
    · have := ok_const ho; have e : wrL 1 a b = a := rfl; omega
    · have := (ok_rr (by omega) ho).1; have e : wrL 2 a b = a := rfl; omega
    · have := (ok_rrr (by omega) ho).1; have e : wrL 3 a b = a := rfl; omega
    · have := (ok_rrr (by omega) ho).1; have e : wrL 4 a b = a := rfl; omega
    · have := (ok_rrr (by omega) ho).1; have e : wrL 5 a b = a := rfl; omega
    · have := (ok_rrr (by omega) ho).1; have e : wrL 6 a b = a := rfl; omega
    · have := (ok_rrr (by omega) ho).1; have e : wrL 7 a b = a := rfl; omega
    · have := (ok_load ho).1; have e : wrL 8 a b = a := rfl; omega
    · have := (ok_rr (by omega) ho).1; have e : wrL 10 a b = a := rfl; omega
    · have := (ok_cas ho).2.1; have e : wrL 13 a b = b := rfl; omega
  · exact h
set_option maxRecDepth 100000 in
set_option maxHeartbeats 1600000 in
theorem behind_opt (w : World) (mb rg n m lk sz : Nat) (f : Nat → Vl) (op a b c : Int) (r : Nat) (hr : r < rg) (hrg0 : 0 < rg) (hrg : rg ≤ 1000) (ho : ordE rg m lk sz op a b c = 0) (hm : MpV w mb f rg n) :
    Calls Tryd.prog 102 #[.agg #[.int .i64 op, .int .i64 a, .int .i64 b, .int .i64 c], .map (some mb), .int .i64 (r : Int)] w fun e w' => e = .returned (vlV (if wrL op a b = (r : Int) then mkV op b c f else f r)) ∧ Below w.heap.size w w' := by
  have HWR : Hid (∀ V, Calls Tryd.prog 67 #[.agg #[.int .i64 op, .int .i64 a, .int .i64 b, .int .i64 c]] V fun e w' => ((∃ x, e = .returned (.tuple #[.int .i64 x, .bool true]) ∧ Hid (x = wrL op a b)) ∨ (e = .returned (.tuple #[.int .i64 0, .bool false]) ∧ Hid (wrL op a b = -1))) ∧ Below V.heap.size V w') := fun V => (writes_any op a b c (ok_op ho) V).mono fun e w' h => by
    obtain ⟨h1, h2⟩ := h
    rcases h1 with ⟨x, h3, h4, _⟩ | ⟨h3, h4⟩
    · exact ⟨Or.inl ⟨x, h3, h4⟩, h2⟩
    · exact ⟨Or.inr ⟨h3, h4⟩, h2⟩
  obtain ⟨mk, hmk⟩ : ∃ x, mkV op b c f = x := ⟨_, rfl⟩
  obtain ⟨fr, hfr⟩ : ∃ x, f r = x := ⟨_, rfl⟩
  obtain ⟨wr, hwr⟩ : ∃ x, wrL op a b = x := ⟨_, rfl⟩
  rw [hwr] at HWR
  have HMD : Hid (∀ V, Below w.heap.size w V → Calls Tryd.prog 130 #[.agg #[.int .i64 op, .int .i64 a, .int .i64 b, .int .i64 c], .map (some mb)] V fun e w' => e = .returned (.agg #[.int .i64 (mk.st : Int), .int .i64 mk.nb]) ∧ Below V.heap.size V w') := fun V hV => by
    have h := made_any V mb rg n m lk sz f op a b c hrg0 hrg ho (hm.keep (hV.block _ hm.lt))
    rw [hmk] at h
    exact h
  have HLK : Hid (∀ V, Below w.heap.size w V → (Instr.lookup 110 (.map (some mb)) (.int .i64 (r : Int)) false).run Tryd.prog V = .ok (.agg #[.int .i64 (fr.st : Int), .int .i64 fr.nb]) V) := fun V hV => by
    have := (hm.keep (hV.block _ hm.lt)).look hr hrg
    rw [hfr] at this
    exact this
  obtain ⟨W, hW⟩ : ∃ V, (w.alloc (.cells #[.int .i64 op, .int .i64 a, .int .i64 b, .int .i64 c] 44)).alloc (.cells #[.int .i64 0, .int .i64 0] 116) = V := ⟨_, rfl⟩
  have hbW : Below w.heap.size w W := by rw [← hW]; exact low2 _ _ _
  have hib : W.heap[w.heap.size]? = some (.cells #[.int .i64 op, .int .i64 a, .int .i64 b, .int .i64 c] 44) := by rw [← hW]; exact box_later (heap_alloc_new _ _) _
  have hrb : W.heap[w.heap.size + 1]? = some (.cells #[.int .i64 0, .int .i64 0] 116) := by
    rw [← hW]
    have := heap_alloc_new (w.alloc (.cells #[.int .i64 op, .int .i64 a, .int .i64 b, .int .i64 c] 44)) (.cells #[.int .i64 0, .int .i64 0] 116)
    rwa [World.size_alloc] at this
  have HW := Hid.out (p := Hid _) hW
  have HAT : Hid (∀ V, Below W.heap.size W V → Below w.heap.size w V ∧ V.heap[w.heap.size]? = some (.cells #[.int .i64 op, .int .i64 a, .int .i64 b, .int .i64 c] 44) ∧ V.heap[w.heap.size + 1]? = some (.cells #[.int .i64 0, .int .i64 0] 116)) := fun V hV => ⟨hbW.trans (hV.mono hbW.size), (hV.block _ (box_lt hib)).trans hib, (hV.block _ (box_lt hrb)).trans hrb⟩
  have i0 : W.cell? ⟨w.heap.size, 0, none⟩ = some (.int .i64 op) := box_cell hib rfl
  have i1 : W.cell? ⟨w.heap.size, 1, none⟩ = some (.int .i64 a) := box_cell hib rfl
  have i2 : W.cell? ⟨w.heap.size, 2, none⟩ = some (.int .i64 b) := box_cell hib rfl
  have i3 : W.cell? ⟨w.heap.size, 3, none⟩ = some (.int .i64 c) := box_cell hib rfl
  rw [hwr, hmk, hfr]
  obtain ⟨res, hres⟩ : ∃ v, (if wr = (r : Int) then mk else fr) = v := ⟨_, rfl⟩
  rw [hres]
  have HRES := Hid.out (p := Hid _) hres
  clear hm ho hW hbW hib hrb hfr hmk hres
  go_enter Tryd.func102, Tryd.ntmps102
  go_wp2_with fail
  rw [HW.out]
  go_wp2_with fail
  refine Calls.mono (HWR.out _) ?_
  rintro e w3 ⟨h3, hb3⟩
  obtain ⟨hw3, hi3, hr3⟩ := HAT.out w3 hb3
  have lk3 := HLK.out w3 hw3
  have j0 : w3.cell? ⟨w.heap.size, 0, none⟩ = some (.int .i64 op) := box_cell hi3 rfl
  have j1 : w3.cell? ⟨w.heap.size, 1, none⟩ = some (.int .i64 a) := box_cell hi3 rfl
  have j2 : w3.cell? ⟨w.heap.size, 2, none⟩ = some (.int .i64 b) := box_cell hi3 rfl
  have j3 : w3.cell? ⟨w.heap.size, 3, none⟩ = some (.int .i64 c) := box_cell hi3 rfl
  have q0 : w3.cell? ⟨w.heap.size + 1, 0, none⟩ = some (.int .i64 0) := box_cell hr3 rfl
  have q1 : w3.cell? ⟨w.heap.size + 1, 1, none⟩ = some (.int .i64 0) := box_cell hr3 rfl
  have qf : ∀ i, w3.frozen? ⟨w.heap.size + 1, i, none⟩ = false := fun i => box_free hr3
  have H3 := Hid.out (p := Hid _) (And.intro hb3 (And.intro hw3 hr3))
  clear hb3 hw3 hi3 hr3 i0 i1 i2 i3
  rcases h3 with ⟨x, rfl, hx⟩ | ⟨rfl, hx⟩
  · have hxe : x = wr := hx.out
    subst hxe
    by_cases hxr : x = (r : Int)
    · have he : mk = res := by rw [← HRES.out, if_pos hxr]
      subst he
      subst hxr
      clear lk3 q0 q1 qf hx HRES
      go_wp2_with fail
      refine Calls.mono (HMD.out _ H3.out.2.1) ?_
      rintro e w5 ⟨rfl, hb5⟩
      obtain ⟨hbw, _, hq⟩ := HAT.out w5 (H3.out.1.trans (hb5.mono H3.out.1.size))
      have q0 : w5.cell? ⟨w.heap.size + 1, 0, none⟩ = some (.int .i64 0) := box_cell hq rfl
      have q1 : w5.cell? ⟨w.heap.size + 1, 1, none⟩ = some (.int .i64 0) := box_cell hq rfl
      have qf : ∀ i, w5.frozen? ⟨w.heap.size + 1, i, none⟩ = false := fun i => box_free hq
      have HQ := Hid.out (p := Hid _) (And.intro hbw hq)
      clear hbw hq hb5
      go_wp2
      have hs := heap_set_same (i := 1) (u := .int .i64 mk.nb) (heap_set_same (i := 0) (u := .int .i64 (mk.st : Int)) HQ.out.2)
      have t0 := box_cell (i := 0) hs rfl
      have t1 := box_cell (i := 1) hs rfl
      refine bodyPost_ret (v := vlV mk) (by simp [results, Tryd.results102, go_sem, t0, t1, vlV]) rfl ⟨rfl, (HQ.out.1.setCell (by simp) _).setCell (by simp) _⟩
    · have hxr' : (x == (r : Int)) = false := by simpa using hxr
      have he : fr = res := by rw [← HRES.out, if_neg hxr]
      subst he
      clear hx HRES
      go_wp2
      have hs := heap_set_same (i := 1) (u := .int .i64 fr.nb) (heap_set_same (i := 0) (u := .int .i64 (fr.st : Int)) H3.out.2.2)
      have t0 := box_cell (i := 0) hs rfl
      have t1 := box_cell (i := 1) hs rfl
      refine bodyPost_ret (v := vlV fr) (by simp [results, Tryd.results102, go_sem, t0, t1, vlV]) rfl ⟨rfl, (H3.out.2.1.setCell (by simp) _).setCell (by simp) _⟩
  · have hxr : ¬ wr = (r : Int) := by rw [hx.out]; omega
    have he : fr = res := by rw [← HRES.out, if_neg hxr]
    subst he
    clear hx hxr HRES
    go_wp2
    have hs := heap_set_same (i := 1) (u := .int .i64 fr.nb) (heap_set_same (i := 0) (u := .int .i64 (fr.st : Int)) H3.out.2.2)
    have t0 := box_cell (i := 0) hs rfl
    have t1 := box_cell (i := 1) hs rfl
    refine bodyPost_ret (v := vlV fr) (by simp [results, Tryd.results102, go_sem, t0, t1, vlV]) rfl ⟨rfl, (H3.out.2.1.setCell (by simp) _).setCell (by simp) _⟩

end Go.Proofs.YtkailbdjilkneaaDoor
