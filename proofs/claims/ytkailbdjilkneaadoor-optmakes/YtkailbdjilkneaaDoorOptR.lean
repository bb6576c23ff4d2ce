/-
  What an order makes of what is known, by the program.
-/
import Derived.Test.YtkailbdjilkneaaDoorOptN
import Derived.Deep.RegionHeld3
namespace Go.Proofs.YtkailbdjilkneaaDoor
open Go.RowKit

/-- What is reckoned of values. -/
def rkV (op b c : Int) (e : Nat → Vl) : Vl := if op = 2 then e b.toNat else rcV op (e b.toNat) (e c.toNat)
theorem fin_at {w w5 : World} {I R X Y : Obj} (h : Below ((((w.alloc I).alloc R).alloc X).alloc Y).drew.heap.size ((((w.alloc I).alloc R).alloc X).alloc Y).drew w5) : w5.heap[w.heap.size + 1]? = some R ∧ Below w.heap.size w w5 := by
  have hb := low4 w I R X Y
  have h0 : ((w.alloc I).alloc R).heap[w.heap.size + 1]? = some R := by
    have := heap_alloc_new (w.alloc I) R
    rwa [World.size_alloc] at this
  have h1 : ((((w.alloc I).alloc R).alloc X).alloc Y).heap[w.heap.size + 1]? = some R := box_later (box_later h0 _) _
  exact ⟨(h.block _ (Array.getElem?_eq_some_iff.1 h1).1).trans h1, hb.drew.trans (h.mono hb.drew.size)⟩
set_option maxRecDepth 100000 in
set_option maxHeartbeats 3200000 in
theorem reckoned_any (w : World) (mb rg n : Nat) (f : Nat → Vl) (op a : Int) (b c : Nat) (hb : b < rg) (hc : c < rg) (hrg : rg ≤ 1000) (h27 : 2 ≤ op ∧ op ≤ 7) (hm : MpV w mb f rg n) :
    Calls Tryd.prog 64 #[.agg #[.int .i64 op, .int .i64 a, .int .i64 (b : Int), .int .i64 (c : Int)], .map (some mb)] w fun e w' => e = .returned (vlV (rkV op b c f)) ∧ Below w.heap.size w w' := by
  have HLK : Hid (∀ V, Below w.heap.size w V → (Instr.lookup 110 (.map (some mb)) (.int .i64 (b : Int)) false).run Tryd.prog V = .ok (.agg #[.int .i64 ((f b).st : Int), .int .i64 (f b).nb]) V ∧ (Instr.lookup 110 (.map (some mb)) (.int .i64 (c : Int)) false).run Tryd.prog V = .ok (.agg #[.int .i64 ((f c).st : Int), .int .i64 (f c).nb]) V) := fun V hV =>
    ⟨(hm.keep (hV.block _ hm.lt)).look hb hrg, (hm.keep (hV.block _ hm.lt)).look hc hrg⟩
  obtain ⟨x, hx⟩ : ∃ x, f b = x := ⟨_, rfl⟩
  obtain ⟨y, hy⟩ : ∃ x, f c = x := ⟨_, rfl⟩
  rw [hx, hy] at HLK
  have hr : rkV op b c f = if op = 2 then x else rcV op x y := by unfold rkV; rw [Int.toNat_natCast, Int.toNat_natCast, hx, hy]
  rw [hr]
  clear hm hx hy hr
  by_cases h2 : op = 2
  · subst h2
    rw [if_pos rfl]
    have HRK : Hid (∀ k V, Calls Tryd.prog 104 #[.int .i64 2, .int .i64 k, .int .i64 k] V fun e w' => e = .returned (.int .i64 k) ∧ w' = V) := fun k V => reckonI_any 2 k k (by omega) V
    have HAL : Hid (∀ k V, Calls Tryd.prog 60 #[.int .i64 k] V fun e w' => e = .returned (.agg #[.int .i64 1, .int .i64 k]) ∧ Below V.heap.size V w') := fun k V => always_any k V
    clear h27
    unfold vlV
    cases x with
    | no =>
      simp only [Vl.st, Vl.nb] at HLK ⊢
      have hbW := low2 w (.cells #[.int .i64 2, .int .i64 a, .int .i64 (b : Int), .int .i64 (c : Int)] 44) (.cells #[.int .i64 0, .int .i64 0] 116)
      obtain ⟨l0, m0⟩ := HLK.out ((w.alloc (.cells #[.int .i64 2, .int .i64 a, .int .i64 (b : Int), .int .i64 (c : Int)] 44)).alloc (.cells #[.int .i64 0, .int .i64 0] 116)).drew hbW.drew
      have l1 := fun o => (HLK.out (((w.alloc (.cells #[.int .i64 2, .int .i64 a, .int .i64 (b : Int), .int .i64 (c : Int)] 44)).alloc (.cells #[.int .i64 0, .int .i64 0] 116)).alloc o).drew (hbW.alloc hbW.size o).drew).1
      have m1 := fun o => (HLK.out (((w.alloc (.cells #[.int .i64 2, .int .i64 a, .int .i64 (b : Int), .int .i64 (c : Int)] 44)).alloc (.cells #[.int .i64 0, .int .i64 0] 116)).alloc o).drew (hbW.alloc hbW.size o).drew).2
      have l2 := fun o o' => (HLK.out ((((w.alloc (.cells #[.int .i64 2, .int .i64 a, .int .i64 (b : Int), .int .i64 (c : Int)] 44)).alloc (.cells #[.int .i64 0, .int .i64 0] 116)).alloc o).alloc o').drew ((hbW.alloc hbW.size o).alloc (by simp; omega) o').drew).1
      have m2 := fun o o' => (HLK.out ((((w.alloc (.cells #[.int .i64 2, .int .i64 a, .int .i64 (b : Int), .int .i64 (c : Int)] 44)).alloc (.cells #[.int .i64 0, .int .i64 0] 116)).alloc o).alloc o').drew ((hbW.alloc hbW.size o).alloc (by simp; omega) o').drew).2
      clear hbW HLK
      go_enter Tryd.func64, Tryd.ntmps64
      go_wp2_with fail
      go_region
      all_goals go_wp2
      all_goals refine bodyPost_ret (by simp [results, Tryd.results64, go_sem] <;> rfl) rfl ⟨rfl, (low4 _ _ _ _ _).drew⟩
    | any =>
      simp only [Vl.st, Vl.nb] at HLK ⊢
      have hbW := low2 w (.cells #[.int .i64 2, .int .i64 a, .int .i64 (b : Int), .int .i64 (c : Int)] 44) (.cells #[.int .i64 0, .int .i64 0] 116)
      obtain ⟨l0, m0⟩ := HLK.out ((w.alloc (.cells #[.int .i64 2, .int .i64 a, .int .i64 (b : Int), .int .i64 (c : Int)] 44)).alloc (.cells #[.int .i64 0, .int .i64 0] 116)).drew hbW.drew
      have l1 := fun o => (HLK.out (((w.alloc (.cells #[.int .i64 2, .int .i64 a, .int .i64 (b : Int), .int .i64 (c : Int)] 44)).alloc (.cells #[.int .i64 0, .int .i64 0] 116)).alloc o).drew (hbW.alloc hbW.size o).drew).1
      have m1 := fun o => (HLK.out (((w.alloc (.cells #[.int .i64 2, .int .i64 a, .int .i64 (b : Int), .int .i64 (c : Int)] 44)).alloc (.cells #[.int .i64 0, .int .i64 0] 116)).alloc o).drew (hbW.alloc hbW.size o).drew).2
      have l2 := fun o o' => (HLK.out ((((w.alloc (.cells #[.int .i64 2, .int .i64 a, .int .i64 (b : Int), .int .i64 (c : Int)] 44)).alloc (.cells #[.int .i64 0, .int .i64 0] 116)).alloc o).alloc o').drew ((hbW.alloc hbW.size o).alloc (by simp; omega) o').drew).1
      have m2 := fun o o' => (HLK.out ((((w.alloc (.cells #[.int .i64 2, .int .i64 a, .int .i64 (b : Int), .int .i64 (c : Int)] 44)).alloc (.cells #[.int .i64 0, .int .i64 0] 116)).alloc o).alloc o').drew ((hbW.alloc hbW.size o).alloc (by simp; omega) o').drew).2
      clear hbW HLK
      go_enter Tryd.func64, Tryd.ntmps64
      go_wp2_with fail
      go_region
      all_goals go_wp2
      all_goals refine bodyPost_ret (by simp [results, Tryd.results64, go_sem] <;> rfl) rfl ⟨rfl, (low4 _ _ _ _ _).drew⟩
    | num k =>
      simp only [Vl.st, Vl.nb] at HLK ⊢
      have hbW := low2 w (.cells #[.int .i64 2, .int .i64 a, .int .i64 (b : Int), .int .i64 (c : Int)] 44) (.cells #[.int .i64 0, .int .i64 0] 116)
      obtain ⟨l0, m0⟩ := HLK.out ((w.alloc (.cells #[.int .i64 2, .int .i64 a, .int .i64 (b : Int), .int .i64 (c : Int)] 44)).alloc (.cells #[.int .i64 0, .int .i64 0] 116)).drew hbW.drew
      have l1 := fun o => (HLK.out (((w.alloc (.cells #[.int .i64 2, .int .i64 a, .int .i64 (b : Int), .int .i64 (c : Int)] 44)).alloc (.cells #[.int .i64 0, .int .i64 0] 116)).alloc o).drew (hbW.alloc hbW.size o).drew).1
      have m1 := fun o => (HLK.out (((w.alloc (.cells #[.int .i64 2, .int .i64 a, .int .i64 (b : Int), .int .i64 (c : Int)] 44)).alloc (.cells #[.int .i64 0, .int .i64 0] 116)).alloc o).drew (hbW.alloc hbW.size o).drew).2
      have l2 := fun o o' => (HLK.out ((((w.alloc (.cells #[.int .i64 2, .int .i64 a, .int .i64 (b : Int), .int .i64 (c : Int)] 44)).alloc (.cells #[.int .i64 0, .int .i64 0] 116)).alloc o).alloc o').drew ((hbW.alloc hbW.size o).alloc (by simp; omega) o').drew).1
      have m2 := fun o o' => (HLK.out ((((w.alloc (.cells #[.int .i64 2, .int .i64 a, .int .i64 (b : Int), .int .i64 (c : Int)] 44)).alloc (.cells #[.int .i64 0, .int .i64 0] 116)).alloc o).alloc o').drew ((hbW.alloc hbW.size o).alloc (by simp; omega) o').drew).2
      clear hbW HLK
      go_enter Tryd.func64, Tryd.ntmps64
      go_wp2_with fail
      go_region
      all_goals go_wp2_with fail
      all_goals refine Calls.mono (HRK.out _ _) ?_
      all_goals rintro e w' ⟨rfl, rfl⟩
      all_goals go_wp2_with fail
      all_goals refine Calls.mono (HAL.out _ _) ?_
      all_goals rintro e w5 ⟨rfl, hb5⟩
      all_goals obtain ⟨hq, hbq⟩ := fin_at hb5
      all_goals have q0 := box_cell (i := 0) hq rfl
      all_goals have q1 := box_cell (i := 1) hq rfl
      all_goals have qf := fun i => box_free (i := i) hq
      all_goals have HBQ := Hid.out (p := Hid _) (And.intro hq hbq)
      all_goals clear hb5 hq hbq l0 m0 l1 m1 l2 m2
      all_goals go_wp2
      all_goals have hs := heap_set_same (i := 1) (u := .int .i64 k) (heap_set_same (i := 0) (u := .int .i64 1) HBQ.out.1)
      all_goals have t0 := box_cell (i := 0) hs rfl
      all_goals have t1 := box_cell (i := 1) hs rfl
      all_goals refine bodyPost_ret (v := .agg #[.int .i64 1, .int .i64 k]) (by simp [results, Tryd.results64, go_sem, t0, t1]) rfl ⟨rfl, (HBQ.out.2.setCell (by simp) _).setCell (by simp) _⟩
  · have h2' : (op == 2) = false := by simpa using h2
    rw [if_neg h2]
    have HRK : Hid (∀ k q V, Calls Tryd.prog 104 #[.int .i64 op, .int .i64 k, .int .i64 q] V fun e w' => e = .returned (.int .i64 (rcI op k q)) ∧ w' = V) := fun k q V => reckonI_any op k q h27 V
    have HAL : Hid (∀ k V, Calls Tryd.prog 60 #[.int .i64 k] V fun e w' => e = .returned (.agg #[.int .i64 1, .int .i64 k]) ∧ Below V.heap.size V w') := fun k V => always_any k V
    clear h27
    unfold vlV
    cases x with
    | no =>
      have er : rcV op .no y = .no := by cases y <;> rfl
      rw [er]
      simp only [Vl.st, Vl.nb] at HLK ⊢
      have hbW := low2 w (.cells #[.int .i64 op, .int .i64 a, .int .i64 (b : Int), .int .i64 (c : Int)] 44) (.cells #[.int .i64 0, .int .i64 0] 116)
      obtain ⟨l0, m0⟩ := HLK.out ((w.alloc (.cells #[.int .i64 op, .int .i64 a, .int .i64 (b : Int), .int .i64 (c : Int)] 44)).alloc (.cells #[.int .i64 0, .int .i64 0] 116)).drew hbW.drew
      have l1 := fun o => (HLK.out (((w.alloc (.cells #[.int .i64 op, .int .i64 a, .int .i64 (b : Int), .int .i64 (c : Int)] 44)).alloc (.cells #[.int .i64 0, .int .i64 0] 116)).alloc o).drew (hbW.alloc hbW.size o).drew).1
      have m1 := fun o => (HLK.out (((w.alloc (.cells #[.int .i64 op, .int .i64 a, .int .i64 (b : Int), .int .i64 (c : Int)] 44)).alloc (.cells #[.int .i64 0, .int .i64 0] 116)).alloc o).drew (hbW.alloc hbW.size o).drew).2
      have l2 := fun o o' => (HLK.out ((((w.alloc (.cells #[.int .i64 op, .int .i64 a, .int .i64 (b : Int), .int .i64 (c : Int)] 44)).alloc (.cells #[.int .i64 0, .int .i64 0] 116)).alloc o).alloc o').drew ((hbW.alloc hbW.size o).alloc (by simp; omega) o').drew).1
      have m2 := fun o o' => (HLK.out ((((w.alloc (.cells #[.int .i64 op, .int .i64 a, .int .i64 (b : Int), .int .i64 (c : Int)] 44)).alloc (.cells #[.int .i64 0, .int .i64 0] 116)).alloc o).alloc o').drew ((hbW.alloc hbW.size o).alloc (by simp; omega) o').drew).2
      clear hbW HLK
      go_enter Tryd.func64, Tryd.ntmps64
      go_wp2_with fail
      go_region
      all_goals go_wp2
      all_goals refine bodyPost_ret (by simp [results, Tryd.results64, go_sem] <;> rfl) rfl ⟨rfl, (low4 _ _ _ _ _).drew⟩
    | any =>
      cases y
      all_goals unfold rcV
      all_goals simp only [Vl.st, Vl.nb] at HLK ⊢
      · have hbW := low2 w (.cells #[.int .i64 op, .int .i64 a, .int .i64 (b : Int), .int .i64 (c : Int)] 44) (.cells #[.int .i64 0, .int .i64 0] 116)
        obtain ⟨l0, m0⟩ := HLK.out ((w.alloc (.cells #[.int .i64 op, .int .i64 a, .int .i64 (b : Int), .int .i64 (c : Int)] 44)).alloc (.cells #[.int .i64 0, .int .i64 0] 116)).drew hbW.drew
        have l1 := fun o => (HLK.out (((w.alloc (.cells #[.int .i64 op, .int .i64 a, .int .i64 (b : Int), .int .i64 (c : Int)] 44)).alloc (.cells #[.int .i64 0, .int .i64 0] 116)).alloc o).drew (hbW.alloc hbW.size o).drew).1
        have m1 := fun o => (HLK.out (((w.alloc (.cells #[.int .i64 op, .int .i64 a, .int .i64 (b : Int), .int .i64 (c : Int)] 44)).alloc (.cells #[.int .i64 0, .int .i64 0] 116)).alloc o).drew (hbW.alloc hbW.size o).drew).2
        have l2 := fun o o' => (HLK.out ((((w.alloc (.cells #[.int .i64 op, .int .i64 a, .int .i64 (b : Int), .int .i64 (c : Int)] 44)).alloc (.cells #[.int .i64 0, .int .i64 0] 116)).alloc o).alloc o').drew ((hbW.alloc hbW.size o).alloc (by simp; omega) o').drew).1
        have m2 := fun o o' => (HLK.out ((((w.alloc (.cells #[.int .i64 op, .int .i64 a, .int .i64 (b : Int), .int .i64 (c : Int)] 44)).alloc (.cells #[.int .i64 0, .int .i64 0] 116)).alloc o).alloc o').drew ((hbW.alloc hbW.size o).alloc (by simp; omega) o').drew).2
        clear hbW HLK
        go_enter Tryd.func64, Tryd.ntmps64
        go_wp2_with fail
        go_region
        all_goals go_wp2
        all_goals refine bodyPost_ret (by simp [results, Tryd.results64, go_sem] <;> rfl) rfl ⟨rfl, (low4 _ _ _ _ _).drew⟩
      · have hbW := low2 w (.cells #[.int .i64 op, .int .i64 a, .int .i64 (b : Int), .int .i64 (c : Int)] 44) (.cells #[.int .i64 0, .int .i64 0] 116)
        obtain ⟨l0, m0⟩ := HLK.out ((w.alloc (.cells #[.int .i64 op, .int .i64 a, .int .i64 (b : Int), .int .i64 (c : Int)] 44)).alloc (.cells #[.int .i64 0, .int .i64 0] 116)).drew hbW.drew
        have l1 := fun o => (HLK.out (((w.alloc (.cells #[.int .i64 op, .int .i64 a, .int .i64 (b : Int), .int .i64 (c : Int)] 44)).alloc (.cells #[.int .i64 0, .int .i64 0] 116)).alloc o).drew (hbW.alloc hbW.size o).drew).1
        have m1 := fun o => (HLK.out (((w.alloc (.cells #[.int .i64 op, .int .i64 a, .int .i64 (b : Int), .int .i64 (c : Int)] 44)).alloc (.cells #[.int .i64 0, .int .i64 0] 116)).alloc o).drew (hbW.alloc hbW.size o).drew).2
        have l2 := fun o o' => (HLK.out ((((w.alloc (.cells #[.int .i64 op, .int .i64 a, .int .i64 (b : Int), .int .i64 (c : Int)] 44)).alloc (.cells #[.int .i64 0, .int .i64 0] 116)).alloc o).alloc o').drew ((hbW.alloc hbW.size o).alloc (by simp; omega) o').drew).1
        have m2 := fun o o' => (HLK.out ((((w.alloc (.cells #[.int .i64 op, .int .i64 a, .int .i64 (b : Int), .int .i64 (c : Int)] 44)).alloc (.cells #[.int .i64 0, .int .i64 0] 116)).alloc o).alloc o').drew ((hbW.alloc hbW.size o).alloc (by simp; omega) o').drew).2
        clear hbW HLK
        go_enter Tryd.func64, Tryd.ntmps64
        go_wp2_with fail
        go_region
        all_goals go_wp2
        all_goals refine bodyPost_ret (by simp [results, Tryd.results64, go_sem] <;> rfl) rfl ⟨rfl, (low4 _ _ _ _ _).drew⟩
      · have hbW := low2 w (.cells #[.int .i64 op, .int .i64 a, .int .i64 (b : Int), .int .i64 (c : Int)] 44) (.cells #[.int .i64 0, .int .i64 0] 116)
        obtain ⟨l0, m0⟩ := HLK.out ((w.alloc (.cells #[.int .i64 op, .int .i64 a, .int .i64 (b : Int), .int .i64 (c : Int)] 44)).alloc (.cells #[.int .i64 0, .int .i64 0] 116)).drew hbW.drew
        have l1 := fun o => (HLK.out (((w.alloc (.cells #[.int .i64 op, .int .i64 a, .int .i64 (b : Int), .int .i64 (c : Int)] 44)).alloc (.cells #[.int .i64 0, .int .i64 0] 116)).alloc o).drew (hbW.alloc hbW.size o).drew).1
        have m1 := fun o => (HLK.out (((w.alloc (.cells #[.int .i64 op, .int .i64 a, .int .i64 (b : Int), .int .i64 (c : Int)] 44)).alloc (.cells #[.int .i64 0, .int .i64 0] 116)).alloc o).drew (hbW.alloc hbW.size o).drew).2
        have l2 := fun o o' => (HLK.out ((((w.alloc (.cells #[.int .i64 op, .int .i64 a, .int .i64 (b : Int), .int .i64 (c : Int)] 44)).alloc (.cells #[.int .i64 0, .int .i64 0] 116)).alloc o).alloc o').drew ((hbW.alloc hbW.size o).alloc (by simp; omega) o').drew).1
        have m2 := fun o o' => (HLK.out ((((w.alloc (.cells #[.int .i64 op, .int .i64 a, .int .i64 (b : Int), .int .i64 (c : Int)] 44)).alloc (.cells #[.int .i64 0, .int .i64 0] 116)).alloc o).alloc o').drew ((hbW.alloc hbW.size o).alloc (by simp; omega) o').drew).2
        clear hbW HLK
        go_enter Tryd.func64, Tryd.ntmps64
        go_wp2_with fail
        go_region
        all_goals go_wp2
        all_goals refine bodyPost_ret (by simp [results, Tryd.results64, go_sem] <;> rfl) rfl ⟨rfl, (low4 _ _ _ _ _).drew⟩
    | num k =>
      cases y
      all_goals unfold rcV
      all_goals simp only [Vl.st, Vl.nb] at HLK ⊢
      · have hbW := low2 w (.cells #[.int .i64 op, .int .i64 a, .int .i64 (b : Int), .int .i64 (c : Int)] 44) (.cells #[.int .i64 0, .int .i64 0] 116)
        obtain ⟨l0, m0⟩ := HLK.out ((w.alloc (.cells #[.int .i64 op, .int .i64 a, .int .i64 (b : Int), .int .i64 (c : Int)] 44)).alloc (.cells #[.int .i64 0, .int .i64 0] 116)).drew hbW.drew
        have l1 := fun o => (HLK.out (((w.alloc (.cells #[.int .i64 op, .int .i64 a, .int .i64 (b : Int), .int .i64 (c : Int)] 44)).alloc (.cells #[.int .i64 0, .int .i64 0] 116)).alloc o).drew (hbW.alloc hbW.size o).drew).1
        have m1 := fun o => (HLK.out (((w.alloc (.cells #[.int .i64 op, .int .i64 a, .int .i64 (b : Int), .int .i64 (c : Int)] 44)).alloc (.cells #[.int .i64 0, .int .i64 0] 116)).alloc o).drew (hbW.alloc hbW.size o).drew).2
        have l2 := fun o o' => (HLK.out ((((w.alloc (.cells #[.int .i64 op, .int .i64 a, .int .i64 (b : Int), .int .i64 (c : Int)] 44)).alloc (.cells #[.int .i64 0, .int .i64 0] 116)).alloc o).alloc o').drew ((hbW.alloc hbW.size o).alloc (by simp; omega) o').drew).1
        have m2 := fun o o' => (HLK.out ((((w.alloc (.cells #[.int .i64 op, .int .i64 a, .int .i64 (b : Int), .int .i64 (c : Int)] 44)).alloc (.cells #[.int .i64 0, .int .i64 0] 116)).alloc o).alloc o').drew ((hbW.alloc hbW.size o).alloc (by simp; omega) o').drew).2
        clear hbW HLK
        go_enter Tryd.func64, Tryd.ntmps64
        go_wp2_with fail
        go_region
        all_goals go_wp2
        all_goals refine bodyPost_ret (by simp [results, Tryd.results64, go_sem] <;> rfl) rfl ⟨rfl, (low4 _ _ _ _ _).drew⟩
      · rename_i q
        have hbW := low2 w (.cells #[.int .i64 op, .int .i64 a, .int .i64 (b : Int), .int .i64 (c : Int)] 44) (.cells #[.int .i64 0, .int .i64 0] 116)
        obtain ⟨l0, m0⟩ := HLK.out ((w.alloc (.cells #[.int .i64 op, .int .i64 a, .int .i64 (b : Int), .int .i64 (c : Int)] 44)).alloc (.cells #[.int .i64 0, .int .i64 0] 116)).drew hbW.drew
        have l1 := fun o => (HLK.out (((w.alloc (.cells #[.int .i64 op, .int .i64 a, .int .i64 (b : Int), .int .i64 (c : Int)] 44)).alloc (.cells #[.int .i64 0, .int .i64 0] 116)).alloc o).drew (hbW.alloc hbW.size o).drew).1
        have m1 := fun o => (HLK.out (((w.alloc (.cells #[.int .i64 op, .int .i64 a, .int .i64 (b : Int), .int .i64 (c : Int)] 44)).alloc (.cells #[.int .i64 0, .int .i64 0] 116)).alloc o).drew (hbW.alloc hbW.size o).drew).2
        have l2 := fun o o' => (HLK.out ((((w.alloc (.cells #[.int .i64 op, .int .i64 a, .int .i64 (b : Int), .int .i64 (c : Int)] 44)).alloc (.cells #[.int .i64 0, .int .i64 0] 116)).alloc o).alloc o').drew ((hbW.alloc hbW.size o).alloc (by simp; omega) o').drew).1
        have m2 := fun o o' => (HLK.out ((((w.alloc (.cells #[.int .i64 op, .int .i64 a, .int .i64 (b : Int), .int .i64 (c : Int)] 44)).alloc (.cells #[.int .i64 0, .int .i64 0] 116)).alloc o).alloc o').drew ((hbW.alloc hbW.size o).alloc (by simp; omega) o').drew).2
        clear hbW HLK
        go_enter Tryd.func64, Tryd.ntmps64
        go_wp2_with fail
        go_region
        all_goals go_wp2_with fail
        all_goals refine Calls.mono (HRK.out _ _ _) ?_
        all_goals rintro e w' ⟨rfl, rfl⟩
        all_goals go_wp2_with fail
        all_goals refine Calls.mono (HAL.out _ _) ?_
        all_goals rintro e w5 ⟨rfl, hb5⟩
        all_goals obtain ⟨hq, hbq⟩ := fin_at hb5
        all_goals have q0 := box_cell (i := 0) hq rfl
        all_goals have q1 := box_cell (i := 1) hq rfl
        all_goals have qf := fun i => box_free (i := i) hq
        all_goals have HBQ := Hid.out (p := Hid _) (And.intro hq hbq)
        all_goals clear hb5 hq hbq l0 m0 l1 m1 l2 m2
        all_goals go_wp2
        all_goals have hs := heap_set_same (i := 1) (u := .int .i64 (rcI op k q)) (heap_set_same (i := 0) (u := .int .i64 1) HBQ.out.1)
        all_goals have t0 := box_cell (i := 0) hs rfl
        all_goals have t1 := box_cell (i := 1) hs rfl
        all_goals refine bodyPost_ret (v := .agg #[.int .i64 1, .int .i64 (rcI op k q)]) (by simp [results, Tryd.results64, go_sem, t0, t1]) rfl ⟨rfl, (HBQ.out.2.setCell (by simp) _).setCell (by simp) _⟩
      · have hbW := low2 w (.cells #[.int .i64 op, .int .i64 a, .int .i64 (b : Int), .int .i64 (c : Int)] 44) (.cells #[.int .i64 0, .int .i64 0] 116)
        obtain ⟨l0, m0⟩ := HLK.out ((w.alloc (.cells #[.int .i64 op, .int .i64 a, .int .i64 (b : Int), .int .i64 (c : Int)] 44)).alloc (.cells #[.int .i64 0, .int .i64 0] 116)).drew hbW.drew
        have l1 := fun o => (HLK.out (((w.alloc (.cells #[.int .i64 op, .int .i64 a, .int .i64 (b : Int), .int .i64 (c : Int)] 44)).alloc (.cells #[.int .i64 0, .int .i64 0] 116)).alloc o).drew (hbW.alloc hbW.size o).drew).1
        have m1 := fun o => (HLK.out (((w.alloc (.cells #[.int .i64 op, .int .i64 a, .int .i64 (b : Int), .int .i64 (c : Int)] 44)).alloc (.cells #[.int .i64 0, .int .i64 0] 116)).alloc o).drew (hbW.alloc hbW.size o).drew).2
        have l2 := fun o o' => (HLK.out ((((w.alloc (.cells #[.int .i64 op, .int .i64 a, .int .i64 (b : Int), .int .i64 (c : Int)] 44)).alloc (.cells #[.int .i64 0, .int .i64 0] 116)).alloc o).alloc o').drew ((hbW.alloc hbW.size o).alloc (by simp; omega) o').drew).1
        have m2 := fun o o' => (HLK.out ((((w.alloc (.cells #[.int .i64 op, .int .i64 a, .int .i64 (b : Int), .int .i64 (c : Int)] 44)).alloc (.cells #[.int .i64 0, .int .i64 0] 116)).alloc o).alloc o').drew ((hbW.alloc hbW.size o).alloc (by simp; omega) o').drew).2
        clear hbW HLK
        go_enter Tryd.func64, Tryd.ntmps64
        go_wp2_with fail
        go_region
        all_goals go_wp2
        all_goals refine bodyPost_ret (by simp [results, Tryd.results64, go_sem] <;> rfl) rfl ⟨rfl, (low4 _ _ _ _ _).drew⟩

end Go.Proofs.YtkailbdjilkneaaDoor
