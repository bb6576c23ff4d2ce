/-
  The program's Run with buffers, of a program that Check does not let pass.
  The program's Run with buffers, of a program that passed Check.
-/
import Derived.Test.YtipdnfpomdcenabPBufK
namespace Go.Proofs.Ytipdnfpomdcenab
section
open Go.RowKit

set_option maxRecDepth 100000 in
set_option maxHeartbeats 3200000 in
theorem trun_no (w : World) (ca : Option Addr) (n cc : Nat) (wa : Option Addr) (m wc : Nat) (lk rg : Int) (A : Nat → Option Addr) (L C : Nat → Nat) (X : Nat → Nat → Nat → Int) (x y z : Int) (HR : Hid (chk n L X m lk rg = (x, y, z))) (hx : (x != 0) = true) (hp : PIn w ca n A L C X) (sa : Option Addr) (sl sc : Nat) :
    Calls Try.prog 6 #[prgV ca n cc wa m wc lk rg, .slice sa sl sc] w fun e w' => e = .returned (.tuple #[.agg #[nilV, .int .i64 0, nilV, .int .i64 0], ints3 x y z]) ∧ Below w.heap.size w w' := by
  have HB : ∀ W, Below w.heap.size w W → PIn W ca n A L C X := fun W hb => hp.below hb
  go_enter Try.func6, Try.ntmps6
  go_wp2_with (fail)
  refine (check_any ca n cc wa m wc lk rg A L C X x y z HR _ (HB _ ((((Below.refl _ _).alloc (Nat.le_refl _) _).alloc (by simp) _).alloc (by simp; omega) _))).mono ?_
  rintro e w1 ⟨rfl, hb1⟩
  have hs1 := hb1.size
  simp only [World.size_alloc] at hs1
  have HB1 : Below w.heap.size w w1 := ((((Below.refl _ _).alloc (Nat.le_refl _) _).alloc (by simp) _).alloc (by simp; omega) _).trans (hb1.mono (by simp; omega))
  obtain ⟨hT, hF⟩ := res_two hb1
  have t0 : ∀ o, (w1.alloc o).cell? ⟨w.heap.size + 1, 0, none⟩ = some nilV := fun o => box_cell (box_later hT o) rfl
  have t1 : ∀ o, (w1.alloc o).cell? ⟨w.heap.size + 1, 1, none⟩ = some (.int .i64 0) := fun o => box_cell (box_later hT o) rfl
  have t2 : ∀ o, (w1.alloc o).cell? ⟨w.heap.size + 1, 2, none⟩ = some nilV := fun o => box_cell (box_later hT o) rfl
  have t3 : ∀ o, (w1.alloc o).cell? ⟨w.heap.size + 1, 3, none⟩ = some (.int .i64 0) := fun o => box_cell (box_later hT o) rfl
  have u0 : ∀ o, (w1.alloc o).cell? ⟨w.heap.size + 1 + 1, 0, none⟩ = some (.int .i64 0) := fun o => box_cell (box_later hF o) rfl
  have u1 : ∀ o, (w1.alloc o).cell? ⟨w.heap.size + 1 + 1, 1, none⟩ = some (.int .i64 0) := fun o => box_cell (box_later hF o) rfl
  have u2 : ∀ o, (w1.alloc o).cell? ⟨w.heap.size + 1 + 1, 2, none⟩ = some (.int .i64 0) := fun o => box_cell (box_later hF o) rfl
  have tf : ∀ o i, (w1.alloc o).frozen? ⟨w.heap.size + 1, i, none⟩ = false := fun o i => box_free (box_later hT o)
  have uf : ∀ o i, (w1.alloc o).frozen? ⟨w.heap.size + 1 + 1, i, none⟩ = false := fun o i => box_free (box_later hF o)
  have n1 : w1.heap.size ≠ w.heap.size + 1 := by omega
  have n2 : w1.heap.size ≠ w.heap.size + 1 + 1 := by omega
  have n3 : w.heap.size + 1 ≠ w1.heap.size := by omega
  have n4 : w.heap.size + 1 + 1 ≠ w1.heap.size := by omega
  clear hb1 hT hF HB
  go_wp2_with (fail)
  go_region
  all_goals go_wp2
  have hB : Below w.heap.size w (w1.alloc (.cells #[.int .i64 x, .int .i64 y, .int .i64 z] 31)) := HB1.alloc HB1.size _
  all_goals refine bodyPost_ret (v := .tuple #[.agg #[nilV, .int .i64 0, nilV, .int .i64 0], ints3 x y z]) (by simp [results, Try.results6, go_sem, t0, t1, t2, t3, u0, u1, u2]) rfl ⟨rfl, ?_⟩
  all_goals exact (((((((hB.setCell (Nat.le_succ _) _).setCell (Nat.le_succ _) _).setCell (Nat.le_succ _) _).setCell (Nat.le_succ _) _).setCell (by show _ ≤ w.heap.size + 1 + 1; omega) _).setCell (by show _ ≤ w.heap.size + 1 + 1; omega) _).setCell (by show _ ≤ w.heap.size + 1 + 1; omega) _).drew
end

section
open Go.RowKit

set_option maxRecDepth 100000 in
set_option maxHeartbeats 6400000 in
theorem trun_yes (w : World) (ca : Option Addr) (n cc : Nat) (wa : Option Addr) (wc lk rg : Nat) (words script : List Int) (sa : Option Addr) (sc : Nat) (A : Nat → Option Addr) (L C : Nat → Nat) (X : Nat → Nat → Nat → Int) (HR : Hid (chk n L X words.length lk rg = (0, 0, 0))) (hp : PIn w ca n A L C X) (hc : COk n L X words.length lk rg) (hn0 : 0 < n) (hsl : script.length ≤ 9223372036854775807) (hw : SIs w wa words) (hnil : wa = none → words = [] ∧ wc = 0) (hsi : SIs w sa script) (hscap : script.length ≤ sc)
    (hsaB : ∀ b o, sa = some ⟨b, o, none⟩ → b < w.heap.size) (hpb : ∀ t b o i, ca = some ⟨b, o, none⟩ → t < n → b < w.heap.size ∧ ∀ b' o', A t = some ⟨b', o', none⟩ → i < L t → b' < w.heap.size) :
    Calls Try.prog 6 #[prgV ca n cc wa words.length wc lk rg, .slice sa script.length sc] w fun e w' => ∃ t, e = .returned (.tuple #[t, ints3 0 0 0]) ∧ TraceR w.heap.size w (runX L X 1 5000 (beginX n words lk rg) 0 script) (.returned t) w' := by
  have HB : ∀ W, Below w.heap.size w W → PIn W ca n A L C X := fun W hb => hp.below hb
  obtain ⟨R, hR⟩ : ∃ R, runX L X 1 5000 (beginX n words lk rg) 0 script = R := ⟨_, rfl⟩
  rw [hR]
  go_enter Try.func6, Try.ntmps6
  go_wp2_with (fail)
  have HB3 := (((Below.refl w.heap.size w).alloc (Nat.le_refl _) (.cells #[.slice ca n cc, .slice wa words.length wc, .int .i64 (lk : Int), .int .i64 (rg : Int)] 25)).alloc (by simp) (.cells #[nilV, .int .i64 0, nilV, .int .i64 0] 28)).alloc (by simp; omega) (.cells #[.int .i64 0, .int .i64 0, .int .i64 0] 31)
  refine (check_any ca n cc wa words.length wc lk rg A L C X 0 0 0 HR _ (HB _ HB3)).mono ?_
  rintro e w1 ⟨rfl, hb1⟩
  have hs1 := hb1.size
  simp only [World.size_alloc] at hs1
  have HB1 : Below w.heap.size w w1 := HB3.trans (hb1.mono (by simp; omega))
  obtain ⟨hT, hF⟩ := res_two hb1
  have p0 : w1.cell? ⟨w.heap.size, 0, none⟩ = some (.slice ca n cc) := (hb1.cell (p := ⟨w.heap.size, 0, none⟩) (by simp; omega)).trans (by go_simp)
  have p1 : w1.cell? ⟨w.heap.size, 1, none⟩ = some (.slice wa words.length wc) := (hb1.cell (p := ⟨w.heap.size, 1, none⟩) (by simp; omega)).trans (by go_simp)
  have p2 : w1.cell? ⟨w.heap.size, 2, none⟩ = some (.int .i64 (lk : Int)) := (hb1.cell (p := ⟨w.heap.size, 2, none⟩) (by simp; omega)).trans (by go_simp)
  have p3 : w1.cell? ⟨w.heap.size, 3, none⟩ = some (.int .i64 (rg : Int)) := (hb1.cell (p := ⟨w.heap.size, 3, none⟩) (by simp; omega)).trans (by go_simp)
  have HNEW : Hid (∀ W, Below w.heap.size w W → Calls Try.prog 17 #[prgV ca n cc wa words.length wc lk rg] W fun e w' => ∃ bb mb v, e = .returned (.pointer (some ⟨bb, 0, none⟩)) ∧ MemQ ⟨A, L, C, bufK, bb, n⟩ W w' mb v words lk) := fun W hb => (newBuffered_any W ca n cc wa wc lk rg words (hw.below hb) hnil hc.m64 hc.lk4 hc.n4).mono fun e w' ⟨bb, mb, v, h1, h2⟩ => ⟨bb, mb, v, h1, h2 A L C⟩
  have HPLAY : Hid (∀ W w' bb mb v, Below w.heap.size w W → MemQ ⟨A, L, C, bufK, bb, n⟩ W w' mb v words lk → Calls Try.prog 16 #[prgV ca n cc wa words.length wc lk rg, .iface 43 (.pointer (some ⟨bb, 0, none⟩)), .slice sa script.length sc] w' (TraceR W.heap.size w' (runX L X 1 5000 (beginX n words lk rg) 0 script))) := fun W w' bb mb v hb hm =>
    play_any W w' ca n cc wa wc lk rg mb v words script sa sc ⟨A, L, C, bufK, bb, n⟩ X buf_law rfl hm (hp.below (hb.trans (hm.below.mono hb.size))) hc hn0 hsl (hsi.below (hb.trans (hm.below.mono hb.size))) hscap (fun b o e => Nat.lt_of_lt_of_le (hsaB b o e) hb.size) (fun t b o i e ht => ⟨Nat.lt_of_lt_of_le (hpb t b o i e ht).1 hb.size, fun b' o' e' hi => Nat.lt_of_lt_of_le ((hpb t b o i e ht).2 b' o' e' hi) hb.size⟩)
  rw [hR] at HPLAY
  clear hb1 hp hc hn0 hsl hw hnil hsi hscap hsaB hpb HR HB hR HB3
  go_wp2_with (fail)
  have q0 := cell_up p0 (.cells #[.int .i64 0, .int .i64 0, .int .i64 0] 31)
  have q1 := cell_up p1 (.cells #[.int .i64 0, .int .i64 0, .int .i64 0] 31)
  have q2 := cell_up p2 (.cells #[.int .i64 0, .int .i64 0, .int .i64 0] 31)
  have q3 := cell_up p3 (.cells #[.int .i64 0, .int .i64 0, .int .i64 0] 31)
  have hT2 := box_later hT (.cells #[.int .i64 0, .int .i64 0, .int .i64 0] 31)
  have hF2 := box_later hF (.cells #[.int .i64 0, .int .i64 0, .int .i64 0] 31)
  have HB2 : Below w.heap.size w (w1.alloc (.cells #[.int .i64 0, .int .i64 0, .int .i64 0] 31)) := HB1.alloc HB1.size _
  have hs2 : w.heap.size + 1 + 1 + 1 ≤ (w1.alloc (.cells #[.int .i64 0, .int .i64 0, .int .i64 0] 31)).heap.size := by simp; omega
  obtain ⟨W2, hW2⟩ : ∃ W2, w1.alloc (.cells #[.int .i64 0, .int .i64 0, .int .i64 0] 31) = W2 := ⟨_, rfl⟩
  rw [hW2] at q0 q1 q2 q3 hT2 hF2 HB2 hs2
  have H2 := Hid.out (p := Hid _) HB2
  have HBX := Hid.out (p := Hid _) (And.intro hT2 hF2)
  clear p0 p1 p2 p3 HB1 hs1 hT hF hT2 hF2 HB2
  rw [hW2]
  clear hW2
  go_region_held3 (fun w' => w'.cell? ⟨w.heap.size, 0, none⟩ = some (.slice ca n cc) ∧ w'.cell? ⟨w.heap.size, 1, none⟩ = some (.slice wa words.length wc) ∧ w'.cell? ⟨w.heap.size, 2, none⟩ = some (.int .i64 (lk : Int)) ∧ w'.cell? ⟨w.heap.size, 3, none⟩ = some (.int .i64 (rg : Int))) (refine ⟨?_, ?_, ?_, ?_⟩ <;> (repeat (first | with_reducible assumption | with_reducible refine cell_drw ?_ | with_reducible refine cell_off ?_ (by first | (show w.heap.size ≠ w.heap.size + 1; omega) | (show w.heap.size ≠ w.heap.size + 1 + 1; omega))))) (first | (go_at_call 17; refine Calls.mono (HNEW.out _ H2.out.drew) ?_; rintro e w3 ⟨bb, mb, v, rfl, hm⟩; have z0 : w3.cell? ⟨w.heap.size, 0, none⟩ = _ := (hm.below.cell (lt_of_cell q0)).trans q0; have z1 : w3.cell? ⟨w.heap.size, 1, none⟩ = _ := (hm.below.cell (lt_of_cell q1)).trans q1; have z2 : w3.cell? ⟨w.heap.size, 2, none⟩ = _ := (hm.below.cell (lt_of_cell q2)).trans q2; have z3 : w3.cell? ⟨w.heap.size, 3, none⟩ = _ := (hm.below.cell (lt_of_cell q3)).trans q3; have HM := Hid.out (p := Hid _) hm; clear hm) | (go_at_call 16; refine Calls.mono (HPLAY.out _ _ _ _ _ H2.out.drew HM.out) ?_; rintro e w4 ⟨pa, pl, pc, va, vl, vc, rfl, hI1, hI2, hb4⟩; have hT4 : w4.heap[w.heap.size + 1]? = _ := (hb4.block _ (by show _ < W2.heap.size; omega)).trans ((HM.out.below.block _ (by show _ < W2.heap.size; omega)).trans HBX.out.1); have hF4 : w4.heap[w.heap.size + 1 + 1]? = _ := (hb4.block _ (by show _ < W2.heap.size; omega)).trans ((HM.out.below.block _ (by show _ < W2.heap.size; omega)).trans HBX.out.2); have t0 : w4.cell? ⟨w.heap.size + 1, 0, none⟩ = some nilV := box_cell hT4 rfl; have t1 : w4.cell? ⟨w.heap.size + 1, 1, none⟩ = some (.int .i64 0) := box_cell hT4 rfl; have t2 : w4.cell? ⟨w.heap.size + 1, 2, none⟩ = some nilV := box_cell hT4 rfl; have t3 : w4.cell? ⟨w.heap.size + 1, 3, none⟩ = some (.int .i64 0) := box_cell hT4 rfl; have u0 : w4.cell? ⟨w.heap.size + 1 + 1, 0, none⟩ = some (.int .i64 0) := box_cell hF4 rfl; have u1 : w4.cell? ⟨w.heap.size + 1 + 1, 1, none⟩ = some (.int .i64 0) := box_cell hF4 rfl; have u2 : w4.cell? ⟨w.heap.size + 1 + 1, 2, none⟩ = some (.int .i64 0) := box_cell hF4 rfl; have tf : ∀ i, w4.frozen? ⟨w.heap.size + 1, i, none⟩ = false := fun i => box_free hT4; have uf : ∀ i, w4.frozen? ⟨w.heap.size + 1 + 1, i, none⟩ = false := fun i => box_free hF4; have y0 := (hb4.cell (p := ⟨w.heap.size, 0, none⟩) (by show w.heap.size < W2.heap.size; omega)).trans z0; have y1 := (hb4.cell (p := ⟨w.heap.size, 1, none⟩) (by show w.heap.size < W2.heap.size; omega)).trans z1; have y2 := (hb4.cell (p := ⟨w.heap.size, 2, none⟩) (by show w.heap.size < W2.heap.size; omega)).trans z2; have y3 := (hb4.cell (p := ⟨w.heap.size, 3, none⟩) (by show w.heap.size < W2.heap.size; omega)).trans z3; have HB4 := Hid.out (p := Hid _) hb4; have HT4 := Hid.out (p := Hid _) (And.intro hT4 hF4); clear hb4 hT4 hF4))
  all_goals go_wp2
  have hB : Below w.heap.size w w4 := (H2.out.drew.trans (HM.out.below.mono H2.out.size)).trans (HB4.out.mono H2.out.size)
  have hle : w.heap.size ≤ W2.drew.heap.size := H2.out.size
  have hk : ∀ (a0 a1 a2 a3 b0 b1 b2 : Value) (j : Nat), j ≠ w.heap.size + 1 → j ≠ w.heap.size + 1 + 1 → (((((((w4.setCell ⟨w.heap.size + 1, 0, none⟩ a0).setCell ⟨w.heap.size + 1, 1, none⟩ a1).setCell ⟨w.heap.size + 1, 2, none⟩ a2).setCell ⟨w.heap.size + 1, 3, none⟩ a3).setCell ⟨w.heap.size + 1 + 1, 0, none⟩ b0).setCell ⟨w.heap.size + 1 + 1, 1, none⟩ b1).setCell ⟨w.heap.size + 1 + 1, 2, none⟩ b2).heap[j]? = w4.heap[j]? := fun a0 a1 a2 a3 b0 b1 b2 j h1 h2 => by
    rw [Below.heap_setCell _ _ _ _ h2, Below.heap_setCell _ _ _ _ h2, Below.heap_setCell _ _ _ _ h2, Below.heap_setCell _ _ _ _ h1, Below.heap_setCell _ _ _ _ h1, Below.heap_setCell _ _ _ _ h1, Below.heap_setCell _ _ _ _ h1]
  refine bodyPost_ret (v := .tuple #[.agg #[.slice pa pl pc, .int .i64 R.2.1, .slice va vl vc, .int .i64 (R.2.2 : Int)], ints3 0 0 0]) (by simp [results, Try.results6, go_sem, t0, t1, t2, t3, u0, u1, u2]) rfl ⟨_, rfl, pa, pl, pc, va, vl, vc, rfl, hI1.keep hle HT4.out.1 HT4.out.2 (hk _ _ _ _ _ _ _), hI2.keep hle HT4.out.1 HT4.out.2 (hk _ _ _ _ _ _ _), ?_⟩
  exact ((((((hB.setCell (Nat.le_succ _) _).setCell (Nat.le_succ _) _).setCell (Nat.le_succ _) _).setCell (Nat.le_succ _) _).setCell (by show _ ≤ w.heap.size + 1 + 1; omega) _).setCell (by show _ ≤ w.heap.size + 1 + 1; omega) _).setCell (by show _ ≤ w.heap.size + 1 + 1; omega) _
end

end Go.Proofs.Ytipdnfpomdcenab
