/-
  The law of programs without clashes, by the program's own machines.
-/
import Derived.Test.YtipdnfpomdcenacGreatDoorVastT
import Derived.Deep.RegionHeld3
namespace Go.Proofs.YtipdnfpomdcenacGreatDoor
open Go.RowKit

set_option maxRecDepth 100000 in
set_option maxHeartbeats 6400000 in
theorem topFree_walk (w : World) (ca : Option Addr) (n cc : Nat) (wa : Option Addr) (m wc : Nat) (lk rg : Int)
    (HV : Hid (∀ W, Below w.heap.size w W → Calls Tryz.prog 9 #[.agg #[.slice ca n cc, .slice wa m wc, .int .i64 lk, .int .i64 rg]] W fun e w' => ∃ b, e = .returned (.bool b) ∧ Below W.heap.size W w'))
    (HLIT : Hid (∀ V, Below w.heap.size w V → Calls Tryz.prog 6 #[.agg #[.slice (some ⟨V.heap.size + 1 + 1, 0, none⟩) 2 2, .slice (some ⟨V.heap.size + 1 + 1 + 1, 0, none⟩) 1 1, .int .i64 0, .int .i64 1]] ((((V.alloc (.cells #[.int .i64 9, .int .i64 0, .int .i64 0, .int .i64 0] 34)).alloc (.cells #[.int .i64 8, .int .i64 0, .int .i64 0, .int .i64 0] 34)).alloc (.cells #[.slice (some ⟨V.heap.size, 0, none⟩) 1 1, .slice (some ⟨V.heap.size + 1, 0, none⟩) 1 1] 35)).alloc (.cells #[.int .i64 0] 3)) fun e w' => ∃ a cap, e = .returned (.tuple #[.slice a 1 cap, ints3 0 0 0]) ∧ Below V.heap.size V w'))
    (HFP : Hid (∀ W, Below w.heap.size w W → Calls Tryz.prog 6 #[.agg #[.slice ca n cc, .slice wa m wc, .int .i64 lk, .int .i64 rg]] W fun e w' => ∃ (a : Option Addr) (k cap : Nat) (x y z : Int), e = .returned (.tuple #[.slice a k cap, ints3 x y z]) ∧ Hid (TopQ w (.agg #[.slice ca n cc, .slice wa m wc, .int .i64 lk, .int .i64 rg]) k x ∧ Below W.heap.size W w'))) :
    Calls Tryz.prog 4 #[prgV ca n cc wa m wc lk rg] w fun e w' => e = .returned (.bool true) ∧ Below w.heap.size w w' := by
  obtain ⟨PB, hPB⟩ : ∃ o : Obj, o = .cells #[.slice ca n cc, .slice wa m wc, .int .i64 lk, .int .i64 rg] 25 := ⟨_, rfl⟩
  have hb0 : Below w.heap.size w (w.alloc PB) := (Below.refl _ _).alloc (Nat.le_refl _) _
  have hp0 : (w.alloc PB).heap[w.heap.size]? = some PB := heap_alloc_new _ _
  have HAT : Hid (∀ V, Below (w.alloc PB).heap.size (w.alloc PB) V → Below w.heap.size w V ∧ V.cell? ⟨w.heap.size, 0, none⟩ = some (.slice ca n cc) ∧ V.cell? ⟨w.heap.size, 1, none⟩ = some (.slice wa m wc) ∧ V.cell? ⟨w.heap.size, 2, none⟩ = some (.int .i64 lk) ∧ V.cell? ⟨w.heap.size, 3, none⟩ = some (.int .i64 rg)) := fun V hb => by
    have e1 := (hb.block w.heap.size (by simp)).trans hp0
    rw [hPB] at e1
    exact ⟨hb0.trans (hb.mono hb0.size), box_cell e1 rfl, box_cell e1 rfl, box_cell e1 rfl, box_cell e1 rfl⟩
  obtain ⟨W0, hW0⟩ : ∃ V, w.alloc PB = V := ⟨_, rfl⟩
  have HW0 : Hid (w.alloc (.cells #[.slice ca n cc, .slice wa m wc, .int .i64 lk, .int .i64 rg] 25) = W0) := by rw [← hW0, hPB]; exact rfl
  have hz0 : W0.heap.size = w.heap.size + 1 := by rw [← hW0]; simp
  have HB0 : Hid (Below w.heap.size w W0) := by rw [← hW0]; exact hb0
  rw [hW0] at HAT
  have HL0 := HLIT.out W0 HB0.out
  rw [hz0] at HL0
  have HL := Hid.out (p := Hid _) HL0
  clear hPB hb0 hp0 hW0 HL0 HLIT
  go_enter Tryz.func4, Tryz.ntmps4
  go_wp2_with fail
  rw [HW0.out]
  refine Calls.mono HL.out ?_
  rintro e w2 ⟨a1, c1, rfl, hb2⟩
  have hb02 : Below W0.heap.size W0 w2 := by rw [hz0]; exact hb2
  obtain ⟨hw2, p0, p1, p2, p3⟩ := HAT.out w2 hb02
  have H2 : Hid (Below W0.heap.size W0 w2 ∧ Below w.heap.size w w2) := ⟨hb02, hw2⟩
  have q0 := cell_up p0
  have q1 := cell_up p1
  have q2 := cell_up p2
  have q3 := cell_up p3
  clear hb02 hw2 hb2 HL HW0
  go_wp2_with fail
  have hbf : Below w.heap.size w (w2.alloc (.cells #[.int .i64 0, .int .i64 0, .int .i64 0] 30)) := H2.out.2.alloc H2.out.2.size _
  have hbf0 : Below W0.heap.size W0 (w2.alloc (.cells #[.int .i64 0, .int .i64 0, .int .i64 0] 30)) := H2.out.1.alloc H2.out.1.size _
  have hV := HV.out _ hbf
  refine Calls.mono hV ?_
  rintro e w3 ⟨b, rfl, hb3⟩
  have hF3 : w3.heap[w2.heap.size]? = some (.cells #[.int .i64 0, .int .i64 0, .int .i64 0] 30) := (hb3.block _ (by simp)).trans (heap_alloc_new _ _)
  have hz2 : w.heap.size < w2.heap.size := by have h := H2.out.1.size; omega
  have hb03 : Below W0.heap.size W0 w3 := hbf0.trans (hb3.mono hbf0.size)
  clear p0 p1 p2 p3 q0 q1 q2 q3
  obtain ⟨hw3, p0, p1, p2, p3⟩ := HAT.out w3 hb03
  have H3 : Hid (Below W0.heap.size W0 w3 ∧ Below w.heap.size w w3 ∧ w3.heap[w2.heap.size]? = some (.cells #[.int .i64 0, .int .i64 0, .int .i64 0] 30)) := ⟨hb03, hw3, hF3⟩
  clear hV hbf hbf0 hb3 hF3 hb03 hw3 HV
  cases b with
  | true =>
    go_wp2_with fail
    go_ret
    exact ⟨rfl, H3.out.2.1⟩
  | false =>
    go_wp2_with fail
    have h4 := HFP.out _ H3.out.2.1
    refine Calls.mono h4 ?_
    rintro e w4 ⟨a2, k, c2, x, y, z, rfl, HF⟩
    have hF : w4.heap[w2.heap.size]? = some (.cells #[.int .i64 0, .int .i64 0, .int .i64 0] 30) := (HF.out.2.block _ (box_lt H3.out.2.2)).trans H3.out.2.2
    have f0 : w4.cell? ⟨w2.heap.size, 0, none⟩ = some (.int .i64 0) := box_cell hF rfl
    have f1 : w4.cell? ⟨w2.heap.size, 1, none⟩ = some (.int .i64 0) := box_cell hF rfl
    have f2 : w4.cell? ⟨w2.heap.size, 2, none⟩ = some (.int .i64 0) := box_cell hF rfl
    have ff : ∀ i, w4.frozen? ⟨w2.heap.size, i, none⟩ = false := fun i => box_free hF
    have hb04 : Below W0.heap.size W0 w4 := H3.out.1.trans (HF.out.2.mono H3.out.1.size)
    clear p0 p1 p2 p3
    obtain ⟨hw4, p0, p1, p2, p3⟩ := HAT.out w4 hb04
    have hn : w.heap.size ≠ w2.heap.size := by omega
    have H4 : Hid (∀ x y z, Below w.heap.size w (((w4.setCell ⟨w2.heap.size, 0, none⟩ x).setCell ⟨w2.heap.size, 1, none⟩ y).setCell ⟨w2.heap.size, 2, none⟩ z)) := fun x y z => ((hw4.setCell (Nat.le_of_lt hz2) _).setCell (Nat.le_of_lt hz2) _).setCell (Nat.le_of_lt hz2) _
    have H4f : Hid (∀ x y z, (((w4.setCell ⟨w2.heap.size, 0, none⟩ x).setCell ⟨w2.heap.size, 1, none⟩ y).setCell ⟨w2.heap.size, 2, none⟩ z).cell? ⟨w2.heap.size, 0, none⟩ = some x) := fun x y z => by simp [go_sem, cell_set, f0]
    have HTQ := Hid.out (p := Hid _) HF.out.1
    clear h4 hF hb04 hw4 HF H3 HFP
    go_wp2_with fail
    refine Calls.mono (HTQ.out _ (H4.out _ _ _)) ?_
    rintro e w5 ⟨r, x2, y2, z2, rfl, HR⟩
    have g0 : w5.cell? ⟨w2.heap.size, 0, none⟩ = some (.int .i64 x) := (HR.out.2.2.cell (lt_of_cell (H4f.out _ _ _))).trans (H4f.out _ _ _)
    have H5 : Hid (Below w.heap.size w w5 ∧ (x = 0 → x2 = 0 → k = 0 → r = true) ∧ (¬ (x = 0 ∧ x2 = 0) → r = false)) := ⟨(H4.out _ _ _).trans (HR.out.2.2.mono (H4.out _ _ _).size), HR.out.1, HR.out.2.1⟩
    have hz5 : w2.heap.size < w5.heap.size := lt_of_cell g0
    clear HR HTQ H4 H4f f0 f1 f2 ff p0 p1 p2 p3
    by_cases hx : x = 0
    · subst hx
      by_cases hx2 : x2 = 0
      · subst hx2
        by_cases hk : k = 0
        · obtain rfl : r = true := H5.out.2.1 rfl rfl hk
          subst hk
          go_wp2_with fail
          go_ret
          exact ⟨rfl, H5.out.1.alloc H5.out.1.size _⟩
        · have hk' : (0 : Int) < (k : Int) := by omega
          go_wp2_with fail
          go_ret
          exact ⟨rfl, H5.out.1.alloc H5.out.1.size _⟩
      · obtain rfl : r = false := H5.out.2.2 (fun h => hx2 h.2)
        have hx' : (x2 != 0) = true := by simpa using hx2
        go_wp2
        go_ret
        exact ⟨rfl, H5.out.1.alloc H5.out.1.size _⟩
    · obtain rfl : r = false := H5.out.2.2 (fun h => hx h.1)
      have hx' : (x != 0) = true := by simpa using hx
      go_wp2
      go_ret
      exact ⟨rfl, H5.out.1.alloc H5.out.1.size _⟩

theorem topFree_any (w : World) (ca : Option Addr) (n cc : Nat) (wa : Option Addr) (wc : Nat) (lk rg : Int) (words : List Int) (A : Nat → Option Addr) (L C : Nat → Nat) (X : Nat → Nat → Nat → Int) (hm : words.length ≤ 9223372036854775807) (hp : PIn w ca n A L C X) (hw : SIs w wa words) (hnil : wa = none → words = [] ∧ wc = 0) (hfit : ∀ t i, t < n → i < L t → I64n (X t i 2)) (hwf : ∀ x, x ∈ words → I64n x) (htab : TabB w.heap.size w) :
    Calls Tryz.prog 4 #[prgV ca n cc wa words.length wc lk rg] w fun e w' => e = .returned (.bool true) ∧ Below w.heap.size w w' := by
  have HV : Hid (∀ W, Below w.heap.size w W → Calls Tryz.prog 9 #[prgV ca n cc wa words.length wc lk rg] W fun e w' => ∃ b, e = .returned (.bool b) ∧ Below W.heap.size W w') := fun W hb => (vastT_any ca n cc wa words.length wc lk rg A L C X hm W (hp.below hb)).mono fun e w' ⟨⟨b, h1⟩, h2⟩ => ⟨b, h1, h2⟩
  have HLIT : Hid (∀ V, Below w.heap.size w V → Calls Tryz.prog 6 #[.agg #[.slice (some ⟨V.heap.size + 1 + 1, 0, none⟩) 2 2, .slice (some ⟨V.heap.size + 1 + 1 + 1, 0, none⟩) 1 1, .int .i64 0, .int .i64 1]] ((((V.alloc (.cells #[.int .i64 9, .int .i64 0, .int .i64 0, .int .i64 0] 34)).alloc (.cells #[.int .i64 8, .int .i64 0, .int .i64 0, .int .i64 0] 34)).alloc (.cells #[.slice (some ⟨V.heap.size, 0, none⟩) 1 1, .slice (some ⟨V.heap.size + 1, 0, none⟩) 1 1] 35)).alloc (.cells #[.int .i64 0] 3)) fun e w' => ∃ a cap, e = .returned (.tuple #[.slice a 1 cap, ints3 0 0 0]) ∧ Below V.heap.size V w') := fun V hb => by
    have hl := lit_lay V
    obtain ⟨U, hU⟩ : ∃ U, U = ((((V.alloc (.cells #[.int .i64 9, .int .i64 0, .int .i64 0, .int .i64 0] 34)).alloc (.cells #[.int .i64 8, .int .i64 0, .int .i64 0, .int .i64 0] 34)).alloc (.cells #[.slice (some ⟨V.heap.size, 0, none⟩) 1 1, .slice (some ⟨V.heap.size + 1, 0, none⟩) 1 1] 35)).alloc (.cells #[.int .i64 0] 3)) := ⟨_, rfl⟩
    have hbU : Below V.heap.size V U := by rw [hU]; exact ((((Below.refl _ _).alloc (Nat.le_refl _) _).alloc (by simp) _).alloc (by simp; omega) _).alloc (by simp; omega) _
    rw [← hU] at hl ⊢
    refine Calls.mono (find_litAt U _ _ 2 1 hl (htab.up (hb.trans (hbU.mono hb.size)))) ?_
    rintro e w' ⟨a, cap, he, hb'⟩
    exact ⟨a, cap, he, hbU.trans (hb'.mono hbU.size)⟩
  have HFP : Hid (∀ W, Below w.heap.size w W → Calls Tryz.prog 6 #[prgV ca n cc wa words.length wc lk rg] W fun e w' => ∃ (a : Option Addr) (k cap : Nat) (x y z : Int), e = .returned (.tuple #[.slice a k cap, ints3 x y z]) ∧ Hid (TopQ w (prgV ca n cc wa words.length wc lk rg) k x ∧ Below W.heap.size W w')) := fun W hb => find_top w ca n cc wa wc lk rg words A L C X hp hw hnil hfit hwf htab W hb
  exact topFree_walk w ca n cc wa words.length wc lk rg HV HLIT HFP

end Go.Proofs.YtipdnfpomdcenacGreatDoor
