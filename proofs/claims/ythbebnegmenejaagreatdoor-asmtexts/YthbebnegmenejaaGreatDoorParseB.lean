/-
  What the program's Parse does with a text whose lines can be so.
-/
import Derived.Test.YthbebnegmenejaaGreatDoorParseA
namespace Go.Proofs.YthbebnegmenejaaGreatDoor
open Go.RowKit

set_option maxRecDepth 100000 in
set_option maxHeartbeats 3200000 in
theorem parse_good (s : ByteArray) (hl : s.size ≤ 4000) (st : St) (x y z : Int) (HK : Hid (readL s.data.toList = .inr st)) (HC : Hid (chkS st = (x, y, z))) (h0 : (x != 0) = false) (a : Addr) (w : World) (hE : Env w 161 (.pointer (some a))) :
    Calls Tryz.prog 8 #[.string s] w fun e w' => ParseQ w.heap.size s.data.toList e w' ∧ Below w.heap.size w w' := by
  have hi : ¬ (4000 : Int) < (s.size : Int) := by omega
  have hE0 := hE.below (((Below.refl w.heap.size w).alloc (Nat.le_refl _) (.cells #[nilS, nilS, .int .i64 0, .int .i64 0] 25)).alloc (by simp) (.cells #[.int .i64 0, .int .i64 0, .int .i64 0] 29))
  have hB0 := Bx.start w 25 29
  go_enter Tryz.func8, Tryz.ntmps8
  go_wp2_with (first | (go_at_call 20; refine (readLines_any s hl _ _ _ hE0).mono ?_; rintro e w1 ⟨hq, hb1⟩; unfold ReadQ at hq; rw [HK.out] at hq; obtain ⟨cv, wv, tv, B, hBB, rfl, hbt⟩ := hq; obtain ⟨ca, cc, rfl⟩ := owns_slice hbt.code; obtain ⟨wa, wc, rfl⟩ := owns_slice hbt.words; have hB1 := hB0.below hb1; have hlt := hB1.lt; have ea := fun o => ((hE0.below hb1).below ((Below.refl w1.heap.size w1).alloc (Nat.le_refl _) o)).err) | (go_at_call 21; refine (is_nil a _).mono ?_; rintro e w1' ⟨rfl, hw⟩; subst hw) | (go_at_call 10; refine (check_any ca _ cc wa _ wc st.lk st.rg _ _ _ _ x y z HC _ ((hbt.below ((Below.refl w1.heap.size w1).alloc (Nat.le_refl _) _)).pin (readL_sz (by rw [← Lib.size_eq]; exact hl) HK.out).n (readL_sz (by rw [← Lib.size_eq]; exact hl) HK.out).t (Nat.le_refl _))).mono ?_; rintro e w2 ⟨rfl, hb2⟩; have hBa2 := fun o => (hB1.below ((Below.refl w1.heap.size w1).alloc (Nat.le_refl _) _)).below ((hb2.trans (Below.refl _ _)).alloc hb2.size o); have q0 := fun o => ((hb2.alloc hb2.size o).cell (p := ⟨w1.heap.size, 0, none⟩) (by simp)).trans (by simp : _ = some (.slice ca st.ths.length cc)); have q1 := fun o => ((hb2.alloc hb2.size o).cell (p := ⟨w1.heap.size, 1, none⟩) (by simp)).trans (by simp : _ = some (.slice wa st.words.length wc)); have q2 := fun o => ((hb2.alloc hb2.size o).cell (p := ⟨w1.heap.size, 2, none⟩) (by simp)).trans (by simp : _ = some (.int .i64 st.lk)); have q3 := fun o => ((hb2.alloc hb2.size o).cell (p := ⟨w1.heap.size, 3, none⟩) (by simp)).trans (by simp : _ = some (.int .i64 st.rg)); have p0 := fun o => (hBa2 o).p0; have p1 := fun o => (hBa2 o).p1; have p2 := fun o => (hBa2 o).p2; have p3 := fun o => (hBa2 o).p3; have r0 := fun o => (hBa2 o).r0; have r1 := fun o => (hBa2 o).r1; have r2 := fun o => (hBa2 o).r2; have pf := fun o => (hBa2 o).pf; have rf := fun o => (hBa2 o).rf; have hs2 := hb2.size; rw [World.size_alloc] at hs2; clear hBa2))
  have hB' : w.heap.size + 2 ≤ B := by simpa using hBB
  have hW1 : Below w.heap.size w w1 := (((Below.refl _ _).alloc (Nat.le_refl _) _).alloc (by simp) _).trans (hb1.mono (by simp; omega))
  have hW2 : Below w.heap.size w w2 := (hW1.alloc hW1.size _).trans (hb2.mono (hW1.alloc hW1.size _).size)
  have hx : x = 0 := by simpa using h0
  have hq : parseL s.data.toList = (st, (0, 0, 0)) := by
    unfold parseL
    rw [if_neg (by rw [← Lib.size_eq]; omega), HK.out]
    show (if (chkS st).1 = 0 then _ else _) = _
    rw [HC.out, if_pos hx]
  refine bodyPost_ret (v := .tuple #[.agg #[.slice ca st.ths.length cc, .slice wa st.words.length wc, .int .i64 st.lk, .int .i64 st.rg], ints3 0 0 0]) (by simp [results, Tryz.results8, go_sem, p0, p1, p2, p3, r0, r1, r2]) rfl ⟨?_, ?_⟩
  · unfold ParseQ
    rw [hq]
    refine ⟨_, _, tv, B, by omega, rfl, ?_⟩
    have hb := ((hbt.below ((Below.refl w1.heap.size w1).alloc (Nat.le_refl _) _)).below hb2).below ((Below.refl w2.heap.size w2).alloc (Nat.le_refl _) (.cells #[.int .i64 x, .int .i64 y, .int .i64 z] 29))
    exact ((((((hb.store (show w.heap.size < _ by omega) _).store (show w.heap.size < _ by omega) _).store (show w.heap.size < _ by omega) _).store (show w.heap.size < _ by omega) _).store (show w.heap.size + 1 < _ by omega) _).store (show w.heap.size + 1 < _ by omega) _).store (show w.heap.size + 1 < _ by omega) _
  · exact (((((((hW2.alloc hW2.size _).setCell (Nat.le_refl _) _).setCell (Nat.le_refl _) _).setCell (Nat.le_refl _) _).setCell (Nat.le_refl _) _).setCell (Nat.le_succ _) _).setCell (Nat.le_succ _) _).setCell (Nat.le_succ _) _

end Go.Proofs.YthbebnegmenejaaGreatDoor
