/-
  What the program's Parse does with a text whose program may not be.
-/
import Derived.Test.YthbebnegmenejaaGreatDoorParseB
namespace Go.Proofs.YthbebnegmenejaaGreatDoor
open Go.RowKit

set_option maxRecDepth 100000 in
set_option maxHeartbeats 3200000 in
theorem parse_fault (s : ByteArray) (hl : s.size ≤ 4000) (st : St) (x y z : Int) (HK : Hid (readL s.data.toList = .inr st)) (HC : Hid (chkS st = (x, y, z))) (h0 : (x != 0) = true) (a : Addr) (w : World) (hE : Env w 161 (.pointer (some a))) :
    Calls Tryz.prog 8 #[.string s] w fun e w' => ParseQ w.heap.size s.data.toList e w' ∧ Below w.heap.size w w' := by
  have hi : ¬ (4000 : Int) < (s.size : Int) := by omega
  have hE0 := hE.below (((Below.refl w.heap.size w).alloc (Nat.le_refl _) (.cells #[nilS, nilS, .int .i64 0, .int .i64 0] 25)).alloc (by simp) (.cells #[.int .i64 0, .int .i64 0, .int .i64 0] 29))
  have hB0 := Bx.start w 25 29
  go_enter Tryz.func8, Tryz.ntmps8
  go_wp2_with (first | (go_at_call 20; refine (readLines_any s hl _ _ _ hE0).mono ?_; rintro e w1 ⟨hq, hb1⟩; unfold ReadQ at hq; rw [HK.out] at hq; obtain ⟨cv, wv, tv, B, hBB, rfl, hbt⟩ := hq; obtain ⟨ca, cc, rfl⟩ := owns_slice hbt.code; obtain ⟨wa, wc, rfl⟩ := owns_slice hbt.words; have hB1 := hB0.below hb1; have hlt := hB1.lt; have ea := fun o => ((hE0.below hb1).below ((Below.refl w1.heap.size w1).alloc (Nat.le_refl _) o)).err) | (go_at_call 21; refine (is_nil a _).mono ?_; rintro e w1' ⟨rfl, hw⟩; subst hw) | (go_at_call 10; refine (check_any ca _ cc wa _ wc st.lk st.rg _ _ _ _ x y z HC _ ((hbt.below ((Below.refl w1.heap.size w1).alloc (Nat.le_refl _) _)).pin (readL_sz (by rw [← Lib.size_eq]; exact hl) HK.out).n (readL_sz (by rw [← Lib.size_eq]; exact hl) HK.out).t (Nat.le_refl _))).mono ?_; rintro e w2 ⟨rfl, hb2⟩; have hBa2 := fun o => (hB1.below ((Below.refl w1.heap.size w1).alloc (Nat.le_refl _) _)).below ((hb2.trans (Below.refl _ _)).alloc hb2.size o); have q0 := fun o => ((hb2.alloc hb2.size o).cell (p := ⟨w1.heap.size, 0, none⟩) (by simp)).trans (by simp : _ = some (.slice ca st.ths.length cc)); have q1 := fun o => ((hb2.alloc hb2.size o).cell (p := ⟨w1.heap.size, 1, none⟩) (by simp)).trans (by simp : _ = some (.slice wa st.words.length wc)); have q2 := fun o => ((hb2.alloc hb2.size o).cell (p := ⟨w1.heap.size, 2, none⟩) (by simp)).trans (by simp : _ = some (.int .i64 st.lk)); have q3 := fun o => ((hb2.alloc hb2.size o).cell (p := ⟨w1.heap.size, 3, none⟩) (by simp)).trans (by simp : _ = some (.int .i64 st.rg)); have p0 := fun o => (hBa2 o).p0; have p1 := fun o => (hBa2 o).p1; have p2 := fun o => (hBa2 o).p2; have p3 := fun o => (hBa2 o).p3; have r0 := fun o => (hBa2 o).r0; have r1 := fun o => (hBa2 o).r1; have r2 := fun o => (hBa2 o).r2; have pf := fun o => (hBa2 o).pf; have rf := fun o => (hBa2 o).rf; have hs2 := hb2.size; rw [World.size_alloc] at hs2; clear hBa2))
  have hB' : w.heap.size + 2 ≤ B := by simpa using hBB
  have hW1 : Below w.heap.size w w1 := (((Below.refl _ _).alloc (Nat.le_refl _) _).alloc (by simp) _).trans (hb1.mono (by simp; omega))
  have hW2 : Below w.heap.size w w2 := (hW1.alloc hW1.size _).trans (hb2.mono (hW1.alloc hW1.size _).size)
  go_region
  all_goals go_wp2
  have hx : ¬ x = 0 := by simpa using h0
  have hq : parseL s.data.toList = (st0, (x, y, z)) := by
    unfold parseL
    rw [if_neg (by rw [← Lib.size_eq]; omega), HK.out]
    show (if (chkS st).1 = 0 then _ else _) = _
    rw [HC.out, if_neg hx]
  refine bodyPost_ret (v := .tuple #[.agg #[nilS, nilS, .int .i64 0, .int .i64 0], ints3 x y z]) (by simp [results, Tryz.results8, go_sem, p0, p1, p2, p3, r0, r1, r2]) rfl ⟨?_, ?_⟩
  · unfold ParseQ
    rw [hq]
    exact ⟨nilS, nilS, [], w.heap.size, Nat.le_refl _, rfl, built_start _ _⟩
  · exact ((((((((hW2.alloc hW2.size _).setCell (Nat.le_refl _) _).setCell (Nat.le_refl _) _).setCell (Nat.le_refl _) _).setCell (Nat.le_refl _) _).setCell (Nat.le_succ _) _).setCell (Nat.le_succ _) _).setCell (Nat.le_succ _) _).drew

/-- The program's Parse. -/
theorem parse_any (s : ByteArray) (hm : s.size ≤ 9223372036854775807) (a : Addr) (w : World) (hE : Env w 161 (.pointer (some a))) :
    Calls Tryz.prog 8 #[.string s] w fun e w' => ParseQ w.heap.size s.data.toList e w' ∧ Below w.heap.size w w' := by
  by_cases hl : 4000 < s.size
  · exact parse_long s hl hm w
  · cases hr : readL s.data.toList with
    | inl k => exact parse_bad s (by omega) k hr a w hE
    | inr st =>
      obtain ⟨x, y, z, hc⟩ : ∃ x y z, chkS st = (x, y, z) := ⟨_, _, _, rfl⟩
      cases h0 : (x != 0) with
      | false => exact parse_good s (by omega) st x y z hr hc h0 a w hE
      | true => exact parse_fault s (by omega) st x y z hr hc h0 a w hE

end Go.Proofs.YthbebnegmenejaaGreatDoor
