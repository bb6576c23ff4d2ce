/-
  The law of Parse.
-/
import Derived.Test.YthbebnegmenejaaDoorParseC
import Derived.Test.YthbebnegmenejaaDoorRParse
import Derived.Test.YthbebnegmenejaaDoorSameA
namespace Go.Proofs.YthbebnegmenejaaDoor
open Go.RowKit

/-- The document's Parse. -/
theorem rparse_any (s : ByteArray) (hm : s.size ≤ 9223372036854775807) (w : World) :
    Calls Tryd.prog 6 #[.string s] w fun e w' => ParseQ w.heap.size s.data.toList e w' ∧ Below w.heap.size w w' := by
  by_cases hl : 4000 < s.size
  · exact rparse_long s hl hm w
  · exact rparse_short s (by omega) w

theorem parseL_sz (l : List UInt8) : Sz 4001 (parseL l).1 := by
  have h0 : Sz 4001 st0 := ⟨Nat.zero_le _, fun t => by simp [st0]⟩
  unfold parseL
  split
  · exact h0
  · rename_i hl
    split
    · exact h0
    · rename_i st h
      split
      · exact readL_sz (by omega) h
      · exact h0

theorem IIn.of_owns {w : World} {B : Nat} {e : TypeId} {a : Option Addr} {c : Nat} {vs : List Int} (h : w.ownsRow B e 1 (.slice a vs.length c) vs.length (vs.map (Value.int .i64))) : IIn w a vs.length (fun i => vs.getD i 0) ∧ vs.length ≤ 9223372036854775807 := by
  rcases h.2 with ⟨_, h1⟩ | ⟨g, cp, cur, hv, _, _, h2, h3, _⟩
  · exact ⟨fun i hi => by omega, by omega⟩
  · simp only [Value.slice.injEq] at hv
    obtain ⟨rfl, _, rfl⟩ := hv
    refine ⟨fun i hi => ⟨g, 0, rfl, ?_⟩, by unfold maxLen at h3; omega⟩
    rw [Nat.zero_add, h.cellAt i (by omega)]
    simp [List.getElem?_eq_getElem hi, List.getD]

theorem cell_two {w : World} {a : Addr} {v : Value} (h : w.cell? a = some v) (o1 o2 : Obj) : ((w.alloc o1).alloc o2).cell? a = some v :=
  (World.cell?_alloc_lt _ _ _ (by have := lt_of_cell h; simp; omega)).trans ((World.cell?_alloc_lt _ _ _ (lt_of_cell h)).trans h)

set_option maxRecDepth 100000 in
set_option maxHeartbeats 3200000 in
theorem asmParses_any (s : ByteArray) (hm : s.size ≤ 9223372036854775807) (a : Addr) (w : World) (hE : Env w 164 (.pointer (some a))) :
    Calls Tryd.prog 3 #[.string s] w fun e w' => e = .returned (.bool true) ∧ Below w.heap.size w w' := by
  obtain ⟨st, x, y, z, hq⟩ : ∃ st x y z, parseL s.data.toList = (st, (x, y, z)) := ⟨_, _, _, _, rfl⟩
  have HZ : Hid (Sz 4001 st) := by
    have := parseL_sz s.data.toList
    rw [hq] at this
    exact this
  have HP : ∀ W, Calls Tryd.prog 6 #[.string s] W fun e w' => (∃ ca cc wa wc tv B, e = .returned (.tuple #[.agg #[.slice ca st.ths.length cc, .slice wa st.words.length wc, .int .i64 st.lk, .int .i64 st.rg], ints3 x y z]) ∧ Built w' B (.slice ca st.ths.length cc) (.slice wa st.words.length wc) tv st.ths st.words) ∧ Below W.heap.size W w' := fun W => by
    refine (rparse_any s hm W).mono ?_
    rintro e w' ⟨hQ, hb⟩
    unfold ParseQ at hQ
    rw [hq] at hQ
    obtain ⟨cv, wv, tv, B, _, rfl, hbt⟩ := hQ
    obtain ⟨ca, cc, rfl⟩ := owns_slice hbt.code
    obtain ⟨wa, wc, rfl⟩ := owns_slice hbt.words
    exact ⟨⟨ca, cc, wa, wc, tv, B, rfl, hbt⟩, hb⟩
  have HQ : ∃ e', e' = (fun e w' => (∃ ca cc wa wc tv B, e = Ending.returned (.tuple #[.agg #[.slice ca st.ths.length cc, .slice wa st.words.length wc, .int .i64 st.lk, .int .i64 st.rg], ints3 x y z]) ∧ Built w' B (.slice ca st.ths.length cc) (.slice wa st.words.length wc) tv st.ths st.words) ∧ Below w.heap.size w w') ∧ Calls Tryd.prog 5 #[.string s] w e' := by
    refine ⟨_, rfl, (parse_any s hm a w hE).mono ?_⟩
    rintro e w' ⟨hQ, hb⟩
    unfold ParseQ at hQ
    rw [hq] at hQ
    obtain ⟨cv, wv, tv, B, _, rfl, hbt⟩ := hQ
    obtain ⟨ca, cc, rfl⟩ := owns_slice hbt.code
    obtain ⟨wa, wc, rfl⟩ := owns_slice hbt.words
    exact ⟨⟨ca, cc, wa, wc, tv, B, rfl, hbt⟩, hb⟩
  obtain ⟨E, hE0, HQ⟩ := HQ
  subst hE0
  clear hq hE
  go_enter Tryd.func3, Tryd.ntmps3
  go_wp2_with (first | (go_at_call 5; refine HQ.mono ?_; rintro e w1 ⟨⟨ca, cc, wa, wc, tv, B, rfl, hbt⟩, hb1⟩) | (go_at_call 6; refine (HP _).mono ?_; rintro e w2 ⟨⟨ca2, cc2, wa2, wc2, tv2, B2, rfl, hbt2⟩, hb2⟩; have p0 : w2.cell? ⟨w1.heap.size, 0, none⟩ = some (.slice ca st.ths.length cc) := (hb2.cell (p := ⟨w1.heap.size, 0, none⟩) (by simp; omega)).trans (by go_simp); have p1 : w2.cell? ⟨w1.heap.size, 1, none⟩ = some (.slice wa st.words.length wc) := (hb2.cell (p := ⟨w1.heap.size, 1, none⟩) (by simp; omega)).trans (by go_simp); have p2 : w2.cell? ⟨w1.heap.size, 2, none⟩ = some (.int .i64 st.lk) := (hb2.cell (p := ⟨w1.heap.size, 2, none⟩) (by simp; omega)).trans (by go_simp); have p3 : w2.cell? ⟨w1.heap.size, 3, none⟩ = some (.int .i64 st.rg) := (hb2.cell (p := ⟨w1.heap.size, 3, none⟩) (by simp; omega)).trans (by go_simp); have f0 : w2.cell? ⟨w1.heap.size + 1, 0, none⟩ = some (.int .i64 x) := (hb2.cell (p := ⟨w1.heap.size + 1, 0, none⟩) (by simp)).trans (by go_simp); have f1 : w2.cell? ⟨w1.heap.size + 1, 1, none⟩ = some (.int .i64 y) := (hb2.cell (p := ⟨w1.heap.size + 1, 1, none⟩) (by simp)).trans (by go_simp); have f2 : w2.cell? ⟨w1.heap.size + 1, 2, none⟩ = some (.int .i64 z) := (hb2.cell (p := ⟨w1.heap.size + 1, 2, none⟩) (by simp)).trans (by go_simp); have P0 := cell_two p0; have P1 := cell_two p1; have P2 := cell_two p2; have P3 := cell_two p3; have hz2 : w1.heap.size + 2 ≤ w2.heap.size := (by have := hb2.size; simp at this; omega); have hA := fun o1 o2 => ((hbt.below (((Below.refl w1.heap.size w1).alloc (Nat.le_refl _) _).alloc (by simp) _)).below hb2).below (((Below.refl w2.heap.size w2).alloc (Nat.le_refl _) o1).alloc (by simp) o2); have hA2 := fun o1 o2 => hbt2.below (((Below.refl w2.heap.size w2).alloc (Nat.le_refl _) o1).alloc (by simp) o2)) | (go_at_call 7; refine (same_any ca _ cc wa _ wc st.lk st.rg _ _ _ _ ca2 cc2 wa2 wc2 _ _ _ (IIn.of_owns hbt.words).2 _ ((hA _ _).pin HZ.out.n HZ.out.t (Nat.le_refl _)) ((hA2 _ _).pin HZ.out.n HZ.out.t (Nat.le_refl _)) (IIn.of_owns (hA _ _).words).1 (IIn.of_owns (hA2 _ _).words).1).mono ?_; rintro e w3 ⟨rfl, hb3⟩; have k0 : w3.cell? ⟨w1.heap.size + 1, 0, none⟩ = some (.int .i64 x) := (hb3.cell (p := ⟨w1.heap.size + 1, 0, none⟩) (by simp; omega)).trans (cell_two f0 _ _); have k1 : w3.cell? ⟨w1.heap.size + 1, 1, none⟩ = some (.int .i64 y) := (hb3.cell (p := ⟨w1.heap.size + 1, 1, none⟩) (by simp; omega)).trans (cell_two f1 _ _); have k2 : w3.cell? ⟨w1.heap.size + 1, 2, none⟩ = some (.int .i64 z) := (hb3.cell (p := ⟨w1.heap.size + 1, 2, none⟩) (by simp; omega)).trans (cell_two f2 _ _); have m0 : w3.cell? ⟨w2.heap.size + 1, 0, none⟩ = some (.int .i64 x) := (hb3.cell (p := ⟨w2.heap.size + 1, 0, none⟩) (by simp)).trans (by go_simp); have m1 : w3.cell? ⟨w2.heap.size + 1, 1, none⟩ = some (.int .i64 y) := (hb3.cell (p := ⟨w2.heap.size + 1, 1, none⟩) (by simp)).trans (by go_simp); have m2 : w3.cell? ⟨w2.heap.size + 1, 2, none⟩ = some (.int .i64 z) := (hb3.cell (p := ⟨w2.heap.size + 1, 2, none⟩) (by simp)).trans (by go_simp)))
  go_ret
  have h1 := (hb1.alloc hb1.size (.cells #[.slice ca st.ths.length cc, .slice wa st.words.length wc, .int .i64 st.lk, .int .i64 st.rg] 25)).alloc (by have := hb1.size; simp; omega) (.cells #[.int .i64 x, .int .i64 y, .int .i64 z] 28)
  have h2 := h1.trans (hb2.mono h1.size)
  have h3 := (h2.alloc h2.size (.cells #[.slice ca2 st.ths.length cc2, .slice wa2 st.words.length wc2, .int .i64 st.lk, .int .i64 st.rg] 25)).alloc (by have := h2.size; simp; omega) (.cells #[.int .i64 x, .int .i64 y, .int .i64 z] 28)
  exact ⟨rfl, h3.trans (hb3.mono h3.size)⟩

end Go.Proofs.YthbebnegmenejaaDoor
