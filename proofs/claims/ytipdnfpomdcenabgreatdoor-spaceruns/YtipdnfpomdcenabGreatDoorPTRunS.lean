/-
  The program's Run with buffers, of a program that passed Check.
  What SC, TSO and Robust tell of the statement's own program; what a script makes of a program is one of the outcomes.
-/
import Derived.Test.YtipdnfpomdcenabGreatDoorPBufN
import Derived.Test.YtipdnfpomdcenabGreatDoorPRunN
import Derived.Test.YtipdnfpomdcenabGreatDoorOcSame
import Derived.Test.YtipdnfpomdcenabGreatDoorOcRob
import Derived.Test.YtipdnfpomdcenabGreatDoorReachP
namespace Go.Proofs.YtipdnfpomdcenabGreatDoor
section
open Go.RowKit

set_option maxRecDepth 100000 in
set_option maxHeartbeats 6400000 in
theorem trun_yes (w : World) (ca : Option Addr) (n cc : Nat) (wa : Option Addr) (wc lk rg : Nat) (words script : List Int) (sa : Option Addr) (sc : Nat) (A : Nat → Option Addr) (L C : Nat → Nat) (X : Nat → Nat → Nat → Int) (HR : Hid (chk n L X words.length lk rg = (0, 0, 0))) (hp : PIn w ca n A L C X) (hc : COk n L X words.length lk rg) (hn0 : 0 < n) (hsl : script.length ≤ 9223372036854775807) (hw : SIs w wa words) (hnil : wa = none → words = [] ∧ wc = 0) (hsi : SIs w sa script) (hscap : script.length ≤ sc)
    (hsaB : ∀ b o, sa = some ⟨b, o, none⟩ → b < w.heap.size) (hpb : ∀ t b o i, ca = some ⟨b, o, none⟩ → t < n → b < w.heap.size ∧ ∀ b' o', A t = some ⟨b', o', none⟩ → i < L t → b' < w.heap.size) :
    Calls Tryz.prog 20 #[prgV ca n cc wa words.length wc lk rg, .slice sa script.length sc] w fun e w' => ∃ t, e = .returned (.tuple #[t, ints3 0 0 0]) ∧ TraceR w.heap.size w (runX L X 1 5000 (beginX n words lk rg) 0 script) (.returned t) w' := by
  have HB : ∀ W, Below w.heap.size w W → PIn W ca n A L C X := fun W hb => hp.below hb
  obtain ⟨R, hR⟩ : ∃ R, runX L X 1 5000 (beginX n words lk rg) 0 script = R := ⟨_, rfl⟩
  rw [hR]
  go_enter Tryz.func20, Tryz.ntmps20
  go_wp2_with (fail)
  have HB3 := (((Below.refl w.heap.size w).alloc (Nat.le_refl _) (.cells #[.slice ca n cc, .slice wa words.length wc, .int .i64 (lk : Int), .int .i64 (rg : Int)] 25)).alloc (by simp) (.cells #[nilV, .int .i64 0, nilV, .int .i64 0] 46)).alloc (by simp; omega) (.cells #[.int .i64 0, .int .i64 0, .int .i64 0] 30)
  refine (check_any ca n cc wa words.length wc lk rg A L C X 0 0 0 HR _ (HB _ HB3)).mono ?_
  rintro e w1 ⟨rfl, hb1⟩
  have hs1 := hb1.size
  simp only [World.size_alloc] at hs1
  have HB1 : Below w.heap.size w w1 := HB3.trans (hb1.mono (by simp; omega))
  obtain ⟨hT, hF⟩ := res_two hb1
  have p0 : w1.cell? ⟨w.heap.size, 0, none⟩ = some (.slice ca n cc) := (hb1.cell (p := ⟨w.heap.size, 0, none⟩) (by simp; omega)).trans (by go_simp)
  have p1 : w1.cell? ⟨w.heap.size, 1, none⟩ = some (.slice wa words.length wc) := (hb1.cell (p := ⟨w.heap.size, 1, none⟩) (by simp; omega)).trans (by go_simp)
  have p2 : w1.cell? ⟨w.heap.size, 2, none⟩ = some (.int .i64 (lk : Int)) := (hb1.cell (p := ⟨w.heap.size, 2, none⟩) (by simp; omega)).trans (by go_simp)
  have p3 : w1.cell? ⟨w.heap.size, 3, none⟩ = some (.int .i64 (rg : Int)) := (hb1.cell (p := ⟨w.heap.size, 3, none⟩) (by simp; omega)).trans (by go_simp)
  have HNEW : Hid (∀ W, Below w.heap.size w W → Calls Tryz.prog 31 #[prgV ca n cc wa words.length wc lk rg] W fun e w' => ∃ bb mb v, e = .returned (.pointer (some ⟨bb, 0, none⟩)) ∧ MemQ ⟨A, L, C, bufK, bb, n⟩ W w' mb v words lk) := fun W hb => (newBuffered_any W ca n cc wa wc lk rg words (hw.below hb) hnil hc.m64 hc.lk4 hc.n4).mono fun e w' ⟨bb, mb, v, h1, h2⟩ => ⟨bb, mb, v, h1, h2 A L C⟩
  have HPLAY : Hid (∀ W w' bb mb v, Below w.heap.size w W → MemQ ⟨A, L, C, bufK, bb, n⟩ W w' mb v words lk → Calls Tryz.prog 34 #[prgV ca n cc wa words.length wc lk rg, .iface 72 (.pointer (some ⟨bb, 0, none⟩)), .slice sa script.length sc] w' (TraceR W.heap.size w' (runX L X 1 5000 (beginX n words lk rg) 0 script))) := fun W w' bb mb v hb hm =>
    play_any W w' ca n cc wa wc lk rg mb v words script sa sc ⟨A, L, C, bufK, bb, n⟩ X buf_law rfl hm (hp.below (hb.trans (hm.below.mono hb.size))) hc hn0 hsl (hsi.below (hb.trans (hm.below.mono hb.size))) hscap (fun b o e => Nat.lt_of_lt_of_le (hsaB b o e) hb.size) (fun t b o i e ht => ⟨Nat.lt_of_lt_of_le (hpb t b o i e ht).1 hb.size, fun b' o' e' hi => Nat.lt_of_lt_of_le ((hpb t b o i e ht).2 b' o' e' hi) hb.size⟩)
  rw [hR] at HPLAY
  clear hb1 hp hc hn0 hsl hw hnil hsi hscap hsaB hpb HR HB hR HB3
  go_wp2_with (fail)
  have q0 := cell_up p0 (.cells #[.int .i64 0, .int .i64 0, .int .i64 0] 30)
  have q1 := cell_up p1 (.cells #[.int .i64 0, .int .i64 0, .int .i64 0] 30)
  have q2 := cell_up p2 (.cells #[.int .i64 0, .int .i64 0, .int .i64 0] 30)
  have q3 := cell_up p3 (.cells #[.int .i64 0, .int .i64 0, .int .i64 0] 30)
  have hT2 := box_later hT (.cells #[.int .i64 0, .int .i64 0, .int .i64 0] 30)
  have hF2 := box_later hF (.cells #[.int .i64 0, .int .i64 0, .int .i64 0] 30)
  have HB2 : Below w.heap.size w (w1.alloc (.cells #[.int .i64 0, .int .i64 0, .int .i64 0] 30)) := HB1.alloc HB1.size _
  have hs2 : w.heap.size + 1 + 1 + 1 ≤ (w1.alloc (.cells #[.int .i64 0, .int .i64 0, .int .i64 0] 30)).heap.size := by simp; omega
  obtain ⟨W2, hW2⟩ : ∃ W2, w1.alloc (.cells #[.int .i64 0, .int .i64 0, .int .i64 0] 30) = W2 := ⟨_, rfl⟩
  rw [hW2] at q0 q1 q2 q3 hT2 hF2 HB2 hs2
  have H2 := Hid.out (p := Hid _) HB2
  have HBX := Hid.out (p := Hid _) (And.intro hT2 hF2)
  clear p0 p1 p2 p3 HB1 hs1 hT hF hT2 hF2 HB2
  rw [hW2]
  clear hW2
  go_region_held3 (fun w' => w'.cell? ⟨w.heap.size, 0, none⟩ = some (.slice ca n cc) ∧ w'.cell? ⟨w.heap.size, 1, none⟩ = some (.slice wa words.length wc) ∧ w'.cell? ⟨w.heap.size, 2, none⟩ = some (.int .i64 (lk : Int)) ∧ w'.cell? ⟨w.heap.size, 3, none⟩ = some (.int .i64 (rg : Int))) (refine ⟨?_, ?_, ?_, ?_⟩ <;> (repeat (first | with_reducible assumption | with_reducible refine cell_drw ?_ | with_reducible refine cell_off ?_ (by first | (show w.heap.size ≠ w.heap.size + 1; omega) | (show w.heap.size ≠ w.heap.size + 1 + 1; omega))))) (first | (go_at_call 31; refine Calls.mono (HNEW.out _ H2.out.drew) ?_; rintro e w3 ⟨bb, mb, v, rfl, hm⟩; have z0 : w3.cell? ⟨w.heap.size, 0, none⟩ = _ := (hm.below.cell (lt_of_cell q0)).trans q0; have z1 : w3.cell? ⟨w.heap.size, 1, none⟩ = _ := (hm.below.cell (lt_of_cell q1)).trans q1; have z2 : w3.cell? ⟨w.heap.size, 2, none⟩ = _ := (hm.below.cell (lt_of_cell q2)).trans q2; have z3 : w3.cell? ⟨w.heap.size, 3, none⟩ = _ := (hm.below.cell (lt_of_cell q3)).trans q3; have HM := Hid.out (p := Hid _) hm; clear hm) | (go_at_call 34; refine Calls.mono (HPLAY.out _ _ _ _ _ H2.out.drew HM.out) ?_; rintro e w4 ⟨pa, pl, pc, va, vl, vc, rfl, hI1, hI2, hb4⟩; have hT4 : w4.heap[w.heap.size + 1]? = _ := (hb4.block _ (by show _ < W2.heap.size; omega)).trans ((HM.out.below.block _ (by show _ < W2.heap.size; omega)).trans HBX.out.1); have hF4 : w4.heap[w.heap.size + 1 + 1]? = _ := (hb4.block _ (by show _ < W2.heap.size; omega)).trans ((HM.out.below.block _ (by show _ < W2.heap.size; omega)).trans HBX.out.2); have t0 : w4.cell? ⟨w.heap.size + 1, 0, none⟩ = some nilV := box_cell hT4 rfl; have t1 : w4.cell? ⟨w.heap.size + 1, 1, none⟩ = some (.int .i64 0) := box_cell hT4 rfl; have t2 : w4.cell? ⟨w.heap.size + 1, 2, none⟩ = some nilV := box_cell hT4 rfl; have t3 : w4.cell? ⟨w.heap.size + 1, 3, none⟩ = some (.int .i64 0) := box_cell hT4 rfl; have u0 : w4.cell? ⟨w.heap.size + 1 + 1, 0, none⟩ = some (.int .i64 0) := box_cell hF4 rfl; have u1 : w4.cell? ⟨w.heap.size + 1 + 1, 1, none⟩ = some (.int .i64 0) := box_cell hF4 rfl; have u2 : w4.cell? ⟨w.heap.size + 1 + 1, 2, none⟩ = some (.int .i64 0) := box_cell hF4 rfl; have tf : ∀ i, w4.frozen? ⟨w.heap.size + 1, i, none⟩ = false := fun i => box_free hT4; have uf : ∀ i, w4.frozen? ⟨w.heap.size + 1 + 1, i, none⟩ = false := fun i => box_free hF4; have y0 := (hb4.cell (p := ⟨w.heap.size, 0, none⟩) (by show w.heap.size < W2.heap.size; omega)).trans z0; have y1 := (hb4.cell (p := ⟨w.heap.size, 1, none⟩) (by show w.heap.size < W2.heap.size; omega)).trans z1; have y2 := (hb4.cell (p := ⟨w.heap.size, 2, none⟩) (by show w.heap.size < W2.heap.size; omega)).trans z2; have y3 := (hb4.cell (p := ⟨w.heap.size, 3, none⟩) (by show w.heap.size < W2.heap.size; omega)).trans z3; have HB4 := Hid.out (p := Hid _) hb4; have HT4 := Hid.out (p := Hid _) (And.intro hT4 hF4); clear hb4 hT4 hF4))
  all_goals go_wp2
  have hB : Below w.heap.size w w4 := (H2.out.drew.trans (HM.out.below.mono H2.out.size)).trans (HB4.out.mono H2.out.size)
  have hle : w.heap.size ≤ W2.drew.heap.size := H2.out.size
  have hk : ∀ (a0 a1 a2 a3 b0 b1 b2 : Value) (j : Nat), j ≠ w.heap.size + 1 → j ≠ w.heap.size + 1 + 1 → (((((((w4.setCell ⟨w.heap.size + 1, 0, none⟩ a0).setCell ⟨w.heap.size + 1, 1, none⟩ a1).setCell ⟨w.heap.size + 1, 2, none⟩ a2).setCell ⟨w.heap.size + 1, 3, none⟩ a3).setCell ⟨w.heap.size + 1 + 1, 0, none⟩ b0).setCell ⟨w.heap.size + 1 + 1, 1, none⟩ b1).setCell ⟨w.heap.size + 1 + 1, 2, none⟩ b2).heap[j]? = w4.heap[j]? := fun a0 a1 a2 a3 b0 b1 b2 j h1 h2 => by
    rw [Below.heap_setCell _ _ _ _ h2, Below.heap_setCell _ _ _ _ h2, Below.heap_setCell _ _ _ _ h2, Below.heap_setCell _ _ _ _ h1, Below.heap_setCell _ _ _ _ h1, Below.heap_setCell _ _ _ _ h1, Below.heap_setCell _ _ _ _ h1]
  refine bodyPost_ret (v := .tuple #[.agg #[.slice pa pl pc, .int .i64 R.2.1, .slice va vl vc, .int .i64 (R.2.2 : Int)], ints3 0 0 0]) (by simp [results, Tryz.results20, go_sem, t0, t1, t2, t3, u0, u1, u2]) rfl ⟨_, rfl, pa, pl, pc, va, vl, vc, rfl, hI1.keep hle HT4.out.1 HT4.out.2 (hk _ _ _ _ _ _ _), hI2.keep hle HT4.out.1 HT4.out.2 (hk _ _ _ _ _ _ _), ?_⟩
  exact ((((((hB.setCell (Nat.le_succ _) _).setCell (Nat.le_succ _) _).setCell (Nat.le_succ _) _).setCell (Nat.le_succ _) _).setCell (by show _ ≤ w.heap.size + 1 + 1; omega) _).setCell (by show _ ≤ w.heap.size + 1 + 1; omega) _).setCell (by show _ ≤ w.heap.size + 1 + 1; omega) _
end

section
open Go.RowKit

/-- A run's prints and words are few. -/
theorem runs_few {n : Nat} {L : Nat → Nat} {X : Nat → Nat → Nat → Int} {m lk rg : Nat} {mode : Int} (hm0 : 0 ≤ mode) (hc : COk n L X m lk rg) : ∀ (f : Nat) (s : Sx) (k : Nat) (sc : List Int), SOk n L m lk rg mode s → (runX L X mode f s k sc).1.prints.length ≤ s.prints.length + 2 * f ∧ (runX L X mode f s k sc).1.words.length = m
  | f, s, k, sc, h => by
    by_cases he : endedX L s = true
    · rw [runX]
      simp only [he, if_true]
      exact ⟨by omega, h.words⟩
    · have he : endedX L s = false := by simpa using he
      by_cases hm : movesX L X mode s = []
      · rw [runX]
        simp only [he, hm]
        exact ⟨by simp, by simpa using h.words⟩
      · cases f with
        | zero =>
          have hi : (movesX L X mode s).isEmpty = false := by cases hl : movesX L X mode s with
            | nil => exact absurd hl hm
            | cons a l => rfl
          rw [runX]
          simp only [he, hi]
          exact ⟨by simp, by simpa using h.words⟩
        | succ f =>
          rw [run_step he hm]
          have hl : 0 < (movesX L X mode s).length := List.length_pos_iff.mpr hm
          have hlt := pick_lt (movesX L X mode s).length sc hl
          have key : ∀ (s' : Sx), SOk n L m lk rg mode s' → s'.prints.length ≤ s.prints.length + 2 → doX X mode s ((movesX L X mode s).getD (pickX (movesX L X mode s).length sc).1 0).toNat = s' → (if (doX X mode s ((movesX L X mode s).getD (pickX (movesX L X mode s).length sc).1 0).toNat).fell = true then (doX X mode s ((movesX L X mode s).getD (pickX (movesX L X mode s).length sc).1 0).toNat, (1 : Int), k + 1) else runX L X mode f (doX X mode s ((movesX L X mode s).getD (pickX (movesX L X mode s).length sc).1 0).toNat) (k + 1) (pickX (movesX L X mode s).length sc).2).1.prints.length ≤ s.prints.length + 2 * (f + 1) ∧ (if (doX X mode s ((movesX L X mode s).getD (pickX (movesX L X mode s).length sc).1 0).toNat).fell = true then (doX X mode s ((movesX L X mode s).getD (pickX (movesX L X mode s).length sc).1 0).toNat, (1 : Int), k + 1) else runX L X mode f (doX X mode s ((movesX L X mode s).getD (pickX (movesX L X mode s).length sc).1 0).toNat) (k + 1) (pickX (movesX L X mode s).length sc).2).1.words.length = m := fun s' h1 h2 e => by
            rw [e]
            split
            · exact ⟨by show s'.prints.length ≤ _; omega, h1.words⟩
            · have := runs_few hm0 hc f s' (k + 1) (pickX (movesX L X mode s).length sc).2 h1
              exact ⟨by omega, this.2⟩
          rcases movesX_mem (List.getElem_mem hlt) with ⟨t, ht, e, ha⟩ | ⟨t, q, ht, hq, e, _⟩
          · have e2 : (movesX L X mode s).getD (pickX (movesX L X mode s).length sc).1 0 = 8 * (t : Int) := by
              rw [List.getD_eq_getElem?_getD, List.getElem?_eq_getElem hlt]; exact e
            have e3 : (8 * (t : Int)).toNat = 8 * t := by omega
            rw [h.ths] at ht
            exact key _ (h.step hc hm0 ht ha) prints_step (by rw [e2, e3])
          · have e2 : (movesX L X mode s).getD (pickX (movesX L X mode s).length sc).1 0 = 8 * (t : Int) + (q : Int) + 1 := by
              rw [List.getD_eq_getElem?_getD, List.getElem?_eq_getElem hlt]; exact e
            have e3 : (8 * (t : Int) + (q : Int) + 1).toNat = 8 * t + q + 1 := by omega
            rw [h.ths] at ht
            have hw := h.wlen t ht
            exact key _ (h.wait (X := X) ht hq) (by rw [prints_wait (by omega)]; omega) (by rw [e2, e3])


theorem buf_fit : ∀ t i, t < 2 → i < bufL t → I64n (bufX t i 2) := fun t i ht hi => by
  have hi : i < 4 := hi
  match t, ht with
  | 0, _ => match i, hi with
    | 0, _ => exact ⟨by decide, by decide⟩
    | 1, _ => exact ⟨by decide, by decide⟩
    | 2, _ => exact ⟨by decide, by decide⟩
    | 3, _ => exact ⟨by decide, by decide⟩
  | 1, _ => match i, hi with
    | 0, _ => exact ⟨by decide, by decide⟩
    | 1, _ => exact ⟨by decide, by decide⟩
    | 2, _ => exact ⟨by decide, by decide⟩
    | 3, _ => exact ⟨by decide, by decide⟩
theorem buf_wfit : ∀ x, x ∈ [(0 : Int), 0] → I64n x := fun x hx => by
  obtain rfl : x = 0 := by simpa using hx
  exact ⟨by decide, by decide⟩
section
variable (d : Nat) (w W W' : World) (h : IsBuf d w W) (hb : Below W.heap.size W W') (ht : TabB W'.heap.size W')
include h hb ht
theorem buf_sc : Calls Tryz.prog 8 #[prgV (some ⟨d + 3, 0, none⟩) 2 2 (some ⟨d + 4, 0, none⟩) 2 2 0 2] W' fun e w' => ∃ a cap, e = .returned (.tuple #[.slice a 6 cap, ints3 0 0 0]) ∧ Below W'.heap.size W' w' := by
  have := sc_yes W' (some ⟨d + 3, 0, none⟩) 2 2 (some ⟨d + 4, 0, none⟩) 2 0 2 [0, 0] (bufA d) bufL (fun _ => 4) bufX buf_chk (h.prog.below hb) buf_cok (by omega) (h.words.below hb) (fun e => by cases e) buf_fit buf_wfit ht
  refine Calls.mono this fun e w' h => ?_
  obtain ⟨full, a, len, cap, es, h1, h2, h3, h4, h5, h6, h7, h8⟩ := h.spc (Below.refl _ _)
  obtain ⟨e1, e2⟩ := told_same h2 buf_told0
  subst e1
  have e3 := congrArg List.length (e2 rfl)
  rw [List.length_map, h3, buf_len0.2] at e3
  subst e3
  exact ⟨a, cap, h1, h8⟩
theorem buf_tso : Calls Tryz.prog 13 #[prgV (some ⟨d + 3, 0, none⟩) 2 2 (some ⟨d + 4, 0, none⟩) 2 2 0 2] W' fun e w' => ∃ a cap, e = .returned (.tuple #[.slice a 8 cap, ints3 0 0 0]) ∧ Below W'.heap.size W' w' := by
  have := tso_yes W' (some ⟨d + 3, 0, none⟩) 2 2 (some ⟨d + 4, 0, none⟩) 2 0 2 [0, 0] (bufA d) bufL (fun _ => 4) bufX buf_chk (h.prog.below hb) buf_cok (by omega) (h.words.below hb) (fun e => by cases e) buf_fit buf_wfit ht
  refine Calls.mono this fun e w' h => ?_
  obtain ⟨full, a, len, cap, es, h1, h2, h3, h4, h5, h6, h7, h8⟩ := h.spc (Below.refl _ _)
  obtain ⟨e1, e2⟩ := told_same h2 buf_told1
  subst e1
  have e3 := congrArg List.length (e2 rfl)
  rw [List.length_map, h3, buf_len1.2] at e3
  subst e3
  exact ⟨a, cap, h1, h8⟩
theorem buf_rob : Calls Tryz.prog 14 #[prgV (some ⟨d + 3, 0, none⟩) 2 2 (some ⟨d + 4, 0, none⟩) 2 2 0 2] W' fun e w' => e = .returned (.tuple #[.bool false, ints3 0 0 0]) ∧ Below W'.heap.size W' w' := by
  have := robust_yes W' (some ⟨d + 3, 0, none⟩) 2 2 (some ⟨d + 4, 0, none⟩) 2 0 2 [0, 0] (bufA d) bufL (fun _ => 4) bufX buf_chk (h.prog.below hb) buf_cok (by omega) (h.words.below hb) (fun e => by cases e) buf_fit buf_wfit ht
  refine Calls.mono this fun e w' h => ?_
  obtain ⟨r, z, h1, h2, h3⟩ := h
  have h4 : r = false ∧ z = 0 := by
    rcases h2 with ⟨l1, g1, _, _⟩ | ⟨l1, f2, l2, g1, g2, g3⟩
    · have := (told_same g1 buf_told0).1
      cases this
    · obtain ⟨e1, e2⟩ := told_same g2 buf_told1
      subst e1
      rcases g3 with ⟨g3, _⟩ | ⟨_, g4, g5⟩
      · cases g3
      · refine ⟨g4.trans (decide_eq_false fun e => ?_), g5⟩
        have e3 := congrArg List.length ((told_same g1 buf_told0).2 rfl)
        have e4 := congrArg List.length (e2 rfl)
        rw [buf_len0.2] at e3
        rw [buf_len1.2, ← e, e3] at e4
        cases e4
  obtain ⟨rfl, rfl⟩ := h4
  exact ⟨h1, h3⟩
end
/-- What a run comes to is one of the outcomes that are told. -/
theorem run_among {L : Nat → Nat} {X : Nat → Nat → Nat → Int} {mode : Int} {s0 : Sx} {f : Nat} {sc : List Int} {l : List Oc} {mx : Nat} (h : Told (nxX L X mode) (outsX L X mode) s0 mx false l) (hst : (runX L X mode f s0 0 sc).2.1 ≠ 3) : (⟨(runX L X mode f s0 0 sc).2.1, if (runX L X mode f s0 0 sc).2.1 = 1 then [] else (runX L X mode f s0 0 sc).1.words, (runX L X mode f s0 0 sc).1.prints⟩ : Oc) ∈ l := by
  rcases h with ⟨e, _⟩ | ⟨_, _, hm, _⟩
  · cases e
  · rw [hm]
    rcases run_told f s0 0 sc (Rch.base (nx := nxX L X mode) (s0 := s0)) with e | e
    · exact absurd e hst
    · exact e
/-- Each outcome without stores that wait is one with them. -/
theorem told_more {n : Nat} {L : Nat → Nat} {X : Nat → Nat → Nat → Int} {m lk rg : Nat} {s0 : Sx} {l r : List Oc} {mx : Nat} (h0 : SOk n L m lk rg 0 s0) (hf : s0.fell = false) (hc : COk n L X m lk rg) (hl : Told (nxX L X 0) (outsX L X 0) s0 mx false l) (hr : Told (nxX L X 1) (outsX L X 1) s0 mx false r) : ∀ o, o ∈ l → o ∈ r := fun o ho => by
  rcases hl with ⟨e, _⟩ | ⟨_, _, hm, _⟩
  · cases e
  rcases hr with ⟨e, _⟩ | ⟨_, _, hm', _⟩
  · cases e
  rw [hm] at ho
  obtain ⟨s, h1, h2⟩ := ho
  rw [hm']
  exact ⟨s, reach_more h0 hf hc h1, outs_more h0 hf hc h1 h2⟩
end

end Go.Proofs.YtipdnfpomdcenabGreatDoor
