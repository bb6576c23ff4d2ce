/-
  The law of runs with buffers, of a program that Check does not let pass.
  The law of runs with buffers, of a program that passed Check.
-/
import Derived.Test.YtipdnfpomdcenabPTRunN
import Derived.Test.YtipdnfpomdcenabSameI
import Derived.Test.YtipdnfpomdcenabVast
import Derived.Test.YtipdnfpomdcenabCheckR2
import Derived.Test.YtipdnfpomdcenabRRun
import Derived.Test.YtipdnfpomdcenabBox
import Derived.Test.YtipdnfpomdcenabRDoW
namespace Go.Proofs.Ytipdnfpomdcenab
section
open Go.RowKit

set_option maxRecDepth 100000 in
set_option maxHeartbeats 3200000 in
theorem tsoRuns_no (w : World) (ca : Option Addr) (n cc : Nat) (wa : Option Addr) (m wc : Nat) (lk rg : Int) (A : Nat → Option Addr) (L C : Nat → Nat) (X : Nat → Nat → Nat → Int) (x y z : Int) (HR : Hid (chk n L X m lk rg = (x, y, z))) (hx : (x != 0) = true) (hm : m ≤ 9223372036854775807) (hp : PIn w ca n A L C X) (sa : Option Addr) (sl sc : Nat) :
    Calls Try.prog 3 #[prgV ca n cc wa m wc lk rg, .slice sa sl sc] w fun e w' => e = .returned (.bool true) ∧ Below w.heap.size w w' := by
  have HB0 : Below w.heap.size w (w.alloc (boxQ ca n cc wa m wc lk rg)) := (Below.refl _ _).alloc (Nat.le_refl _) _
  have HP : ∀ W, Below w.heap.size w W → PIn W ca n A L C X := fun W hb => hp.below hb
  go_enter Try.func3, Try.ntmps3
  go_wp2_with (fail)
  refine (vast_any _ _ _ _ _ _ _ _ A L C X hm _ (HP _ HB0)).mono ?_
  rintro e w1 ⟨⟨b, rfl⟩, hb1⟩
  have hB1 : Below w.heap.size w w1 := HB0.trans (hb1.mono HB0.size)
  have p0 : w1.cell? ⟨w.heap.size, 0, none⟩ = some (.slice ca n cc) := box_cell ((hb1.block _ (by simp)).trans (heap_alloc_new _ _)) rfl
  have p1 : w1.cell? ⟨w.heap.size, 1, none⟩ = some (.slice wa m wc) := box_cell ((hb1.block _ (by simp)).trans (heap_alloc_new _ _)) rfl
  have p2 : w1.cell? ⟨w.heap.size, 2, none⟩ = some (.int .i64 lk) := box_cell ((hb1.block _ (by simp)).trans (heap_alloc_new _ _)) rfl
  have p3 : w1.cell? ⟨w.heap.size, 3, none⟩ = some (.int .i64 rg) := box_cell ((hb1.block _ (by simp)).trans (heap_alloc_new _ _)) rfl
  clear hb1 HB0
  cases b with
  | true =>
    go_wp2
    go_ret
    exact ⟨rfl, hB1⟩
  | false =>
    go_wp2_with (fail)
    refine (trun_no w1 ca n cc wa m wc lk rg A L C X x y z HR hx (HP _ hB1) sa sl sc).mono ?_
    rintro e w2 ⟨rfl, hb2⟩
    have hB2 : Below w.heap.size w w2 := hB1.trans (hb2.mono hB1.size)
    rw [← hb2.cell (lt_of_cell p0)] at p0
    rw [← hb2.cell (lt_of_cell p1)] at p1
    rw [← hb2.cell (lt_of_cell p2)] at p2
    rw [← hb2.cell (lt_of_cell p3)] at p3
    have hz2 : w.heap.size < w2.heap.size := lt_of_cell p0
    clear hb2 hB1
    go_wp2_with (fail)
    have hB3 : Below w.heap.size w ((w2.alloc (.cells #[nilV, .int .i64 0, nilV, .int .i64 0] 28)).alloc (.cells #[.int .i64 x, .int .i64 y, .int .i64 z] 31)) := (hB2.alloc hB2.size _).alloc (hB2.alloc hB2.size _).size _
    refine (rcheck_any _ _ _ _ _ _ _ _ A L C X x y z HR _ (HP _ hB3)).mono ?_
    rintro e w3 ⟨rfl, hb3⟩
    have hB4 : Below w.heap.size w w3 := hB3.trans (hb3.mono hB3.size)
    have hT : w3.heap[w2.heap.size]? = some (.cells #[nilV, .int .i64 0, nilV, .int .i64 0] 28) := (hb3.block _ (by simp; omega)).trans (box_later (heap_alloc_new _ _) _)
    have hF : w3.heap[w2.heap.size + 1]? = some (.cells #[.int .i64 x, .int .i64 y, .int .i64 z] 31) := (hb3.block _ (by simp)).trans (by have := heap_alloc_new (w2.alloc (.cells #[nilV, .int .i64 0, nilV, .int .i64 0] 28)) (.cells #[.int .i64 x, .int .i64 y, .int .i64 z] 31); rwa [World.size_alloc] at this)
    have t0 : ∀ o, (w3.alloc o).cell? ⟨w2.heap.size, 0, none⟩ = some nilV := fun o => box_cell (box_later hT o) rfl
    have t1 : ∀ o, (w3.alloc o).cell? ⟨w2.heap.size, 1, none⟩ = some (.int .i64 0) := fun o => box_cell (box_later hT o) rfl
    have t2 : ∀ o, (w3.alloc o).cell? ⟨w2.heap.size, 2, none⟩ = some nilV := fun o => box_cell (box_later hT o) rfl
    have t3 : ∀ o, (w3.alloc o).cell? ⟨w2.heap.size, 3, none⟩ = some (.int .i64 0) := fun o => box_cell (box_later hT o) rfl
    clear hb3 hB3 hB2 p0 p1 p2 p3 hT
    go_wp2_with (fail)
    refine (none_empty _).mono ?_
    rintro e w4 ⟨rfl, hb4⟩
    have hF4 : w4.heap[w2.heap.size + 1]? = some (.cells #[.int .i64 x, .int .i64 y, .int .i64 z] 31) := (hb4.block _ (by have := box_lt hF; simp; omega)).trans (box_later hF _)
    have hN4 : w4.heap[w3.heap.size]? = some (.cells #[.int .i64 x, .int .i64 y, .int .i64 z] 31) := (hb4.block _ (by simp)).trans (heap_alloc_new _ _)
    have f0 : w4.cell? ⟨w2.heap.size + 1, 0, none⟩ = some (.int .i64 x) := box_cell hF4 rfl
    have f1 : w4.cell? ⟨w2.heap.size + 1, 1, none⟩ = some (.int .i64 y) := box_cell hF4 rfl
    have f2 : w4.cell? ⟨w2.heap.size + 1, 2, none⟩ = some (.int .i64 z) := box_cell hF4 rfl
    have g0 : w4.cell? ⟨w3.heap.size, 0, none⟩ = some (.int .i64 x) := box_cell hN4 rfl
    have g1 : w4.cell? ⟨w3.heap.size, 1, none⟩ = some (.int .i64 y) := box_cell hN4 rfl
    have g2 : w4.cell? ⟨w3.heap.size, 2, none⟩ = some (.int .i64 z) := box_cell hN4 rfl
    have hB5 : Below w.heap.size w w4 := (hB4.alloc hB4.size _).trans (hb4.mono (hB4.alloc hB4.size _).size)
    clear hb4 hF4 hN4 hF t0 t1 t2 t3
    go_wp2
    go_ret
    exact ⟨rfl, hB5⟩
end

section
open Go.RowKit

/-- A run's prints and words are few. -/
theorem trun_few {n : Nat} {L : Nat → Nat} {X : Nat → Nat → Nat → Int} {m lk rg : Nat} (hc : COk n L X m lk rg) : ∀ (f : Nat) (s : Sx) (k : Nat) (sc : List Int), SOk n L m lk rg 1 s → (runX L X 1 f s k sc).1.prints.length ≤ s.prints.length + 2 * f ∧ (runX L X 1 f s k sc).1.words.length = m
  | f, s, k, sc, h => by
    by_cases he : endedX L s = true
    · rw [runX]
      simp only [he, if_true]
      exact ⟨by omega, h.words⟩
    · have he : endedX L s = false := by simpa using he
      by_cases hm : movesX L X 1 s = []
      · rw [runX]
        simp only [he, hm]
        exact ⟨by simp, by simpa using h.words⟩
      · cases f with
        | zero =>
          have hi : (movesX L X 1 s).isEmpty = false := by cases hl : movesX L X 1 s with
            | nil => exact absurd hl hm
            | cons a l => rfl
          rw [runX]
          simp only [he, hi]
          exact ⟨by simp, by simpa using h.words⟩
        | succ f =>
          rw [run_step he hm]
          have hl : 0 < (movesX L X 1 s).length := List.length_pos_iff.mpr hm
          have hlt := pick_lt (movesX L X 1 s).length sc hl
          have key : ∀ (s' : Sx), SOk n L m lk rg 1 s' → s'.prints.length ≤ s.prints.length + 2 → doX X 1 s ((movesX L X 1 s).getD (pickX (movesX L X 1 s).length sc).1 0).toNat = s' → (if (doX X 1 s ((movesX L X 1 s).getD (pickX (movesX L X 1 s).length sc).1 0).toNat).fell = true then (doX X 1 s ((movesX L X 1 s).getD (pickX (movesX L X 1 s).length sc).1 0).toNat, (1 : Int), k + 1) else runX L X 1 f (doX X 1 s ((movesX L X 1 s).getD (pickX (movesX L X 1 s).length sc).1 0).toNat) (k + 1) (pickX (movesX L X 1 s).length sc).2).1.prints.length ≤ s.prints.length + 2 * (f + 1) ∧ (if (doX X 1 s ((movesX L X 1 s).getD (pickX (movesX L X 1 s).length sc).1 0).toNat).fell = true then (doX X 1 s ((movesX L X 1 s).getD (pickX (movesX L X 1 s).length sc).1 0).toNat, (1 : Int), k + 1) else runX L X 1 f (doX X 1 s ((movesX L X 1 s).getD (pickX (movesX L X 1 s).length sc).1 0).toNat) (k + 1) (pickX (movesX L X 1 s).length sc).2).1.words.length = m := fun s' h1 h2 e => by
            rw [e]
            split
            · exact ⟨by show s'.prints.length ≤ _; omega, h1.words⟩
            · have := trun_few hc f s' (k + 1) (pickX (movesX L X 1 s).length sc).2 h1
              exact ⟨by omega, this.2⟩
          rcases movesX_mem (List.getElem_mem hlt) with ⟨t, ht, e, ha⟩ | ⟨t, q, ht, hq, e, _⟩
          · have e2 : (movesX L X 1 s).getD (pickX (movesX L X 1 s).length sc).1 0 = 8 * (t : Int) := by
              rw [List.getD_eq_getElem?_getD, List.getElem?_eq_getElem hlt]; exact e
            have e3 : (8 * (t : Int)).toNat = 8 * t := by omega
            rw [h.ths] at ht
            exact key _ (h.step hc (by decide) ht ha) prints_step (by rw [e2, e3])
          · have e2 : (movesX L X 1 s).getD (pickX (movesX L X 1 s).length sc).1 0 = 8 * (t : Int) + (q : Int) + 1 := by
              rw [List.getD_eq_getElem?_getD, List.getElem?_eq_getElem hlt]; exact e
            have e3 : (8 * (t : Int) + (q : Int) + 1).toNat = 8 * t + q + 1 := by omega
            rw [h.ths] at ht
            have hw := h.wlen t ht
            exact key _ (h.wait (X := X) ht hq) (by rw [prints_wait (by omega)]; omega) (by rw [e2, e3])

set_option maxRecDepth 100000 in
set_option maxHeartbeats 6400000 in
theorem tsoRuns_yes (w : World) (ca : Option Addr) (n cc : Nat) (wa : Option Addr) (wc lk rg : Nat) (words script : List Int) (sa : Option Addr) (sc : Nat) (A : Nat → Option Addr) (L C : Nat → Nat) (X : Nat → Nat → Nat → Int) (HR : Hid (chk n L X words.length lk rg = (0, 0, 0))) (hp : PIn w ca n A L C X) (hc : COk n L X words.length lk rg) (hn0 : 0 < n) (hsl : script.length ≤ 9223372036854775807) (hw : SIs w wa words) (hnil : wa = none → words = [] ∧ wc = 0) (hsi : SIs w sa script) (hscap : script.length ≤ sc)
    (hsaB : ∀ b o, sa = some ⟨b, o, none⟩ → b < w.heap.size) (hpb : ∀ t b o i, ca = some ⟨b, o, none⟩ → t < n → b < w.heap.size ∧ ∀ b' o', A t = some ⟨b', o', none⟩ → i < L t → b' < w.heap.size) :
    Calls Try.prog 3 #[prgV ca n cc wa words.length wc lk rg, .slice sa script.length sc] w fun e w' => e = .returned (.bool true) ∧ Below w.heap.size w w' := by
  obtain ⟨R, hR⟩ : ∃ R, runX L X 1 5000 (beginX n words lk rg) 0 script = R := ⟨_, rfl⟩
  have hfew := trun_few hc 5000 (beginX n words lk rg) 0 script begin_ok
  rw [hR] at hfew
  have hf0 : (beginX n words lk rg).prints.length = 0 := rfl
  have hm64 := hc.m64
  have HRUN : Hid (∀ W, Below w.heap.size w W → Calls Try.prog 6 #[prgV ca n cc wa words.length wc lk rg, .slice sa script.length sc] W fun e w' => ∃ t, e = .returned (.tuple #[t, ints3 0 0 0]) ∧ TraceR W.heap.size W R (.returned t) w') := fun W hb => by
    have := trun_yes W ca n cc wa wc lk rg words script sa sc A L C X HR (hp.below hb) hc hn0 hsl (hw.below hb) hnil (hsi.below hb) hscap (fun b o e => Nat.lt_of_lt_of_le (hsaB b o e) hb.size) (fun t b o i e ht => ⟨Nat.lt_of_lt_of_le (hpb t b o i e ht).1 hb.size, fun b' o' e' hi => Nat.lt_of_lt_of_le ((hpb t b o i e ht).2 b' o' e' hi) hb.size⟩)
    rw [hR] at this
    exact this
  have HREF : Hid (∀ W, Below w.heap.size w W → Calls Try.prog 9 #[prgV ca n cc wa words.length wc lk rg, .int .i64 1, .slice sa script.length sc] W (TraceQ W R)) := fun W hb => by
    have := rrun_any W ca n cc wa wc lk rg 1 words script sa sc A L C X hn0 (hw.below hb) (hsi.below hb) hsl hc (hp.below hb) (doOk_any (P := ⟨ca, n, cc, wa, words.length, wc, lk, rg, 1⟩) (show (0 : Int) ≤ 1 by decide) hc)
    rw [hR] at this
    exact this
  have HP : ∀ W, Below w.heap.size w W → PIn W ca n A L C X := fun W hb => hp.below hb
  obtain ⟨m, hmm⟩ : ∃ m, words.length = m := ⟨_, rfl⟩
  obtain ⟨sl, hsll⟩ : ∃ sl, script.length = sl := ⟨_, rfl⟩
  rw [hmm] at HRUN HREF hm64 hfew HR ⊢
  rw [hsll] at HRUN HREF ⊢
  have hpl : R.1.prints.length ≤ 10000 := by omega
  have hwl : R.1.words.length ≤ 64 := by omega
  clear hp hc hn0 hsl hw hnil hsi hscap hsaB hpb hR hfew hf0 hmm hsll
  have HB0 : Below w.heap.size w (w.alloc (boxQ ca n cc wa m wc lk rg)) := (Below.refl _ _).alloc (Nat.le_refl _) _
  go_enter Try.func3, Try.ntmps3
  go_wp2_with (fail)
  refine (vast_any _ _ _ _ _ _ _ _ A L C X (by omega) _ (HP _ HB0)).mono ?_
  rintro e w1 ⟨⟨b, rfl⟩, hb1⟩
  have hB1 : Below w.heap.size w w1 := HB0.trans (hb1.mono HB0.size)
  have p0 : w1.cell? ⟨w.heap.size, 0, none⟩ = some (.slice ca n cc) := box_cell ((hb1.block _ (by simp)).trans (heap_alloc_new _ _)) rfl
  have p1 : w1.cell? ⟨w.heap.size, 1, none⟩ = some (.slice wa m wc) := box_cell ((hb1.block _ (by simp)).trans (heap_alloc_new _ _)) rfl
  have p2 : w1.cell? ⟨w.heap.size, 2, none⟩ = some (.int .i64 lk) := box_cell ((hb1.block _ (by simp)).trans (heap_alloc_new _ _)) rfl
  have p3 : w1.cell? ⟨w.heap.size, 3, none⟩ = some (.int .i64 rg) := box_cell ((hb1.block _ (by simp)).trans (heap_alloc_new _ _)) rfl
  clear hb1 HB0
  cases b with
  | true =>
    go_wp2
    go_ret
    exact ⟨rfl, hB1⟩
  | false =>
    go_wp2_with (fail)
    refine (HRUN.out w1 hB1).mono ?_
    rintro e w2 ⟨t, rfl, pa, pl, pc, va, vl, vc, et, hI1, hI2, hb2⟩
    obtain rfl : t = .agg #[.slice pa pl pc, .int .i64 R.2.1, .slice va vl vc, .int .i64 (R.2.2 : Nat)] := by simpa using et
    clear et
    have hB2 : Below w.heap.size w w2 := hB1.trans (hb2.mono hB1.size)
    rw [← hb2.cell (lt_of_cell p0)] at p0
    rw [← hb2.cell (lt_of_cell p1)] at p1
    rw [← hb2.cell (lt_of_cell p2)] at p2
    rw [← hb2.cell (lt_of_cell p3)] at p3
    have hz2 : w.heap.size < w2.heap.size := lt_of_cell p0
    clear hb2 hB1
    go_wp2_with (fail)
    obtain ⟨TC, hTC⟩ : ∃ o : Obj, o = .cells #[.slice pa pl pc, .int .i64 R.2.1, .slice va vl vc, .int .i64 (R.2.2 : Nat)] 28 := ⟨_, rfl⟩
    have hB3 : Below w.heap.size w ((w2.alloc TC).alloc (.cells #[.int .i64 0, .int .i64 0, .int .i64 0] 31)) := (hB2.alloc hB2.size _).alloc (hB2.alloc hB2.size _).size _
    have hbw : Below w2.heap.size w2 ((w2.alloc TC).alloc (.cells #[.int .i64 0, .int .i64 0, .int .i64 0] 31)) := ((Below.refl _ _).alloc (Nat.le_refl _) _).alloc (by simp) _
    rw [hTC] at hB3 hbw
    refine (rcheck_any _ _ _ _ _ _ _ _ A L C X 0 0 0 HR _ (HP _ hB3)).mono ?_
    rintro e w3 ⟨rfl, hb3⟩
    rw [← hTC] at hb3 hB3 hbw
    have hB4 : Below w.heap.size w w3 := hB3.trans (hb3.mono hB3.size)
    have hbw3 : Below w2.heap.size w2 w3 := hbw.trans (hb3.mono hbw.size)
    have hT : w3.heap[w2.heap.size]? = some TC := (hb3.block _ (by simp; omega)).trans (box_later (heap_alloc_new _ _) _)
    have hF : w3.heap[w2.heap.size + 1]? = some (.cells #[.int .i64 0, .int .i64 0, .int .i64 0] 31) := (hb3.block _ (by simp)).trans (by have := heap_alloc_new (w2.alloc TC) (.cells #[.int .i64 0, .int .i64 0, .int .i64 0] 31); rwa [World.size_alloc] at this)
    have r0 : ∀ o, (w3.alloc o).cell? ⟨w.heap.size, 0, none⟩ = some (.slice ca n cc) := fun o => cell_up ((hbw3.cell (lt_of_cell p0)).trans p0) o
    have r1 : ∀ o, (w3.alloc o).cell? ⟨w.heap.size, 1, none⟩ = some (.slice wa m wc) := fun o => cell_up ((hbw3.cell (lt_of_cell p1)).trans p1) o
    have r2 : ∀ o, (w3.alloc o).cell? ⟨w.heap.size, 2, none⟩ = some (.int .i64 lk) := fun o => cell_up ((hbw3.cell (lt_of_cell p2)).trans p2) o
    have r3 : ∀ o, (w3.alloc o).cell? ⟨w.heap.size, 3, none⟩ = some (.int .i64 rg) := fun o => cell_up ((hbw3.cell (lt_of_cell p3)).trans p3) o
    have hJ1 := Hid.out (p := Hid _) (hI1.below hbw3)
    have hJ2 := Hid.out (p := Hid _) (hI2.below hbw3)
    clear hb3 hB3 hB2 p0 p1 p2 p3 hbw hI1 hI2
    go_wp2_with (fail)
    refine (HREF.out _ (hB4.alloc hB4.size _)).mono ?_
    rintro e w4 ⟨qa, ql, qc, ua, ul, uc, rfl, hK1, hK2, hb4⟩
    have hbw4 := ((Below.refl w3.heap.size w3).alloc (Nat.le_refl _) (.cells #[.int .i64 0, .int .i64 0, .int .i64 0] 31)).trans (hb4.mono (by simp))
    have hB5 : Below w.heap.size w w4 := hB4.trans (hbw4.mono hB4.size)
    have hT4 : w4.heap[w2.heap.size]? = some TC := (hbw4.block _ (box_lt hT)).trans hT
    have hF4 : w4.heap[w2.heap.size + 1]? = some (.cells #[.int .i64 0, .int .i64 0, .int .i64 0] 31) := (hbw4.block _ (box_lt hF)).trans hF
    have e1 : R.1.prints.length = pl := hJ1.out.is
    have e2 : R.1.prints.length = ql := hK1.is
    have e3 : R.1.words.length = vl := hJ2.out.is
    have e4 : R.1.words.length = ul := hK2.is
    obtain rfl : pl = ql := by omega
    obtain rfl : vl = ul := by omega
    have hpl' : pl ≤ 9223372036854775807 := by omega
    have hvl' : vl ≤ 9223372036854775807 := by omega
    rw [hTC] at hT4
    have t0 : ∀ o, (w4.alloc o).cell? ⟨w2.heap.size, 0, none⟩ = some (.slice pa pl pc) := fun o => box_cell (box_later hT4 o) rfl
    have t1 : ∀ o, (w4.alloc o).cell? ⟨w2.heap.size, 1, none⟩ = some (.int .i64 R.2.1) := fun o => box_cell (box_later hT4 o) rfl
    have t2 : ∀ o, (w4.alloc o).cell? ⟨w2.heap.size, 2, none⟩ = some (.slice va vl vc) := fun o => box_cell (box_later hT4 o) rfl
    have t3 : ∀ o, (w4.alloc o).cell? ⟨w2.heap.size, 3, none⟩ = some (.int .i64 (R.2.2 : Nat)) := fun o => box_cell (box_later hT4 o) rfl
    have i1 := Hid.out (p := Hid _) ((hJ1.out.below hbw4).iin)
    have i2 := Hid.out (p := Hid _) ((hJ2.out.below hbw4).iin)
    have i3 := Hid.out (p := Hid _) hK1.iin
    have i4 := Hid.out (p := Hid _) hK2.iin
    have HUP : ∀ o, Below w4.heap.size w4 (w4.alloc o) := fun o => (Below.refl _ _).alloc (Nat.le_refl _) o
    clear hT hF hJ1 hJ2 hK1 hK2 hb4 hbw3 hbw4 hB4 r0 r1 r2 r3 hT4 e1 e2 e3 e4 hpl hwl
    go_wp2_with (fail)
    refine (traces_same _ pa qa va ua pl pc qc vl vc uc R.2.1 (R.2.2 : Nat) _ _ (IIn.below (w := w4) (a := pa) (n := pl) (X := fun i => R.1.prints.getD i 0) i1.out (HUP _)) (IIn.below (w := w4) (a := qa) (n := pl) (X := fun i => R.1.prints.getD i 0) i3.out (HUP _)) (IIn.below (w := w4) (a := va) (n := vl) (X := fun i => R.1.words.getD i 0) i2.out (HUP _)) (IIn.below (w := w4) (a := ua) (n := vl) (X := fun i => R.1.words.getD i 0) i4.out (HUP _)) hpl' hvl').mono ?_
    rintro e w5 ⟨rfl, hb5⟩
    have hF5 : w5.heap[w2.heap.size + 1]? = some (.cells #[.int .i64 0, .int .i64 0, .int .i64 0] 31) := (hb5.block _ (by have := box_lt hF4; simp; omega)).trans (box_later hF4 _)
    have f0 : w5.cell? ⟨w2.heap.size + 1, 0, none⟩ = some (.int .i64 0) := box_cell hF5 rfl
    have hB6 : Below w.heap.size w w5 := (hB5.alloc hB5.size _).trans (hb5.mono (hB5.alloc hB5.size _).size)
    clear hb5 hF5 hF4 t0 t1 t2 t3 i1 i2 i3 i4 HUP
    go_wp2
    go_ret
    exact ⟨rfl, hB6⟩
end

end Go.Proofs.Ytipdnfpomdcenab
