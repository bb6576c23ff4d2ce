/-
  A trace and a fault are laid into boxes that hold others.
  The statements' own program of two threads, run with buffers; whether two lists are the same, where they need not be.
  The law of a thread alone, given what its two runs come to.
  The law of a thread alone.
-/
import Derived.Test.YtipdnfpomdcenabKAhead
import Derived.Test.YtipdnfpomdcenabBox
import Derived.Test.YtipdnfpomdcenabPTRunN
import Derived.Test.YtipdnfpomdcenabAlone
import Derived.Test.YtipdnfpomdcenabPRunN
import Derived.Test.YtipdnfpomdcenabSameI
namespace Go.Proofs.Ytipdnfpomdcenab
section
open Go.RowKit

/-- A trace and a fault are laid into their boxes. -/
abbrev set7 (w : World) (g : Nat) (a0 a1 a2 a3 b0 b1 b2 : Value) : World := ((((((w.setCell ⟨g, 0, none⟩ a0).setCell ⟨g, 1, none⟩ a1).setCell ⟨g, 2, none⟩ a2).setCell ⟨g, 3, none⟩ a3).setCell ⟨g + 1, 0, none⟩ b0).setCell ⟨g + 1, 1, none⟩ b1).setCell ⟨g + 1, 2, none⟩ b2
theorem set7_is {w : World} {g : Nat} {c0 c1 c2 c3 d0 d1 d2 : Value} {t f : TypeId} (ht : w.heap[g]? = some (.cells #[c0, c1, c2, c3] t)) (hf : w.heap[g + 1]? = some (.cells #[d0, d1, d2] f)) (a0 a1 a2 a3 b0 b1 b2 : Value) :
    (set7 w g a0 a1 a2 a3 b0 b1 b2).heap[g]? = some (.cells #[a0, a1, a2, a3] t) ∧ (set7 w g a0 a1 a2 a3 b0 b1 b2).heap[g + 1]? = some (.cells #[b0, b1, b2] f) ∧ (∀ j, j ≠ g → j ≠ g + 1 → (set7 w g a0 a1 a2 a3 b0 b1 b2).heap[j]? = w.heap[j]?) ∧ (set7 w g a0 a1 a2 a3 b0 b1 b2).heap.size = w.heap.size := by
  have n1 : g ≠ g + 1 := by omega
  have n2 : g + 1 ≠ g := by omega
  refine ⟨?_, ?_, fun j h1 h2 => ?_, by simp [set7, World.setCell]⟩
  · show (World.setCell _ _ _).heap[g]? = _
    rw [Below.heap_setCell _ _ _ _ n1, Below.heap_setCell _ _ _ _ n1, Below.heap_setCell _ _ _ _ n1]
    exact (heap_set_same (heap_set_same (heap_set_same (heap_set_same ht)))).trans rfl
  · have h1 : ((((w.setCell ⟨g, 0, none⟩ a0).setCell ⟨g, 1, none⟩ a1).setCell ⟨g, 2, none⟩ a2).setCell ⟨g, 3, none⟩ a3).heap[g + 1]? = some (.cells #[d0, d1, d2] f) := by
      rw [Below.heap_setCell _ _ _ _ n2, Below.heap_setCell _ _ _ _ n2, Below.heap_setCell _ _ _ _ n2, Below.heap_setCell _ _ _ _ n2]; exact hf
    exact (heap_set_same (heap_set_same (heap_set_same h1))).trans rfl
  · show (World.setCell _ _ _).heap[j]? = _
    rw [Below.heap_setCell _ _ _ _ h2, Below.heap_setCell _ _ _ _ h2, Below.heap_setCell _ _ _ _ h2, Below.heap_setCell _ _ _ _ h1, Below.heap_setCell _ _ _ _ h1, Below.heap_setCell _ _ _ _ h1, Below.heap_setCell _ _ _ _ h1]
theorem IsI.apart7 {w w' : World} {B : Nat} {a : Option Addr} {len c : Nat} {xs : List Int} (h : IsI w B a len c xs) (hk : ∀ j, B ≤ j → w'.heap[j]? = w.heap[j]?) : IIn w' a len (fun i => xs.getD i 0) :=
  IsI.iin (B := B) (c := c) ⟨h.is, fam_keeps h.own (fun g hg => hk g (h.own.lt g hg).1)⟩
theorem set7_below {w w5 : World} {B g : Nat} (h : Below B w w5) (hg : B ≤ g) (a0 a1 a2 a3 b0 b1 b2 : Value) : Below B w (set7 w5 g a0 a1 a2 a3 b0 b1 b2) :=
  ((((((h.setCell hg _).setCell hg _).setCell hg _).setCell hg _).setCell (by show _ ≤ g + 1; omega) _).setCell (by show _ ≤ g + 1; omega) _).setCell (by show _ ≤ g + 1; omega) _
end

section
open Go.RowKit

def bufS : List Int := [0, 0, 1, 0, 1, 1, 1, 1]
theorem buf_run1 : (runX bufL bufX 1 5000 (beginX 2 [0, 0] 0 2) 0 bufS).2.1 = 0 ∧ (runX bufL bufX 1 5000 (beginX 2 [0, 0] 0 2) 0 bufS).1.prints.length = 4 := ⟨by kernel_rfl, by kernel_rfl⟩
/-- The run of the statements' own program by its script, with buffers. -/
theorem tbufrun_any (d g : Nat) (w W W' : World) (h : IsBuf d w W) (hb : Below W.heap.size W W') (hs : SIs W' (some ⟨g, 0, none⟩) bufS) (hg : g < W'.heap.size) : Calls Try.prog 6 #[prgV (some ⟨d + 3, 0, none⟩) 2 2 (some ⟨d + 4, 0, none⟩) 2 2 0 2, .slice (some ⟨g, 0, none⟩) 8 8] W' fun e w' => ∃ pa pc va vl vc k, e = .returned (.tuple #[.agg #[.slice pa 4 pc, .int .i64 0, .slice va vl vc, .int .i64 k], ints3 0 0 0]) ∧ Below W'.heap.size W' w' := by
  have hz := h.size
  have hz' := hb.size
  have := trun_yes W' (some ⟨d + 3, 0, none⟩) 2 2 (some ⟨d + 4, 0, none⟩) 2 0 2 [0, 0] bufS (some ⟨g, 0, none⟩) 8 (bufA d) bufL (fun _ => 4) bufX buf_chk (h.prog.below hb) buf_cok (by omega) (by decide) (h.words.below hb) (fun e => by cases e) hs (Nat.le_refl _) (fun b o e => by
    simp only [Option.some.injEq, Addr.mk.injEq] at e
    omega) (fun t b o i e ht => by
    simp only [Option.some.injEq, Addr.mk.injEq] at e
    refine ⟨by omega, fun b' o' e' _ => ?_⟩
    simp only [bufA, Option.some.injEq, Addr.mk.injEq] at e'
    omega)
  refine this.mono fun e w' ⟨t, he, pa, pl, pc, va, vl, vc, et, hI1, _, hb⟩ => ?_
  have h2 := buf_run1
  obtain ⟨R, hR⟩ : ∃ R, runX bufL bufX 1 5000 (beginX 2 [0, 0] 0 2) 0 bufS = R := ⟨_, rfl⟩
  rw [hR] at h2
  have hR' : runX bufL bufX 1 5000 (beginX 2 [0, 0] ((0 : Nat) : Int) ((2 : Nat) : Int)) 0 bufS = R := hR
  rw [hR'] at et hI1
  have h4 : pl = 4 := by have := hI1.is; rw [h2.2] at this; exact this.symm
  subst h4
  rw [h2.1] at et
  have et' : t = .agg #[.slice pa 4 pc, .int .i64 0, .slice va vl vc, .int .i64 (R.2.2 : Nat)] := by simpa using et
  exact ⟨pa, pc, va, vl, vc, _, by rw [he, et'], hb⟩

set_option maxHeartbeats 800000 in
theorem kints_any (a a' : Option Addr) (n c c' : Nat) (hn : n ≤ 9223372036854775807) (X Y : Nat → Int) (w : World) (h : IIn w a n X) (h' : IIn w a' n Y) :
    Calls Try.prog 14 #[.slice a n c, .slice a' n c'] w fun e w' => IsBool e ∧ Below w.heap.size w w' := by
  go_enter Try.func14, Try.ntmps14
  go_wp2
  go_loopw [5] (fun i wr => ∃ k : Nat, k ≤ n ∧ i = .int .i64 k ∧ Below w.heap.size w wr) (fun i _ => n - (intOf i).toNat)
  case atStart => exact ⟨0, Nat.zero_le _, rfl, Below.refl _ _⟩
  case round =>
    obtain ⟨k, hk, rfl, hbr⟩ := hrel
    by_cases hlt : k < n
    · obtain ⟨b, o, rfl, hc⟩ := h.below hbr k hlt
      obtain ⟨b', o', rfl, hc'⟩ := h'.below hbr k hlt
      by_cases he : X k = Y k
      · rw [he] at hc
        go_wp2
        go_region
        all_goals go_wp2
        all_goals go_roundw
        case rel => exact ⟨k + 1, by omega, by go_num, hbr.drew⟩
        case measure => simp [intOf]; omega
      · go_wp2
        go_region
        all_goals go_wp2
        all_goals go_ret
        all_goals exact ⟨⟨_, rfl⟩, hbr.drew⟩
    · go_wp2
      go_ret
      exact ⟨⟨_, rfl⟩, hbr⟩

/-- What a run's call gives back: its trace's lists are its own. -/
def RunQ (W : World) (P V : List Int) (S K x y z : Int) (e : Ending) (w' : World) : Prop := ∃ pa pl pc va vl vc, e = .returned (.tuple #[.agg #[.slice pa pl pc, .int .i64 S, .slice va vl vc, .int .i64 K], ints3 x y z]) ∧ Hid (IsI w' W.heap.size pa pl pc P ∧ IsI w' W.heap.size va vl vc V) ∧ Below W.heap.size W w'
end

section
open Go.RowKit

set_option maxRecDepth 100000 in
set_option maxHeartbeats 3200000 in
theorem alone_walk (w : World) (ca : Option Addr) (n cc : Nat) (wa : Option Addr) (m wc : Nat) (lk rg : Int) (A : Nat → Option Addr) (L C : Nat → Nat) (X : Nat → Nat → Nat → Int) (hm : m ≤ 9223372036854775807) (hp : PIn w ca n A L C X) (sa : Option Addr) (sl sc : Nat) (Pt Vt Ps Vs : List Int) (S1 K1 S0 K0 x y z : Int)
    (HT : Hid (n = 1 → ∀ W, Below w.heap.size w W → Calls Try.prog 6 #[prgV ca n cc wa m wc lk rg, .slice sa sl sc] W (RunQ W Pt Vt S1 K1 x y z)))
    (HS : Hid (n = 1 → ∀ W, Below w.heap.size w W → Calls Try.prog 13 #[prgV ca n cc wa m wc lk rg, nilV] W (RunQ W Ps Vs S0 K0 x y z)))
    (HL : Hid (Pt.length ≤ 10000 ∧ Ps.length ≤ 10000 ∧ Vt.length ≤ 64 ∧ Vt.length = Vs.length)) (HA : Hid (n = 1 → x = 0 → S1 = 3 ∨ S0 = 3 ∨ (S1 = S0 ∧ Pt = Ps ∧ (Vt = Vs ∨ S1 = 1)))) :
    Calls Try.prog 4 #[prgV ca n cc wa m wc lk rg, .slice sa sl sc] w fun e w' => e = .returned (.bool true) ∧ Below w.heap.size w w' := by
  obtain ⟨V0, hV0⟩ : ∃ V, V = w.alloc (boxQ ca n cc wa m wc lk rg) := ⟨_, rfl⟩
  have hz0 : V0.heap.size = w.heap.size + 1 := by rw [hV0]; simp
  have HB0 : Below w.heap.size w V0 := by rw [hV0]; exact (Below.refl _ _).alloc (Nat.le_refl _) _
  have hbx : V0.heap[w.heap.size]? = some (boxQ ca n cc wa m wc lk rg) := by rw [hV0]; exact heap_alloc_new _ _
  have HP : ∀ W, Below V0.heap.size V0 W → PIn W ca n A L C X := fun W hb => hp.below (HB0.trans (hb.mono HB0.size))
  have HBF : Hid (∀ W, W = V0 → Calls Try.prog 11 #[] W fun e w' => e = .returned (prgV (some ⟨w.heap.size + 1 + 3, 0, none⟩) 2 2 (some ⟨w.heap.size + 1 + 4, 0, none⟩) 2 2 0 2) ∧ IsBuf (w.heap.size + 1) V0 w') := fun W e => by
    rw [e]
    exact buffers_any _ (w.heap.size + 1) hz0
  have HV0 : Hid (V0 = w.alloc (boxQ ca n cc wa m wc lk rg)) := hV0
  clear hV0
  go_enter Try.func4, Try.ntmps4
  go_wp2_with (fail)
  refine Calls.mono (HBF.out _ HV0.out.symm) ?_
  rintro e w1 ⟨rfl, hbuf⟩
  have hB1 : Below V0.heap.size V0 w1 := hbuf.below
  have HRN : Hid (Calls Try.prog 6 #[prgV (some ⟨w.heap.size + 1 + 3, 0, none⟩) 2 2 (some ⟨w.heap.size + 1 + 4, 0, none⟩) 2 2 0 2, .slice (some ⟨w1.heap.size, 0, none⟩) 8 8] (w1.alloc (.cells #[.int .i64 0, .int .i64 0, .int .i64 1, .int .i64 0, .int .i64 1, .int .i64 1, .int .i64 1, .int .i64 1] 3)) fun e w' => ∃ pa pc va vl vc k, e = .returned (.tuple #[.agg #[.slice pa 4 pc, .int .i64 0, .slice va vl vc, .int .i64 k], ints3 0 0 0]) ∧ Below V0.heap.size V0 w') := by
    obtain ⟨LC, hLC⟩ : ∃ o : Obj, o = .cells #[.int .i64 0, .int .i64 0, .int .i64 1, .int .i64 0, .int .i64 1, .int .i64 1, .int .i64 1, .int .i64 1] 3 := ⟨_, rfl⟩
    rw [← hLC]
    have l3 : (w1.alloc LC).heap[w1.heap.size]? = some LC := heap_alloc_new _ _
    have hb : Below w1.heap.size w1 (w1.alloc LC) := (Below.refl _ _).alloc (Nat.le_refl _) _
    have hBL : Below V0.heap.size V0 (w1.alloc LC) := hB1.trans (hb.mono hB1.size)
    refine (tbufrun_any _ w1.heap.size _ _ _ hbuf hb (fun i hi => ⟨w1.heap.size, 0, rfl, ?_⟩) (by simp)).mono fun e w' ⟨pa, pc, va, vl, vc, k, he, hb2⟩ => ⟨pa, pc, va, vl, vc, k, he, hBL.trans (hb2.mono hBL.size)⟩
    have l4 := l3.trans (congrArg some hLC)
    match i, hi with
    | 0, _ => exact box_cell l4 rfl
    | 1, _ => exact box_cell l4 rfl
    | 2, _ => exact box_cell l4 rfl
    | 3, _ => exact box_cell l4 rfl
    | 4, _ => exact box_cell l4 rfl
    | 5, _ => exact box_cell l4 rfl
    | 6, _ => exact box_cell l4 rfl
    | 7, _ => exact box_cell l4 rfl
  clear HBF hbuf
  go_wp2_with (fail)
  refine Calls.mono HRN.out ?_
  rintro e w2 ⟨pa, pc, va, vl, vc, k, rfl, hB2⟩
  have hz2 : w.heap.size + 1 ≤ w2.heap.size := by have := hB2.size; omega
  clear HRN hB1
  obtain ⟨TC, hTC⟩ : ∃ o : Obj, o = .cells #[.slice pa 4 pc, .int .i64 0, .slice va vl vc, .int .i64 k] 28 := ⟨_, rfl⟩
  obtain ⟨FC, hFC⟩ : ∃ o : Obj, o = .cells #[.int .i64 0, .int .i64 0, .int .i64 0] 31 := ⟨_, rfl⟩
  have hb3 : Below w2.heap.size w2 ((w2.alloc TC).alloc FC) := ((Below.refl _ _).alloc (Nat.le_refl _) _).alloc (by simp) _
  have t3 : ((w2.alloc TC).alloc FC).heap[w2.heap.size]? = some TC := box_later (heap_alloc_new _ _) _
  have f3 : ((w2.alloc TC).alloc FC).heap[w2.heap.size + 1]? = some FC := by have := heap_alloc_new (w2.alloc TC) FC; rwa [World.size_alloc] at this
  have hB3 : Below V0.heap.size V0 ((w2.alloc TC).alloc FC) := hB2.trans (hb3.mono hB2.size)
  have HKV := Hid.out (p := Hid _) (kvast_any ca n cc wa m wc lk rg A L C X hm _ (HP _ hB3))
  have x4 : ((w2.alloc TC).alloc FC).heap[w.heap.size]? = some (boxQ ca n cc wa m wc lk rg) := (hB3.block _ (by omega)).trans hbx
  have p0 : ((w2.alloc TC).alloc FC).cell? ⟨w.heap.size, 0, none⟩ = some (.slice ca n cc) := box_cell x4 rfl
  have p1 : ((w2.alloc TC).alloc FC).cell? ⟨w.heap.size, 1, none⟩ = some (.slice wa m wc) := box_cell x4 rfl
  have p2 : ((w2.alloc TC).alloc FC).cell? ⟨w.heap.size, 2, none⟩ = some (.int .i64 lk) := box_cell x4 rfl
  have p3 : ((w2.alloc TC).alloc FC).cell? ⟨w.heap.size, 3, none⟩ = some (.int .i64 rg) := box_cell x4 rfl
  rw [hTC, hFC] at p0 p1 p2 p3 HKV
  go_wp2_with (fail)
  refine Calls.mono HKV.out ?_
  rw [← hTC, ← hFC]
  rintro e w3 ⟨⟨b, rfl⟩, hb4⟩
  have hB4 : Below V0.heap.size V0 w3 := hB3.trans (hb4.mono hB3.size)
  have t4 : w3.heap[w2.heap.size]? = some TC := (hb4.block _ (box_lt t3)).trans t3
  have f4 : w3.heap[w2.heap.size + 1]? = some FC := (hb4.block _ (box_lt f3)).trans f3
  have x5 : w3.heap[w.heap.size]? = some (boxQ ca n cc wa m wc lk rg) := (hB4.block _ (by omega)).trans hbx
  have q0 : w3.cell? ⟨w.heap.size, 0, none⟩ = some (.slice ca n cc) := box_cell x5 rfl
  have q1 : w3.cell? ⟨w.heap.size, 1, none⟩ = some (.slice wa m wc) := box_cell x5 rfl
  have q2 : w3.cell? ⟨w.heap.size, 2, none⟩ = some (.int .i64 lk) := box_cell x5 rfl
  have q3 : w3.cell? ⟨w.heap.size, 3, none⟩ = some (.int .i64 rg) := box_cell x5 rfl
  clear HKV hB3 hb4 t3 f3 hb3 hB2 x4 p0 p1 p2 p3 x5
  by_cases h1 : n = 1
  rotate_left
  · have HW4 : Hid (Below w.heap.size w w3) := HB0.trans (hB4.mono HB0.size)
    clear hB4 t4 f4
    cases b with
    | true =>
      go_wp2
      go_ret
      exact ⟨rfl, HW4.out⟩
    | false =>
      go_wp2
      all_goals go_ret
      all_goals exact ⟨rfl, HW4.out⟩
  subst h1
  have HT1 := Hid.out (p := Hid _) (HT.out rfl)
  have HS1 := Hid.out (p := Hid _) (HS.out rfl)
  have HA1 := Hid.out (p := Hid _) (HA.out rfl)
  clear HT HS HA
  cases b with
  | true =>
    have HW4 : Hid (Below w.heap.size w w3) := HB0.trans (hB4.mono HB0.size)
    clear hB4 t4 f4
    go_wp2
    go_ret
    exact ⟨rfl, HW4.out⟩
  | false =>
    go_wp2_with (fail)
    have HW4 : Hid (Below w.heap.size w w3) := HB0.trans (hB4.mono HB0.size)
    refine Calls.mono (HT1.out w3 HW4.out) ?_
    rintro e w4 ⟨qa, ql, qc, ua, ul, uc, rfl, HI4, hb4⟩
    clear HT1 q0 q1 q2 q3
    have hB5 : Below V0.heap.size V0 w4 := hB4.trans (hb4.mono hB4.size)
    have t5 : w4.heap[w2.heap.size]? = some TC := (hb4.block _ (box_lt t4)).trans t4
    have f5 : w4.heap[w2.heap.size + 1]? = some FC := (hb4.block _ (box_lt f4)).trans f4
    have hz5 : w2.heap.size + 1 < w3.heap.size := box_lt f4
    have hz6 := hb4.size
    rw [hTC] at t5
    rw [hFC] at f5
    obtain ⟨W5, hW5⟩ : ∃ W, W = set7 w4 w2.heap.size (.slice qa ql qc) (.int .i64 S1) (.slice ua ul uc) (.int .i64 K1) (.int .i64 x) (.int .i64 y) (.int .i64 z) := ⟨_, rfl⟩
    obtain ⟨T5, F5, K5, Z5⟩ := set7_is t5 f5 (.slice qa ql qc) (.int .i64 S1) (.slice ua ul uc) (.int .i64 K1) (.int .i64 x) (.int .i64 y) (.int .i64 z)
    have hB6 : Below V0.heap.size V0 W5 := by rw [hW5]; exact set7_below hB5 (by omega) _ _ _ _ _ _ _
    rw [← hW5] at T5 F5 K5 Z5
    have hBW5 : Below w.heap.size w W5 := HB0.trans (hB6.mono HB0.size)
    have hP5 := Hid.out (p := Hid _) (HI4.out.1.apart7 (w' := W5) (fun j hj => K5 j (by omega) (by omega)))
    have hU5 := Hid.out (p := Hid _) (HI4.out.2.apart7 (w' := W5) (fun j hj => K5 j (by omega) (by omega)))
    have HEQ : Hid (ql = Pt.length ∧ ul = Vt.length) := ⟨HI4.out.1.is.symm, HI4.out.2.is.symm⟩
    have x4 : w4.heap[w.heap.size]? = some (boxQ ca 1 cc wa m wc lk rg) := (hB5.block _ (by omega)).trans hbx
    have q0 : w4.cell? ⟨w.heap.size, 0, none⟩ = some (.slice ca 1 cc) := box_cell x4 rfl
    have q1 : w4.cell? ⟨w.heap.size, 1, none⟩ = some (.slice wa m wc) := box_cell x4 rfl
    have q2 : w4.cell? ⟨w.heap.size, 2, none⟩ = some (.int .i64 lk) := box_cell x4 rfl
    have q3 : w4.cell? ⟨w.heap.size, 3, none⟩ = some (.int .i64 rg) := box_cell x4 rfl
    have r0 : w4.cell? ⟨w2.heap.size, 0, none⟩ = some (.slice pa 4 pc) := box_cell t5 rfl
    have r1 : w4.cell? ⟨w2.heap.size, 1, none⟩ = some (.int .i64 0) := box_cell t5 rfl
    have r2 : w4.cell? ⟨w2.heap.size, 2, none⟩ = some (.slice va vl vc) := box_cell t5 rfl
    have r3 : w4.cell? ⟨w2.heap.size, 3, none⟩ = some (.int .i64 k) := box_cell t5 rfl
    have s0 : w4.cell? ⟨w2.heap.size + 1, 0, none⟩ = some (.int .i64 0) := box_cell f5 rfl
    have s1 : w4.cell? ⟨w2.heap.size + 1, 1, none⟩ = some (.int .i64 0) := box_cell f5 rfl
    have s2 : w4.cell? ⟨w2.heap.size + 1, 2, none⟩ = some (.int .i64 0) := box_cell f5 rfl
    have rf : ∀ i, w4.frozen? ⟨w2.heap.size, i, none⟩ = false := fun i => box_free t5
    have sf : ∀ i, w4.frozen? ⟨w2.heap.size + 1, i, none⟩ = false := fun i => box_free f5
    have n1 : ¬ w.heap.size = w2.heap.size := by omega
    have n2 : ¬ w.heap.size = w2.heap.size + 1 := by omega
    have n3 : ¬ w2.heap.size = w.heap.size := by omega
    have n4 : ¬ w2.heap.size + 1 = w.heap.size := by omega
    have HB6 := Hid.out (p := Hid _) hB6
    have HT5 : Hid (W5.heap[w2.heap.size]? = some (.cells #[.slice qa ql qc, .int .i64 S1, .slice ua ul uc, .int .i64 K1] 28) ∧ W5.heap[w2.heap.size + 1]? = some (.cells #[.int .i64 x, .int .i64 y, .int .i64 z] 31)) := ⟨T5, F5⟩
    have HW5 : Hid (set7 w4 w2.heap.size (.slice qa ql qc) (.int .i64 S1) (.slice ua ul uc) (.int .i64 K1) (.int .i64 x) (.int .i64 y) (.int .i64 z) = W5) := hW5.symm
    have HC2 := HS1.out W5 hBW5
    rw [← HW5.out] at HC2
    have HC3 := Hid.out (p := Hid _) HC2
    clear HS1 HC2 hB4 hB5 hB6 hBW5 t4 f4 t5 f5 T5 F5 K5 Z5 hW5 x4 HI4 hb4 hbx
    go_wp2_with (fail)
    refine Calls.mono HC3.out ?_
    rw [HW5.out]
    rintro e w6 ⟨ra, rl, rc, va2, vl2, vc2, rfl, HI6, hb6⟩
    clear HC3 HW5 r0 r1 r2 r3 s0 s1 s2 rf sf q0 q1 q2 q3 n1 n2 n3 n4
    obtain ⟨UC, hUC⟩ : ∃ o : Obj, o = .cells #[.slice ra rl rc, .int .i64 S0, .slice va2 vl2 vc2, .int .i64 K0] 28 := ⟨_, rfl⟩
    obtain ⟨GC, hGC⟩ : ∃ o : Obj, o = .cells #[.int .i64 x, .int .i64 y, .int .i64 z] 31 := ⟨_, rfl⟩
    obtain ⟨W7, hW7⟩ : ∃ W, W = (w6.alloc UC).alloc GC := ⟨_, rfl⟩
    have hb7 : Below w6.heap.size w6 W7 := by rw [hW7]; exact ((Below.refl _ _).alloc (Nat.le_refl _) _).alloc (by simp) _
    have hb8 : Below W5.heap.size W5 W7 := hb6.trans (hb7.mono hb6.size)
    have hB7 : Below V0.heap.size V0 W7 := HB6.out.trans (hb8.mono HB6.out.size)
    have u7 : W7.heap[w6.heap.size]? = some UC := by rw [hW7]; exact box_later (heap_alloc_new _ _) _
    have g7 : W7.heap[w6.heap.size + 1]? = some GC := by rw [hW7]; have := heap_alloc_new (w6.alloc UC) GC; rwa [World.size_alloc] at this
    have t7 := (hb8.block _ (box_lt HT5.out.1)).trans HT5.out.1
    have f7 := (hb8.block _ (box_lt HT5.out.2)).trans HT5.out.2
    have hFIN : ∀ W, Below W7.heap.size W7 W → Below w.heap.size w W := fun W h => HB0.trans ((hB7.trans (h.mono hB7.size)).mono HB0.size)
    have HFIN := Hid.out (p := Hid _) hFIN
    rw [hUC] at u7
    rw [hGC] at g7
    have HAB : Hid (∀ W, Below W7.heap.size W7 W → (W.cell? ⟨w2.heap.size, 0, none⟩ = some (.slice qa ql qc) ∧ W.cell? ⟨w2.heap.size, 1, none⟩ = some (.int .i64 S1) ∧ W.cell? ⟨w2.heap.size, 2, none⟩ = some (.slice ua ul uc)) ∧ (W.cell? ⟨w6.heap.size, 0, none⟩ = some (.slice ra rl rc) ∧ W.cell? ⟨w6.heap.size, 1, none⟩ = some (.int .i64 S0) ∧ W.cell? ⟨w6.heap.size, 2, none⟩ = some (.slice va2 vl2 vc2)) ∧ W.cell? ⟨w2.heap.size + 1, 0, none⟩ = some (.int .i64 x) ∧ W.cell? ⟨w6.heap.size + 1, 0, none⟩ = some (.int .i64 x)) := fun W h => by
      have k1 := (h.block _ (box_lt t7)).trans t7
      have k2 := (h.block _ (box_lt u7)).trans u7
      have k3 := (h.block _ (box_lt f7)).trans f7
      have k4 := (h.block _ (box_lt g7)).trans g7
      exact ⟨⟨box_cell k1 rfl, box_cell k1 rfl, box_cell k1 rfl⟩, ⟨box_cell k2 rfl, box_cell k2 rfl, box_cell k2 rfl⟩, box_cell k3 rfl, box_cell k4 rfl⟩
    have HW7 : Hid ((w6.alloc (.cells #[.slice ra rl rc, .int .i64 S0, .slice va2 vl2 vc2, .int .i64 K0] 28)).alloc (.cells #[.int .i64 x, .int .i64 y, .int .i64 z] 31) = W7) := by show _ = _; rw [hW7, hUC, hGC]
    have hI1 := Hid.out (p := Hid _) (IIn.below hP5.out hb8)
    have hI2 := Hid.out (p := Hid _) (IIn.below hU5.out hb8)
    have hI3 := Hid.out (p := Hid _) ((HI6.out.1.below hb7).iin)
    have hI4 := Hid.out (p := Hid _) ((HI6.out.2.below hb7).iin)
    have HEQ2 : Hid (rl = Ps.length ∧ vl2 = Vs.length) := ⟨HI6.out.1.is.symm, HI6.out.2.is.symm⟩
    have c0 : ∀ j v, W7.cell? ⟨w2.heap.size, j, none⟩ = some v → ((w6.alloc (.cells #[.slice ra rl rc, .int .i64 S0, .slice va2 vl2 vc2, .int .i64 K0] 28)).alloc (.cells #[.int .i64 x, .int .i64 y, .int .i64 z] 31)).cell? ⟨w2.heap.size, j, none⟩ = some v := fun j v h => by rw [HW7.out]; exact h
    have c1 : ∀ j v, W7.cell? ⟨w2.heap.size + 1, j, none⟩ = some v → ((w6.alloc (.cells #[.slice ra rl rc, .int .i64 S0, .slice va2 vl2 vc2, .int .i64 K0] 28)).alloc (.cells #[.int .i64 x, .int .i64 y, .int .i64 z] 31)).cell? ⟨w2.heap.size + 1, j, none⟩ = some v := fun j v h => by rw [HW7.out]; exact h
    obtain ⟨⟨a0, a1, a2⟩, _, a3, _⟩ := HAB.out W7 (Below.refl _ _)
    have d0 := c0 _ _ a0
    have d1 := c0 _ _ a1
    have d2 := c0 _ _ a2
    have d3 := c1 _ _ a3
    clear a0 a1 a2 a3 c0 c1 hb7 hb8 hB7 u7 g7 t7 f7 hFIN hW7 hUC hGC hTC hFC hP5 hU5 HI6 hb6 HB6 HT5 HP HV0 hz0 hp hm HW4
    by_cases hx : x = 0
    rotate_left
    · have hx' : (x != 0) = true := by simpa using hx
      clear HAB HA1 hI1 hI2 hI3 hI4 HEQ HEQ2 HL
      go_wp2
      go_ret
      rw [HW7.out]
      exact ⟨rfl, HFIN.out _ (Below.refl _ _)⟩
    subst hx
    have hA := HA1.out rfl
    clear HA1
    by_cases h3 : S1 = 3
    · subst h3
      clear HAB hA hI1 hI2 hI3 hI4 HEQ HEQ2 HL
      go_wp2
      go_ret
      rw [HW7.out]
      exact ⟨rfl, HFIN.out _ (Below.refl _ _)⟩
    by_cases h4 : S0 = 3
    · subst h4
      clear HAB hA hI1 hI2 hI3 hI4 HEQ HEQ2 HL
      go_wp2
      go_ret
      rw [HW7.out]
      exact ⟨rfl, HFIN.out _ (Below.refl _ _)⟩
    obtain ⟨rfl, rfl, hv⟩ : S1 = S0 ∧ Pt = Ps ∧ (Vt = Vs ∨ S1 = 1) := by
      rcases hA with h | h | h
      · exact absurd h h3
      · exact absurd h h4
      · exact h
    obtain ⟨e1, e2⟩ := HEQ.out
    obtain ⟨e3, e4⟩ := HEQ2.out
    obtain ⟨l1, l2, l3, l4⟩ := HL.out
    obtain rfl : ql = rl := by omega
    obtain rfl : ul = vl2 := by omega
    have HK1 : Hid (Calls Try.prog 14 #[.slice qa ql qc, .slice ra ql rc] W7 fun e w' => e = .returned (.bool true) ∧ Below W7.heap.size W7 w') := kints_same qa ra ql qc rc (by omega) _ W7 hI1.out hI3.out
    have HK2 : Hid (∀ W, Below W7.heap.size W7 W → Calls Try.prog 14 #[.slice ua ul uc, .slice va2 ul vc2] W fun e w' => ∃ b, e = .returned (.bool b) ∧ (b = true ∨ S1 = 1) ∧ Below W7.heap.size W7 w') := fun W h => by
      rcases hv with hv | hv
      · subst hv
        exact (kints_same ua va2 ul uc vc2 (by omega) _ W (IIn.below hI2.out h) (IIn.below hI4.out h)).mono fun e w' g => ⟨true, g.1, Or.inl rfl, h.trans (g.2.mono h.size)⟩
      · exact (kints_any ua va2 ul uc vc2 (by omega) _ _ W (IIn.below hI2.out h) (IIn.below hI4.out h)).mono fun e w' ⟨⟨b, g1⟩, g2⟩ => ⟨b, g1, Or.inr hv, h.trans (g2.mono h.size)⟩
    clear hA hI1 hI2 hI3 hI4 HEQ HEQ2 HL e1 e2 e3 e4 l1 l2 l3 l4 hv
    go_wp2_with (fail)
    rw [HW7.out]
    refine Calls.mono HK1.out ?_
    rintro e w8 ⟨rfl, hb8⟩
    obtain ⟨⟨b0, b1, b2⟩, ⟨c0, c1, c2⟩, _⟩ := HAB.out w8 hb8
    have HC2 := Hid.out (p := Hid _) (HK2.out w8 hb8)
    clear d0 d1 d2 d3 hb8 HK1 HK2
    go_wp2_with (fail)
    refine Calls.mono HC2.out ?_
    rintro e w9 ⟨b, rfl, hbv, hb9⟩
    obtain ⟨⟨b0, b1, b2⟩, ⟨c0, c1, c2⟩, _⟩ := HAB.out w9 hb9
    have HFF : Hid (Below w.heap.size w w9) := HFIN.out _ hb9
    clear hb9 HC2 HAB HFIN
    cases b with
    | true =>
      clear hbv
      go_wp2
      go_ret
      exact ⟨rfl, HFF.out⟩
    | false =>
      obtain rfl : S1 = 1 := by
        rcases hbv with h | h
        · cases h
        · exact h
      go_wp2
      go_ret
      exact ⟨rfl, HFF.out⟩
end

section
open Go.RowKit

/-- A run's prints and words are few. -/
theorem few_any {n : Nat} {L : Nat → Nat} {X : Nat → Nat → Nat → Int} {m lk rg : Nat} {mode : Int} (hm0 : 0 ≤ mode) (hc : COk n L X m lk rg) : ∀ (f : Nat) (s : Sx) (k : Nat) (sc : List Int), SOk n L m lk rg mode s → (runX L X mode f s k sc).1.prints.length ≤ s.prints.length + 2 * f ∧ (runX L X mode f s k sc).1.words.length = m
  | f, s, k, sc, h => by
    by_cases he : endedX L s = true
    · rw [runX]
      simp only [he, if_true]
      exact ⟨by omega, h.words⟩
    · have he : endedX L s = false := by simpa using he
      by_cases hm : movesX L X mode s = []
      · rw [runX]
        simp only [he, hm]
        exact ⟨by simp, by simpa using h.words⟩
      · cases f with
        | zero =>
          have hi : (movesX L X mode s).isEmpty = false := by cases hl : movesX L X mode s with
            | nil => exact absurd hl hm
            | cons a l => rfl
          rw [runX]
          simp only [he, hi]
          exact ⟨by simp, by simpa using h.words⟩
        | succ f =>
          rw [run_step he hm]
          have hl : 0 < (movesX L X mode s).length := List.length_pos_iff.mpr hm
          have hlt := pick_lt (movesX L X mode s).length sc hl
          have key : ∀ (s' : Sx), SOk n L m lk rg mode s' → s'.prints.length ≤ s.prints.length + 2 → doX X mode s ((movesX L X mode s).getD (pickX (movesX L X mode s).length sc).1 0).toNat = s' → (if (doX X mode s ((movesX L X mode s).getD (pickX (movesX L X mode s).length sc).1 0).toNat).fell = true then (doX X mode s ((movesX L X mode s).getD (pickX (movesX L X mode s).length sc).1 0).toNat, (1 : Int), k + 1) else runX L X mode f (doX X mode s ((movesX L X mode s).getD (pickX (movesX L X mode s).length sc).1 0).toNat) (k + 1) (pickX (movesX L X mode s).length sc).2).1.prints.length ≤ s.prints.length + 2 * (f + 1) ∧ (if (doX X mode s ((movesX L X mode s).getD (pickX (movesX L X mode s).length sc).1 0).toNat).fell = true then (doX X mode s ((movesX L X mode s).getD (pickX (movesX L X mode s).length sc).1 0).toNat, (1 : Int), k + 1) else runX L X mode f (doX X mode s ((movesX L X mode s).getD (pickX (movesX L X mode s).length sc).1 0).toNat) (k + 1) (pickX (movesX L X mode s).length sc).2).1.words.length = m := fun s' h1 h2 e => by
            rw [e]
            split
            · exact ⟨by show s'.prints.length ≤ _; omega, h1.words⟩
            · have := few_any hm0 hc f s' (k + 1) (pickX (movesX L X mode s).length sc).2 h1
              exact ⟨by omega, this.2⟩
          rcases movesX_mem (List.getElem_mem hlt) with ⟨t, ht, e, ha⟩ | ⟨t, q, ht, hq, e, _⟩
          · have e2 : (movesX L X mode s).getD (pickX (movesX L X mode s).length sc).1 0 = 8 * (t : Int) := by
              rw [List.getD_eq_getElem?_getD, List.getElem?_eq_getElem hlt]; exact e
            have e3 : (8 * (t : Int)).toNat = 8 * t := by omega
            rw [h.ths] at ht
            exact key _ (h.step hc hm0 ht ha) prints_step (by rw [e2, e3])
          · have e2 : (movesX L X mode s).getD (pickX (movesX L X mode s).length sc).1 0 = 8 * (t : Int) + (q : Int) + 1 := by
              rw [List.getD_eq_getElem?_getD, List.getElem?_eq_getElem hlt]; exact e
            have e3 : (8 * (t : Int) + (q : Int) + 1).toNat = 8 * t + q + 1 := by omega
            rw [h.ths] at ht
            have hw := h.wlen t ht
            exact key _ (h.wait (X := X) ht hq) (by rw [prints_wait (by omega)]; omega) (by rw [e2, e3])

theorem tsoAlone_any (w : World) (ca : Option Addr) (n cc : Nat) (wa : Option Addr) (wc : Nat) (lk rg : Int) (words script : List Int) (sa : Option Addr) (sc : Nat) (A : Nat → Option Addr) (L C : Nat → Nat) (X : Nat → Nat → Nat → Int) (hm : words.length ≤ 9223372036854775807) (hp : PIn w ca n A L C X) (hsl : script.length ≤ 9223372036854775807) (hw : SIs w wa words) (hnil : wa = none → words = [] ∧ wc = 0) (hsi : SIs w sa script) (hscap : script.length ≤ sc) (hsaB : ∀ b o, sa = some ⟨b, o, none⟩ → b < w.heap.size) :
    Calls Try.prog 4 #[prgV ca n cc wa words.length wc lk rg, .slice sa script.length sc] w fun e w' => e = .returned (.bool true) ∧ Below w.heap.size w w' := by
  obtain ⟨x, y, z, hR⟩ : ∃ x y z, chk n L X words.length lk rg = (x, y, z) := ⟨_, _, _, rfl⟩
  by_cases hx : x = 0
  · obtain ⟨rfl, rfl, hn0, lk', rg', rfl, rfl, hc⟩ := chk_cok hR hx
    subst hx
    have hpb : ∀ t b o i, ca = some ⟨b, o, none⟩ → t < n → b < w.heap.size ∧ ∀ b' o', A t = some ⟨b', o', none⟩ → i < L t → b' < w.heap.size := fun t b o i e ht => by
      obtain ⟨b1, o1, e1, h1⟩ := hp.code t ht
      rw [e] at e1
      simp only [Option.some.injEq, Addr.mk.injEq] at e1
      refine ⟨by rw [e1.1]; exact lt_of_cell h1, fun b' o' e' hi => ?_⟩
      obtain ⟨b2, o2, e2, h2, _⟩ := hp.ord t i ht hi
      rw [e'] at e2
      simp only [Option.some.injEq, Addr.mk.injEq] at e2
      rw [e2.1]
      exact lt_of_cell h2
    obtain ⟨R1, hR1⟩ : ∃ R, runX L X 1 5000 (beginX n words lk' rg') 0 script = R := ⟨_, rfl⟩
    obtain ⟨R0, hR0⟩ : ∃ R, runX L X 0 5000 (beginX n words lk' rg') 0 [] = R := ⟨_, rfl⟩
    have hf1 := few_any (mode := 1) (by decide) hc 5000 (beginX n words lk' rg') 0 script begin_ok
    have hf0 := few_any (mode := 0) (by decide) hc 5000 (beginX n words lk' rg') 0 [] begin_ok
    have hz : (beginX n words lk' rg').prints.length = 0 := rfl
    have hm64 := hc.m64
    rw [hR1] at hf1
    rw [hR0] at hf0
    refine alone_walk w ca n cc wa words.length wc lk' rg' A L C X hm hp sa script.length sc R1.1.prints R1.1.words R0.1.prints R0.1.words R1.2.1 (R1.2.2 : Nat) R0.2.1 (R0.2.2 : Nat) 0 0 0 (fun _ W hb => ?_) (fun _ W hb => ?_) ⟨by omega, by omega, by omega, by omega⟩ (fun h1 _ => ?_)
    · have := trun_yes W ca n cc wa wc lk' rg' words script sa sc A L C X hR (hp.below hb) hc hn0 hsl (hw.below hb) hnil (hsi.below hb) hscap (fun b o e => Nat.lt_of_lt_of_le (hsaB b o e) hb.size) (fun t b o i e ht => ⟨Nat.lt_of_lt_of_le (hpb t b o i e ht).1 hb.size, fun b' o' e' hi => Nat.lt_of_lt_of_le ((hpb t b o i e ht).2 b' o' e' hi) hb.size⟩)
      rw [hR1] at this
      refine this.mono fun e w' ⟨t, he, pa, pl, pc, va, vl, vc, et, hI1, hI2, hb2⟩ => ⟨pa, pl, pc, va, vl, vc, ?_, ⟨hI1, hI2⟩, hb2⟩
      have et' : t = .agg #[.slice pa pl pc, .int .i64 R1.2.1, .slice va vl vc, .int .i64 (R1.2.2 : Nat)] := by simpa using et
      rw [he, et']
    · have := run_yes W ca n cc wa wc lk' rg' words [] none 0 ⟨A, L, C, plainK, 0, n⟩ rfl rfl X hR (hp.below hb) hc hn0 (by simp) (hw.below hb) hnil (fun i hi => absurd hi (Nat.not_lt_zero _)) (Nat.le_refl _) (fun b o e => by cases e) (fun t b o i e ht => ⟨Nat.lt_of_lt_of_le (hpb t b o i e ht).1 hb.size, fun b' o' e' hi => Nat.lt_of_lt_of_le ((hpb t b o i e ht).2 b' o' e' hi) hb.size⟩)
      rw [show runX (Cd.mk A L C plainK 0 n).L X 0 5000 (beginX n words lk' rg') 0 [] = R0 from hR0] at this
      refine this.mono fun e w' ⟨t, he, pa, pl, pc, va, vl, vc, et, hI1, hI2, hb2⟩ => ⟨pa, pl, pc, va, vl, vc, ?_, ⟨hI1, hI2⟩, hb2⟩
      have et' : t = .agg #[.slice pa pl pc, .int .i64 R0.2.1, .slice va vl vc, .int .i64 (R0.2.2 : Nat)] := by simpa using et
      rw [he, et']
    · subst h1
      have := alone_run hc 5000 (beginX 1 words lk' rg') 0 script 5000 (beginX 1 words lk' rg') 0 [] alone_begin begin_ok
      rw [hR1, hR0] at this
      exact this
  · have hx' : (x != 0) = true := by simpa using hx
    refine alone_walk w ca n cc wa words.length wc lk rg A L C X hm hp sa script.length sc [] [] [] [] 0 0 0 0 x y z (fun _ W hb => ?_) (fun _ W hb => ?_) ⟨by simp, by simp, by simp, rfl⟩ (fun _ h => absurd h hx)
    · exact (trun_no W ca n cc wa words.length wc lk rg A L C X x y z hR hx' (hp.below hb) sa script.length sc).mono fun e w' ⟨he, hb2⟩ => ⟨none, 0, 0, none, 0, 0, he, ⟨IsI.nil _ _, IsI.nil _ _⟩, hb2⟩
    · exact (run_no W ca n cc wa words.length wc lk rg A L C X x y z hR hx' (hp.below hb) none 0 0).mono fun e w' ⟨he, hb2⟩ => ⟨none, 0, 0, none, 0, 0, he, ⟨IsI.nil _ _, IsI.nil _ _⟩, hb2⟩
end

end Go.Proofs.Ytipdnfpomdcenab
