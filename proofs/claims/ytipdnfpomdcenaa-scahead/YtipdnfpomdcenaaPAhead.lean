/-
  The law of scripts that go on with noughts, and of runs of one thread.
  The law of scripts that go on with noughts: where Check does not let the program pass.
-/
import Derived.Test.YtipdnfpomdcenaaKAhead
import Derived.Test.YtipdnfpomdcenaaPLaw3
namespace Go.Proofs.Ytipdnfpomdcenaa
section
open Go.RowKit

/-- The run of the statements' own program by no script. -/
theorem bufrun_any (d : Nat) (w W : World) (h : IsBuf d w W) : Calls Try.prog 9 #[prgV (some ⟨d + 3, 0, none⟩) 2 2 (some ⟨d + 4, 0, none⟩) 2 2 0 2, nilV] W fun e w' => ∃ pa pc va vl vc, e = .returned (.tuple #[.agg #[.slice pa 4 pc, .int .i64 0, .slice va vl vc, .int .i64 8], ints3 0 0 0]) ∧ IIn w' pa 4 (fun i => ([0, 0, 1, 1] : List Int).getD i 0) ∧ Below W.heap.size W w' := by
  have hz := h.size
  have := run_yes W (some ⟨d + 3, 0, none⟩) 2 2 (some ⟨d + 4, 0, none⟩) 2 0 2 [0, 0] [] none 0 ⟨bufA d, bufL, fun _ => 4, plainK, 0, 2⟩ rfl rfl bufX buf_chk h.prog buf_cok (by omega) (by decide) h.words (fun e => by cases e) (fun i hi => absurd hi (Nat.not_lt_zero _)) (Nat.le_refl _) (fun b o e => by cases e) (fun t b o i e ht => by
    simp only [Option.some.injEq, Addr.mk.injEq] at e
    refine ⟨by omega, fun b' o' e' _ => ?_⟩
    simp only [bufA, Option.some.injEq, Addr.mk.injEq] at e'
    omega)
  refine this.mono fun e w' ⟨t, he, pa, pl, pc, va, vl, vc, et, hI1, _, hb⟩ => ?_
  have h2 := buf_run0
  obtain ⟨R, hR⟩ : ∃ R, runX bufL bufX 0 5000 (beginX 2 [0, 0] 0 2) 0 [] = R := ⟨_, rfl⟩
  rw [hR] at h2
  have hR' : runX (Cd.mk (bufA d) bufL (fun _ => 4) plainK 0 2).L bufX 0 5000 (beginX 2 [0, 0] ((0 : Nat) : Int) ((2 : Nat) : Int)) 0 [] = R := hR
  rw [hR'] at et hI1
  have h4 : pl = 4 := by have := hI1.is; rw [h2.2] at this; exact this.symm
  subst h4
  have e1 : R.2.1 = 0 := by rw [h2.1]
  have e2 : R.2.2 = 8 := by rw [h2.1]
  rw [e1, e2] at et
  have et' : t = .agg #[.slice pa 4 pc, .int .i64 0, .slice va vl vc, .int .i64 8] := by simpa using et
  refine ⟨pa, pc, va, vl, vc, by rw [he, et'], ?_, hb⟩
  have := hI1.iin
  rw [h2.2] at this
  exact this

/-- A list of numbers of one's own, with two noughts behind it. -/
theorem app_two {W : World} {B : Nat} {a : Option Addr} {len c : Nat} {xs : List Int} (h : IsI W B a len c xs) (hB : B ≤ W.heap.size) (hl : (len + 2) * 8 ≤ 140737488355328) :
    ∃ g cap w3, (AppS #[23, 23] 23 #[.slice a len c, .slice (some ⟨W.heap.size, 0, none⟩) 2 2]).run Try.prog (W.alloc (.cells #[.int .i64 0, .int .i64 0] 3)) = .ok (.slice (some ⟨g, 0, none⟩) (len + 2) cap) w3 ∧ IsI w3 B (some ⟨g, 0, none⟩) (len + 2) cap (xs ++ [0, 0]) ∧ (W.alloc (.cells #[.int .i64 0, .int .i64 0] 3)).grownBy w3 (Value.slice a len c).ownBlock := by
  obtain ⟨i, hi, hz0, hz1, hz2⟩ := info_is infoI
  have hown' : (W.alloc (.cells #[.int .i64 0, .int .i64 0] 3)).ownsRow B 3 1 (.slice a len c) len (intsV xs) := h.own.alloc _
  obtain ⟨g, cap, w3, r1, r2, r3, r4, _⟩ := run_append_lies (P := Try.prog) (W.alloc (.cells #[.int .i64 0, .int .i64 0] 3)) 23 23 B 3 i (.int .i64 0) 1 8 Try.underlying23 hi hz0 hz1 hz2 rfl (by omega) (.slice a len c) len (intsV xs) hown' ⟨W.heap.size, 0, none⟩ 2 2 [.int .i64 0, .int .i64 0] rfl (World.news_of_block (cs := #[.int .i64 0, .int .i64 0]) (t := 3) (fr := (0, 0)) (heap_alloc_new W _)) (by simp [Value.oneCell']) (by omega) (by unfold maxLen; omega) hl (by simp; omega) (W.heap.size + 1) (by simp)
  refine ⟨g, cap, w3, r1, ⟨by simp [h.is], ?_⟩, r3⟩
  have e : intsV xs ++ [.int .i64 0, .int .i64 0] = intsV (xs ++ [0, 0]) := by simp [intsV]
  rw [← e]
  exact r2
end

section
open Go.RowKit

attribute [local go_sem ↓] appS_eq
set_option maxRecDepth 100000 in
set_option maxHeartbeats 3200000 in
theorem ahead_no (w : World) (ca : Option Addr) (n cc : Nat) (wa : Option Addr) (m wc : Nat) (lk rg : Int) (A : Nat → Option Addr) (L C : Nat → Nat) (X : Nat → Nat → Nat → Int) (x y z : Int) (HR : Hid (chk n L X m lk rg = (x, y, z))) (hx : (x != 0) = true) (hm : m ≤ 9223372036854775807) (hp : PIn w ca n A L C X) (sa : Option Addr) (sl sc : Nat) :
    Calls Try.prog 5 #[prgV ca n cc wa m wc lk rg, .slice sa sl sc] w fun e w' => e = .returned (.bool true) ∧ Below w.heap.size w w' := by
  obtain ⟨V0, hV0⟩ : ∃ V, V = w.alloc (boxQ ca n cc wa m wc lk rg) := ⟨_, rfl⟩
  have hz0 : V0.heap.size = w.heap.size + 1 := by rw [hV0]; simp
  have HB0 : Below w.heap.size w V0 := by rw [hV0]; exact (Below.refl _ _).alloc (Nat.le_refl _) _
  have hbx : V0.heap[w.heap.size]? = some (boxQ ca n cc wa m wc lk rg) := by rw [hV0]; exact heap_alloc_new _ _
  have HP : ∀ W, Below V0.heap.size V0 W → PIn W ca n A L C X := fun W hb => hp.below (HB0.trans (hb.mono HB0.size))
  have HBF : Hid (∀ W, W = V0 → Calls Try.prog 13 #[] W fun e w' => e = .returned (prgV (some ⟨w.heap.size + 1 + 3, 0, none⟩) 2 2 (some ⟨w.heap.size + 1 + 4, 0, none⟩) 2 2 0 2) ∧ IsBuf (w.heap.size + 1) V0 w') := fun W e => by
    rw [e]
    exact buffers_any _ (w.heap.size + 1) hz0
  have HV0 : Hid (V0 = w.alloc (boxQ ca n cc wa m wc lk rg)) := hV0
  clear hV0
  go_enter Try.func5, Try.ntmps5
  go_wp2_with (fail)
  refine Calls.mono (HBF.out _ HV0.out.symm) ?_
  rintro e w1 ⟨rfl, hbuf⟩
  have HRN := Hid.out (p := Hid _) (bufrun_any _ _ _ hbuf)
  have hB1 : Below V0.heap.size V0 w1 := hbuf.below
  clear hbuf HBF
  go_wp2_with (fail)
  refine Calls.mono HRN.out ?_
  rintro e w2 ⟨pa, pc, va, vl, vc, rfl, hI2, hb2⟩
  have hB2 : Below V0.heap.size V0 w2 := hB1.trans (hb2.mono hB1.size)
  have hz2 : w.heap.size + 1 ≤ w2.heap.size := by have := hB2.size; omega
  clear HRN hb2 hB1
  go_wp2_with (fail)
  obtain ⟨TC, hTC⟩ : ∃ o : Obj, o = .cells #[.slice pa 4 pc, .int .i64 0, .slice va vl vc, .int .i64 8] 32 := ⟨_, rfl⟩
  obtain ⟨FC, hFC⟩ : ∃ o : Obj, o = .cells #[.int .i64 0, .int .i64 0, .int .i64 0] 29 := ⟨_, rfl⟩
  obtain ⟨LC, hLC⟩ : ∃ o : Obj, o = .cells #[.int .i64 0, .int .i64 0, .int .i64 1, .int .i64 1] 3 := ⟨_, rfl⟩
  have hb3 : Below w2.heap.size w2 (((w2.alloc TC).alloc FC).alloc LC) := (((Below.refl _ _).alloc (Nat.le_refl _) _).alloc (by simp) _).alloc (by simp; omega) _
  have t3 : (((w2.alloc TC).alloc FC).alloc LC).heap[w2.heap.size]? = some TC := box_later (box_later (heap_alloc_new _ _) _) _
  have f3 : (((w2.alloc TC).alloc FC).alloc LC).heap[w2.heap.size + 1]? = some FC := box_later (by have := heap_alloc_new (w2.alloc TC) FC; rwa [World.size_alloc] at this) _
  have l3 : (((w2.alloc TC).alloc FC).alloc LC).heap[w2.heap.size + 1 + 1]? = some LC := by have := heap_alloc_new ((w2.alloc TC).alloc FC) LC; rwa [World.size_alloc, World.size_alloc] at this
  have j1 : IIn (((w2.alloc TC).alloc FC).alloc LC) pa 4 (fun i => ([0, 0, 1, 1] : List Int).getD i 0) := hI2.below hb3
  have j2 : IIn (((w2.alloc TC).alloc FC).alloc LC) (some ⟨w2.heap.size + 1 + 1, 0, none⟩) 4 (fun i => ([0, 0, 1, 1] : List Int).getD i 0) := fun i hi => ⟨w2.heap.size + 1 + 1, 0, rfl, by
    have l4 := l3.trans (congrArg some hLC)
    match i, hi with
    | 0, _ => exact box_cell l4 rfl
    | 1, _ => exact box_cell l4 rfl
    | 2, _ => exact box_cell l4 rfl
    | 3, _ => exact box_cell l4 rfl⟩
  have HKI := Hid.out (p := Hid _) (kints_same pa (some ⟨w2.heap.size + 1 + 1, 0, none⟩) 4 pc 4 (by decide) _ _ j1 j2)
  have hB3 : Below V0.heap.size V0 (((w2.alloc TC).alloc FC).alloc LC) := hB2.trans (hb3.mono hB2.size)
  rw [hTC, hFC, hLC] at HKI
  refine Calls.mono HKI.out ?_
  rw [← hTC, ← hFC, ← hLC]
  rintro e w3 ⟨rfl, hb4⟩
  have hB4 : Below V0.heap.size V0 w3 := hB3.trans (hb4.mono hB3.size)
  have t4 : w3.heap[w2.heap.size]? = some TC := (hb4.block _ (box_lt t3)).trans t3
  have f4 : w3.heap[w2.heap.size + 1]? = some FC := (hb4.block _ (box_lt f3)).trans f3
  have x4 : w3.heap[w.heap.size]? = some (boxQ ca n cc wa m wc lk rg) := (hB4.block _ (by omega)).trans hbx
  have p0 : w3.cell? ⟨w.heap.size, 0, none⟩ = some (.slice ca n cc) := box_cell x4 rfl
  have p1 : w3.cell? ⟨w.heap.size, 1, none⟩ = some (.slice wa m wc) := box_cell x4 rfl
  have p2 : w3.cell? ⟨w.heap.size, 2, none⟩ = some (.int .i64 lk) := box_cell x4 rfl
  have p3 : w3.cell? ⟨w.heap.size, 3, none⟩ = some (.int .i64 rg) := box_cell x4 rfl
  clear HKI hB3 hb4 t3 f3 l3 j1 j2 hI2 hb3 hB2 x4
  go_wp2_with (fail)
  refine (kvast_any _ _ _ _ _ _ _ _ A L C X hm _ (HP _ hB4)).mono ?_
  rintro e w4 ⟨⟨b, rfl⟩, hb5⟩
  have hB5 : Below V0.heap.size V0 w4 := hB4.trans (hb5.mono hB4.size)
  have t5 : w4.heap[w2.heap.size]? = some TC := (hb5.block _ (box_lt t4)).trans t4
  have f5 : w4.heap[w2.heap.size + 1]? = some FC := (hb5.block _ (box_lt f4)).trans f4
  have x5 : w4.heap[w.heap.size]? = some (boxQ ca n cc wa m wc lk rg) := (hB5.block _ (by omega)).trans hbx
  have q0 : w4.cell? ⟨w.heap.size, 0, none⟩ = some (.slice ca n cc) := box_cell x5 rfl
  have q1 : w4.cell? ⟨w.heap.size, 1, none⟩ = some (.slice wa m wc) := box_cell x5 rfl
  have q2 : w4.cell? ⟨w.heap.size, 2, none⟩ = some (.int .i64 lk) := box_cell x5 rfl
  have q3 : w4.cell? ⟨w.heap.size, 3, none⟩ = some (.int .i64 rg) := box_cell x5 rfl
  clear hB4 hb5 t4 f4 p0 p1 p2 p3 x5
  cases b with
  | true =>
    go_wp2
    go_ret
    exact ⟨rfl, HB0.trans (hB5.mono HB0.size)⟩
  | false =>
    go_wp2_with (fail)
    refine (run_no w4 ca n cc wa m wc lk rg A L C X x y z HR hx (HP _ hB5) sa sl sc).mono ?_
    rintro e w5 ⟨rfl, hb6⟩
    have hB6 : Below V0.heap.size V0 w5 := hB5.trans (hb6.mono hB5.size)
    have t6 : w5.heap[w2.heap.size]? = some TC := (hb6.block _ (box_lt t5)).trans t5
    have f6 : w5.heap[w2.heap.size + 1]? = some FC := (hb6.block _ (box_lt f5)).trans f5
    rw [hTC] at t6
    rw [hFC] at f6
    have r0 : w5.cell? ⟨w2.heap.size, 0, none⟩ = some (.slice pa 4 pc) := box_cell t6 rfl
    have r1 : w5.cell? ⟨w2.heap.size, 1, none⟩ = some (.int .i64 0) := box_cell t6 rfl
    have r2 : w5.cell? ⟨w2.heap.size, 2, none⟩ = some (.slice va vl vc) := box_cell t6 rfl
    have r3 : w5.cell? ⟨w2.heap.size, 3, none⟩ = some (.int .i64 8) := box_cell t6 rfl
    have s0 : w5.cell? ⟨w2.heap.size + 1, 0, none⟩ = some (.int .i64 0) := box_cell f6 rfl
    have s1 : w5.cell? ⟨w2.heap.size + 1, 1, none⟩ = some (.int .i64 0) := box_cell f6 rfl
    have s2 : w5.cell? ⟨w2.heap.size + 1, 2, none⟩ = some (.int .i64 0) := box_cell f6 rfl
    have rf : ∀ i, w5.frozen? ⟨w2.heap.size, i, none⟩ = false := fun i => box_free t6
    have sf : ∀ i, w5.frozen? ⟨w2.heap.size + 1, i, none⟩ = false := fun i => box_free f6
    have hB7 : Below w.heap.size w w5 := HB0.trans (hB6.mono HB0.size)
    have HB7 := Hid.out (p := Hid _) hB7
    clear hB6 hb6 t5 f5 t6 f6 hB5 hB7 q0 q1 q2 q3
    go_wp2
    go_ret
    have hle : w.heap.size ≤ w2.heap.size := by omega
    exact ⟨rfl, ((((((HB7.out.setCell hle _).setCell hle _).setCell hle _).setCell hle _).setCell (by show _ ≤ w2.heap.size + 1; omega) _).setCell (by show _ ≤ w2.heap.size + 1; omega) _).setCell (by show _ ≤ w2.heap.size + 1; omega) _⟩
end

end Go.Proofs.Ytipdnfpomdcenaa
