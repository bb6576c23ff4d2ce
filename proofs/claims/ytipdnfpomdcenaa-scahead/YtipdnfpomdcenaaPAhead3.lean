/-
  The law of scripts that go on with noughts: where Check lets the program pass.
-/
import Derived.Test.YtipdnfpomdcenaaPAhead
import Derived.Test.YtipdnfpomdcenaaSet7
namespace Go.Proofs.Ytipdnfpomdcenaa
open Go.RowKit

attribute [local go_sem ↓] appS_eq
set_option maxRecDepth 100000 in
set_option maxHeartbeats 3200000 in
theorem ahead_yes (w : World) (ca : Option Addr) (n cc : Nat) (wa : Option Addr) (wc lk rg : Nat) (words script : List Int) (sa : Option Addr) (sc : Nat) (A : Nat → Option Addr) (L C : Nat → Nat) (X : Nat → Nat → Nat → Int) (HR : Hid (chk n L X words.length lk rg = (0, 0, 0))) (hp : PIn w ca n A L C X) (hc : COk n L X words.length lk rg) (hn0 : 0 < n) (hsl : (script.length + 2) * 8 ≤ 140737488355328) (hw : SIs w wa words) (hnil : wa = none → words = [] ∧ wc = 0) (hsi : SIs w sa script) (hscap : script.length ≤ sc)
    (hsaB : ∀ b o, sa = some ⟨b, o, none⟩ → b < w.heap.size) (hpb : ∀ t b o i, ca = some ⟨b, o, none⟩ → t < n → b < w.heap.size ∧ ∀ b' o', A t = some ⟨b', o', none⟩ → i < L t → b' < w.heap.size) :
    Calls Try.prog 5 #[prgV ca n cc wa words.length wc lk rg, .slice sa script.length sc] w fun e w' => e = .returned (.bool true) ∧ Below w.heap.size w w' := by
  obtain ⟨R, hR⟩ : ∃ R, runX L X 0 5000 (beginX n words lk rg) 0 script = R := ⟨_, rfl⟩
  have hfew := run_few hc 5000 (beginX n words lk rg) 0 script begin_ok
  rw [hR] at hfew
  have hf0 : (beginX n words lk rg).prints.length = 0 := rfl
  have hm64 := hc.m64
  have HRUN : Hid (∀ W (scr : List Int) (a : Option Addr) (c : Nat), Below w.heap.size w W → scr.length ≤ 9223372036854775807 → SIs W a scr → scr.length ≤ c → (∀ b o, a = some ⟨b, o, none⟩ → b < W.heap.size) → runX L X 0 5000 (beginX n words lk rg) 0 scr = R → Calls Try.prog 9 #[prgV ca n cc wa words.length wc lk rg, .slice a scr.length c] W fun e w' => ∃ pa pl pc va vl vc, e = .returned (.tuple #[.agg #[.slice pa pl pc, .int .i64 R.2.1, .slice va vl vc, .int .i64 (R.2.2 : Nat)], ints3 0 0 0]) ∧ Hid (IsI w' W.heap.size pa pl pc R.1.prints ∧ IsI w' W.heap.size va vl vc R.1.words) ∧ Below W.heap.size W w') := fun W scr a c hb h1 h2 h3 h4 h5 => by
    have := run_yes W ca n cc wa wc lk rg words scr a c ⟨A, L, C, plainK, 0, n⟩ rfl rfl X HR (hp.below hb) hc hn0 h1 (hw.below hb) hnil h2 h3 h4 (fun t b o i e ht => ⟨Nat.lt_of_lt_of_le (hpb t b o i e ht).1 hb.size, fun b' o' e' hi => Nat.lt_of_lt_of_le ((hpb t b o i e ht).2 b' o' e' hi) hb.size⟩)
    rw [show runX (Cd.mk A L C plainK 0 n).L X 0 5000 (beginX n words lk rg) 0 scr = R from h5] at this
    refine this.mono fun e w' ⟨t, he, pa, pl, pc, va, vl, vc, et, hI1, hI2, hb2⟩ => ⟨pa, pl, pc, va, vl, vc, ?_, ⟨hI1, hI2⟩, hb2⟩
    have et' : t = .agg #[.slice pa pl pc, .int .i64 R.2.1, .slice va vl vc, .int .i64 (R.2.2 : Nat)] := by simpa using et
    rw [he, et']
  have HR2 : Hid (runX L X 0 5000 (beginX n words lk rg) 0 (script ++ [0, 0]) = R) := by
    show _ = _
    rw [run_noughts _ _ _ _ _ (by simp)]; exact hR
  have HR3 : Hid (n = 1 → runX L X 0 5000 (beginX n words lk rg) 0 [] = R) := fun h1 => by
    rw [run_alone hc h1 5000 _ 0 [] script begin_ok]; exact hR
  have HSI : Hid (∀ W, Below w.heap.size w W → SIs W sa script) := fun W hb => hsi.below hb
  have HSA := Hid.out (p := Hid _) hsaB
  have hpl : R.1.prints.length ≤ 10000 := by omega
  have hwl : R.1.words.length ≤ 64 := by omega
  have hn4 : n ≤ 4 := hc.n4
  obtain ⟨m, hmm⟩ : ∃ m, words.length = m := ⟨_, rfl⟩
  obtain ⟨sl, hsll⟩ : ∃ sl, script.length = sl := ⟨_, rfl⟩
  have HSL : Hid (script.length = sl) := hsll
  have hm : m ≤ 9223372036854775807 := by omega
  rw [hmm] at HRUN hm64 ⊢
  have HR1 : Hid (runX L X 0 5000 (beginX n words lk rg) 0 script = R) := hR
  have HSCAP : Hid (sl ≤ sc ∧ (sl + 2) * 8 ≤ 140737488355328) := ⟨by omega, by omega⟩
  rw [hsll]
  clear hc hn0 hsl hw hnil hsi hscap hsaB hpb hR hfew hf0 hmm hsll
  obtain ⟨V0, hV0⟩ : ∃ V, V = w.alloc (boxQ ca n cc wa m wc (lk : Int) (rg : Int)) := ⟨_, rfl⟩
  have hz0 : V0.heap.size = w.heap.size + 1 := by rw [hV0]; simp
  have HB0 : Below w.heap.size w V0 := by rw [hV0]; exact (Below.refl _ _).alloc (Nat.le_refl _) _
  have hbx : V0.heap[w.heap.size]? = some (boxQ ca n cc wa m wc (lk : Int) (rg : Int)) := by rw [hV0]; exact heap_alloc_new _ _
  have HP : ∀ W, Below V0.heap.size V0 W → PIn W ca n A L C X := fun W hb => hp.below (HB0.trans (hb.mono HB0.size))
  have HBF : Hid (∀ W, W = V0 → Calls Try.prog 13 #[] W fun e w' => e = .returned (prgV (some ⟨w.heap.size + 1 + 3, 0, none⟩) 2 2 (some ⟨w.heap.size + 1 + 4, 0, none⟩) 2 2 0 2) ∧ IsBuf (w.heap.size + 1) V0 w') := fun W e => by
    rw [e]
    exact buffers_any _ (w.heap.size + 1) hz0
  have HV0 : Hid (V0 = w.alloc (boxQ ca n cc wa m wc (lk : Int) (rg : Int))) := hV0
  clear hV0
  go_enter Try.func5, Try.ntmps5
  go_wp2_with (fail)
  refine Calls.mono (HBF.out _ HV0.out.symm) ?_
  rintro e w1 ⟨rfl, hbuf⟩
  have HRN := Hid.out (p := Hid _) (bufrun_any _ _ _ hbuf)
  have hB1 : Below V0.heap.size V0 w1 := hbuf.below
  clear hbuf HBF
  go_wp2_with (fail)
  refine Calls.mono HRN.out ?_
  rintro e w2 ⟨pa, pc, va, vl, vc, rfl, hI2, hb2⟩
  have hB2 : Below V0.heap.size V0 w2 := hB1.trans (hb2.mono hB1.size)
  have hz2 : w.heap.size + 1 ≤ w2.heap.size := by have := hB2.size; omega
  clear HRN hb2 hB1
  go_wp2_with (fail)
  obtain ⟨TC, hTC⟩ : ∃ o : Obj, o = .cells #[.slice pa 4 pc, .int .i64 0, .slice va vl vc, .int .i64 8] 32 := ⟨_, rfl⟩
  obtain ⟨FC, hFC⟩ : ∃ o : Obj, o = .cells #[.int .i64 0, .int .i64 0, .int .i64 0] 29 := ⟨_, rfl⟩
  obtain ⟨LC, hLC⟩ : ∃ o : Obj, o = .cells #[.int .i64 0, .int .i64 0, .int .i64 1, .int .i64 1] 3 := ⟨_, rfl⟩
  have hb3 : Below w2.heap.size w2 (((w2.alloc TC).alloc FC).alloc LC) := (((Below.refl _ _).alloc (Nat.le_refl _) _).alloc (by simp) _).alloc (by simp; omega) _
  have t3 : (((w2.alloc TC).alloc FC).alloc LC).heap[w2.heap.size]? = some TC := box_later (box_later (heap_alloc_new _ _) _) _
  have f3 : (((w2.alloc TC).alloc FC).alloc LC).heap[w2.heap.size + 1]? = some FC := box_later (by have := heap_alloc_new (w2.alloc TC) FC; rwa [World.size_alloc] at this) _
  have l3 : (((w2.alloc TC).alloc FC).alloc LC).heap[w2.heap.size + 1 + 1]? = some LC := by have := heap_alloc_new ((w2.alloc TC).alloc FC) LC; rwa [World.size_alloc, World.size_alloc] at this
  have j1 : IIn (((w2.alloc TC).alloc FC).alloc LC) pa 4 (fun i => ([0, 0, 1, 1] : List Int).getD i 0) := hI2.below hb3
  have j2 : IIn (((w2.alloc TC).alloc FC).alloc LC) (some ⟨w2.heap.size + 1 + 1, 0, none⟩) 4 (fun i => ([0, 0, 1, 1] : List Int).getD i 0) := fun i hi => ⟨w2.heap.size + 1 + 1, 0, rfl, by
    have l4 := l3.trans (congrArg some hLC)
    match i, hi with
    | 0, _ => exact box_cell l4 rfl
    | 1, _ => exact box_cell l4 rfl
    | 2, _ => exact box_cell l4 rfl
    | 3, _ => exact box_cell l4 rfl⟩
  have HKI := Hid.out (p := Hid _) (kints_same pa (some ⟨w2.heap.size + 1 + 1, 0, none⟩) 4 pc 4 (by decide) _ _ j1 j2)
  have hB3 : Below V0.heap.size V0 (((w2.alloc TC).alloc FC).alloc LC) := hB2.trans (hb3.mono hB2.size)
  rw [hTC, hFC, hLC] at HKI
  refine Calls.mono HKI.out ?_
  rw [← hTC, ← hFC, ← hLC]
  rintro e w3 ⟨rfl, hb4⟩
  have hB4 : Below V0.heap.size V0 w3 := hB3.trans (hb4.mono hB3.size)
  have t4 : w3.heap[w2.heap.size]? = some TC := (hb4.block _ (box_lt t3)).trans t3
  have f4 : w3.heap[w2.heap.size + 1]? = some FC := (hb4.block _ (box_lt f3)).trans f3
  have x4 : w3.heap[w.heap.size]? = some (boxQ ca n cc wa m wc (lk : Int) (rg : Int)) := (hB4.block _ (by omega)).trans hbx
  have p0 : w3.cell? ⟨w.heap.size, 0, none⟩ = some (.slice ca n cc) := box_cell x4 rfl
  have p1 : w3.cell? ⟨w.heap.size, 1, none⟩ = some (.slice wa m wc) := box_cell x4 rfl
  have p2 : w3.cell? ⟨w.heap.size, 2, none⟩ = some (.int .i64 (lk : Int)) := box_cell x4 rfl
  have p3 : w3.cell? ⟨w.heap.size, 3, none⟩ = some (.int .i64 (rg : Int)) := box_cell x4 rfl
  clear HKI hB3 hb4 t3 f3 l3 j1 j2 hI2 hb3 hB2 x4
  go_wp2_with (fail)
  refine (kvast_any _ _ _ _ _ _ _ _ A L C X hm _ (HP _ hB4)).mono ?_
  rintro e w4 ⟨⟨b, rfl⟩, hb5⟩
  have hB5 : Below V0.heap.size V0 w4 := hB4.trans (hb5.mono hB4.size)
  have t5 : w4.heap[w2.heap.size]? = some TC := (hb5.block _ (box_lt t4)).trans t4
  have f5 : w4.heap[w2.heap.size + 1]? = some FC := (hb5.block _ (box_lt f4)).trans f4
  have x5 : w4.heap[w.heap.size]? = some (boxQ ca n cc wa m wc (lk : Int) (rg : Int)) := (hB5.block _ (by omega)).trans hbx
  have q0 : w4.cell? ⟨w.heap.size, 0, none⟩ = some (.slice ca n cc) := box_cell x5 rfl
  have q1 : w4.cell? ⟨w.heap.size, 1, none⟩ = some (.slice wa m wc) := box_cell x5 rfl
  have q2 : w4.cell? ⟨w.heap.size, 2, none⟩ = some (.int .i64 (lk : Int)) := box_cell x5 rfl
  have q3 : w4.cell? ⟨w.heap.size, 3, none⟩ = some (.int .i64 (rg : Int)) := box_cell x5 rfl
  clear hB4 hb5 t4 f4 p0 p1 p2 p3 x5
  cases b with
  | true =>
    go_wp2
    go_ret
    exact ⟨rfl, HB0.trans (hB5.mono HB0.size)⟩
  | false =>
    go_wp2_with (fail)
    obtain ⟨hscap, hslb⟩ := HSCAP.out
    have HW4 : Hid (Below w.heap.size w w4) := HB0.trans (hB5.mono HB0.size)
    have HC1 := HRUN.out w4 script sa sc HW4.out (by rw [HSL.out]; omega) (HSI.out _ HW4.out) (by rw [HSL.out]; exact hscap) (fun b o e => Nat.lt_of_lt_of_le (HSA.out b o e) HW4.out.size) HR1.out
    rw [HSL.out] at HC1
    refine HC1.mono ?_
    rintro e w5 ⟨qa, ql, qc, ua, ul, uc, rfl, HI5, hb6⟩
    clear HC1 q0 q1 q2 q3
    have hB6 : Below V0.heap.size V0 w5 := hB5.trans (hb6.mono hB5.size)
    have t6 : w5.heap[w2.heap.size]? = some TC := (hb6.block _ (box_lt t5)).trans t5
    have f6 : w5.heap[w2.heap.size + 1]? = some FC := (hb6.block _ (box_lt f5)).trans f5
    have hz5 : w2.heap.size + 1 < w4.heap.size := box_lt f5
    rw [hTC] at t6
    rw [hFC] at f6
    obtain ⟨W6, hW6⟩ : ∃ W, W = set7 w5 w2.heap.size (.slice qa ql qc) (.int .i64 R.2.1) (.slice ua ul uc) (.int .i64 (R.2.2 : Nat)) (.int .i64 0) (.int .i64 0) (.int .i64 0) := ⟨_, rfl⟩
    obtain ⟨T6, F6, K6, Z6⟩ := set7_is t6 f6 (.slice qa ql qc) (.int .i64 R.2.1) (.slice ua ul uc) (.int .i64 (R.2.2 : Nat)) (.int .i64 0) (.int .i64 0) (.int .i64 0)
    have hB7 : Below V0.heap.size V0 W6 := by rw [hW6]; exact set7_below hB6 (by omega) _ _ _ _ _ _ _
    rw [← hW6] at T6 F6 K6 Z6
    have hBW6 : Below w.heap.size w W6 := HB0.trans (hB7.mono HB0.size)
    have hP6 := HI5.out.1.apart7 (w' := W6) (fun j hj => K6 j (by omega) (by omega))
    have hU6 := HI5.out.2.apart7 (w' := W6) (fun j hj => K6 j (by omega) (by omega))
    have HEQ : Hid (ql = R.1.prints.length ∧ ul = R.1.words.length) := ⟨HI5.out.1.is.symm, HI5.out.2.is.symm⟩
    have x6 : W6.heap[w.heap.size]? = some (boxQ ca n cc wa m wc (lk : Int) (rg : Int)) := (hB7.block _ (by omega)).trans hbx
    obtain ⟨g1, cap1, w6, hrun1, hown1, hg1, hge1, hlt1⟩ := app_src W6 (W6.heap.size) (Nat.le_refl _) sa script sc (HSI.out _ hBW6) (by rw [HSL.out]; omega)
    rw [HSL.out] at hrun1 hown1
    have hb7 : Below W6.heap.size W6 w6 := ((Below.refl _ _).alloc (Nat.le_refl _) _).grown hg1 (by simp) (fun k hk => by simp at hk; omega)
    have hII : IsI w6 W6.heap.size (some ⟨g1, 0, none⟩) sl cap1 script := ⟨HSL.out, hown1⟩
    obtain ⟨g2, cap2, w7, hrun2, hI7, hg2⟩ := app_two hII hb7.size hslb
    have hb8 : Below W6.heap.size W6 w7 := (hb7.alloc hb7.size _).grown hg2 (by have := hb7.size; simp; omega) (fun k hk => by
      have : g1 = k := by simpa [Value.ownBlock] using hk
      omega)
    have hBW7 : Below w.heap.size w w7 := hBW6.trans (hb8.mono hBW6.size)
    have e1 := cell_up (box_cell (i := 0) T6 rfl)
    have hS7 : SIs w7 (some ⟨g2, 0, none⟩) (script ++ [0, 0]) := fun i hi => by
      obtain ⟨b, o, e, h1⟩ := hI7.iin i (by rw [← hI7.is]; exact hi)
      exact ⟨b, o, e, h1⟩
    have hcap2 : sl + 2 ≤ cap2 := by
      rcases hI7.own.2 with ⟨h0, _⟩ | ⟨g', cap', cur, hv', _, _, h5, _⟩
      · simp at h0
      · simp only [Value.slice.injEq, Option.some.injEq, Addr.mk.injEq, and_true] at hv'
        rw [hv'.2.2]; exact h5
    have hl2 : (script ++ [0, 0] : List Int).length = sl + 2 := by rw [List.length_append, HSL.out]; rfl
    have HC2 := HRUN.out w7 (script ++ [0, 0]) (some ⟨g2, 0, none⟩) cap2 hBW7 (by rw [hl2]; omega) hS7 (by rw [hl2]; exact hcap2) (fun b o e => by
      simp only [Option.some.injEq, Addr.mk.injEq] at e
      obtain ⟨_, _, _, h3⟩ := fam_block hI7.own (by omega)
      rw [← e.1]
      exact (hI7.own.lt g2 rfl).2) HR2.out
    rw [hl2] at HC2
    have HCC := Hid.out (p := Hid _) HC2
    have x7 : w7.heap[w.heap.size]? = some (boxQ ca n cc wa m wc (lk : Int) (rg : Int)) := (hb8.block _ (box_lt x6)).trans x6
    have r0 : w5.cell? ⟨w2.heap.size, 0, none⟩ = some (.slice pa 4 pc) := box_cell t6 rfl
    have r1 : w5.cell? ⟨w2.heap.size, 1, none⟩ = some (.int .i64 0) := box_cell t6 rfl
    have r2 : w5.cell? ⟨w2.heap.size, 2, none⟩ = some (.slice va vl vc) := box_cell t6 rfl
    have r3 : w5.cell? ⟨w2.heap.size, 3, none⟩ = some (.int .i64 8) := box_cell t6 rfl
    have s0 : w5.cell? ⟨w2.heap.size + 1, 0, none⟩ = some (.int .i64 0) := box_cell f6 rfl
    have s1 : w5.cell? ⟨w2.heap.size + 1, 1, none⟩ = some (.int .i64 0) := box_cell f6 rfl
    have s2 : w5.cell? ⟨w2.heap.size + 1, 2, none⟩ = some (.int .i64 0) := box_cell f6 rfl
    have rf : ∀ i, w5.frozen? ⟨w2.heap.size, i, none⟩ = false := fun i => box_free t6
    have sf : ∀ i, w5.frozen? ⟨w2.heap.size + 1, i, none⟩ = false := fun i => box_free f6
    have y0 : w7.cell? ⟨w.heap.size, 0, none⟩ = some (.slice ca n cc) := box_cell x7 rfl
    have y1 : w7.cell? ⟨w.heap.size, 1, none⟩ = some (.slice wa m wc) := box_cell x7 rfl
    have y2 : w7.cell? ⟨w.heap.size, 2, none⟩ = some (.int .i64 (lk : Int)) := box_cell x7 rfl
    have y3 : w7.cell? ⟨w.heap.size, 3, none⟩ = some (.int .i64 (rg : Int)) := box_cell x7 rfl
    have HBX := Hid.out (p := Hid _) (And.intro hb8 (And.intro T6 (And.intro F6 (And.intro Z6 (And.intro hB7 (And.intro x7 (And.intro hP6 hU6)))))))
    have hz6 : W6.heap.size = w5.heap.size := Z6
    rw [hW6] at hrun1
    have hsz7 : (set7 w5 w2.heap.size (.slice qa ql qc) (.int .i64 R.2.1) (.slice ua ul uc) (.int .i64 (R.2.2 : Nat)) (.int .i64 0) (.int .i64 0) (.int .i64 0)).heap.size = w5.heap.size := by rw [← hW6]; exact hz6
    rw [hsz7] at hrun1
    clear hm hslb hscap hcap2 HSCAP hB6 hb6 t5 f5 t6 f6 hB5 HC2 hb7 hb8 hII hI7 hg1 hg2 hown1 T6 F6 K6 Z6 hB7 x6 x7 hS7 e1 hBW6 hP6 hU6 HI5
    go_wp2_with (fail)
    refine Calls.mono HCC.out ?_
    rintro e w8 ⟨pa8, pl8, pc8, va8, vl8, vc8, rfl, HI8, hb9⟩
    clear HCC r0 r1 r2 r3 s0 s1 s2 rf sf y0 y1 y2 y3 hrun1 hrun2
    obtain ⟨hb8, T6, F6, Z6, hB7, x7, hP6, hU6⟩ := HBX.out
    obtain ⟨UC, hUC⟩ : ∃ o : Obj, o = .cells #[.slice pa8 pl8 pc8, .int .i64 R.2.1, .slice va8 vl8 vc8, .int .i64 (R.2.2 : Nat)] 32 := ⟨_, rfl⟩
    obtain ⟨GC, hGC⟩ : ∃ o : Obj, o = .cells #[.int .i64 0, .int .i64 0, .int .i64 0] 29 := ⟨_, rfl⟩
    have hbu : Below w8.heap.size w8 ((w8.alloc UC).alloc GC) := ((Below.refl _ _).alloc (Nat.le_refl _) _).alloc (by simp) _
    have hb10 : Below W6.heap.size W6 ((w8.alloc UC).alloc GC) := (hb8.trans (hb9.mono hb8.size)).trans (hbu.mono (by have := hb8.size; have := hb9.size; omega))
    have hB10 : Below V0.heap.size V0 ((w8.alloc UC).alloc GC) := hB7.trans (hb10.mono hB7.size)
    have t10 : ((w8.alloc UC).alloc GC).heap[w2.heap.size]? = _ := (hb10.block _ (box_lt T6)).trans T6
    have u10 : ((w8.alloc UC).alloc GC).heap[w8.heap.size]? = some UC := box_later (heap_alloc_new _ _) _
    have g10 : ((w8.alloc UC).alloc GC).heap[w8.heap.size + 1]? = some GC := by have := heap_alloc_new (w8.alloc UC) GC; rwa [World.size_alloc] at this
    have x10 : ((w8.alloc UC).alloc GC).heap[w.heap.size]? = _ := (hB10.block _ (by omega)).trans hbx
    have P10 := hP6.below hb10
    have U10 := hU6.below hb10
    have P8 := (HI8.out.1.below hbu).iin
    have U8 := (HI8.out.2.below hbu).iin
    have epl : pl8 = R.1.prints.length := HI8.out.1.is.symm
    have evl : vl8 = R.1.words.length := HI8.out.2.is.symm
    have hz8 : W6.heap.size ≤ w8.heap.size := by have := hb8.size; have := hb9.size; omega
    have hz28 : w2.heap.size + 1 < w8.heap.size := by have := box_lt F6; omega
    obtain rfl : pl8 = ql := by have := HEQ.out; omega
    obtain rfl : vl8 = ul := by have := HEQ.out; omega
    have hq63 : pl8 ≤ 9223372036854775807 := by omega
    have hu63 : vl8 ≤ 9223372036854775807 := by omega
    have HQU : Hid (pl8 ≤ 9223372036854775807 ∧ vl8 ≤ 9223372036854775807) := ⟨hq63, hu63⟩
    clear hq63 hu63
    obtain ⟨W9, hW9⟩ : ∃ W, W = ((w8.alloc UC).alloc GC) := ⟨_, rfl⟩
    have HT8 : Hid (Below w8.heap.size w8 W9 ∧ IIn w8 qa pl8 (fun i => R.1.prints.getD i 0) ∧ IIn w8 ua vl8 (fun i => R.1.words.getD i 0)) := ⟨by rw [hW9]; exact ((Below.refl _ _).alloc (Nat.le_refl _) _).alloc (by simp) _, hP6.below (hb8.trans (hb9.mono hb8.size)), hU6.below (hb8.trans (hb9.mono hb8.size))⟩
    have HLN : Hid (R.1.prints.length = pl8 ∧ R.1.words.length = vl8) := ⟨epl.symm, evl.symm⟩
    clear epl evl HEQ
    have HFIN : Hid (∀ W : World, Below V0.heap.size V0 W → Below w.heap.size w W) := fun W h => HB0.trans (h.mono HB0.size)
    have hz9 : W9.heap.size = w8.heap.size + 2 := by rw [hW9]; simp
    rw [← hW9] at hbu hb10 hB10 t10 u10 g10 x10 P10 U10 P8 U8
    rw [hUC] at u10
    rw [hGC] at g10
    have y0 : W9.cell? ⟨w.heap.size, 0, none⟩ = some (.slice ca n cc) := box_cell x10 rfl
    have y1 : W9.cell? ⟨w.heap.size, 1, none⟩ = some (.slice wa m wc) := box_cell x10 rfl
    have y2 : W9.cell? ⟨w.heap.size, 2, none⟩ = some (.int .i64 (lk : Int)) := box_cell x10 rfl
    have y3 : W9.cell? ⟨w.heap.size, 3, none⟩ = some (.int .i64 (rg : Int)) := box_cell x10 rfl
    have hA1 : ∀ W, Below W9.heap.size W9 W → W.cell? ⟨w2.heap.size, 0, none⟩ = some (.slice qa pl8 qc) ∧ W.cell? ⟨w2.heap.size, 1, none⟩ = some (.int .i64 R.2.1) ∧ W.cell? ⟨w2.heap.size, 2, none⟩ = some (.slice ua vl8 uc) ∧ W.cell? ⟨w2.heap.size, 3, none⟩ = some (.int .i64 (R.2.2 : Nat)) := fun W h => by
      have := (h.block _ (box_lt t10)).trans t10
      exact ⟨box_cell this rfl, box_cell this rfl, box_cell this rfl, box_cell this rfl⟩
    by_cases h1 : n = 1
    · subst h1
      have HC3 := HRUN.out W9 [] none 0 (HFIN.out _ hB10) (by decide) (fun i hi => absurd hi (Nat.not_lt_zero _)) (Nat.le_refl _) (fun b o e => by cases e) (HR3.out rfl)
      have HCC := Hid.out (p := Hid _) HC3
      have HA1 := Hid.out (p := Hid _) hA1
      have HPU := Hid.out (p := Hid _) (And.intro hB10 (And.intro P10 (And.intro U10 (And.intro u10 g10))))
      rw [hW9] at HCC
      rw [hW9] at y0 y1 y2 y3
      rw [hUC, hGC] at HCC y0 y1 y2 y3
      clear HC3 hA1 hB10 P10 U10 P8 U8 u10 g10 t10 x10 hbu hb10 hb9 hb8 T6 F6 hB7 x7 hP6 hU6 HI8
      go_wp2_with (fail)
      refine Calls.mono HCC.out ?_
      rw [← hUC, ← hGC, ← hW9]
      rintro e w10 ⟨pa9, pl9, pc9, va9, vl9, vc9, rfl, HI10, hb11⟩
      obtain ⟨hB10, P10, U10, u10, g10⟩ := HPU.out
      have u11 := (hb11.block _ (box_lt u10)).trans u10
      have g11 := (hb11.block _ (box_lt g10)).trans g10
      obtain ⟨a0, a1, a2, a3⟩ := HA1.out w10 hb11
      have hB11 : Below V0.heap.size V0 w10 := hB10.trans (hb11.mono hB10.size)
      obtain ⟨W12, hW12⟩ : ∃ W, W = set7 w10 w8.heap.size (.slice pa9 pl9 pc9) (.int .i64 R.2.1) (.slice va9 vl9 vc9) (.int .i64 (R.2.2 : Nat)) (.int .i64 0) (.int .i64 0) (.int .i64 0) := ⟨_, rfl⟩
      obtain ⟨T12, F12, K12, Z12⟩ := set7_is u11 g11 (.slice pa9 pl9 pc9) (.int .i64 R.2.1) (.slice va9 vl9 vc9) (.int .i64 (R.2.2 : Nat)) (.int .i64 0) (.int .i64 0) (.int .i64 0)
      rw [← hW12] at T12 F12 K12 Z12
      have P12 := HI10.out.1.apart7 (w' := W12) (fun j hj => K12 j (by omega) (by omega))
      have U12 := HI10.out.2.apart7 (w' := W12) (fun j hj => K12 j (by omega) (by omega))
      have hbv : Below V0.heap.size V0 W12 := by rw [hW12]; exact set7_below hB11 (by have := hB10.size; omega) _ _ _ _ _ _ _
      obtain rfl : pl9 = pl8 := by have h1 := HI10.out.1.is; have h2 := HLN.out.1; omega
      obtain rfl : vl9 = vl8 := by have h1 := HI10.out.2.is; have h2 := HLN.out.2; omega
      have h812 : Below w8.heap.size w8 W12 := by rw [hW12]; exact set7_below (HT8.out.1.trans (hb11.mono (by omega))) (Nat.le_refl _) _ _ _ _ _ _ _
      have n1 : ¬ w2.heap.size = w8.heap.size := by omega
      have n2 : ¬ w2.heap.size = w8.heap.size + 1 := by omega
      have n3 : ¬ w8.heap.size = w2.heap.size := by omega
      have n4 : ¬ w8.heap.size + 1 = w2.heap.size := by omega
      have v0 : w10.cell? ⟨w8.heap.size, 0, none⟩ = some (.slice pa8 pl9 pc8) := box_cell u11 rfl
      have v1 : w10.cell? ⟨w8.heap.size, 1, none⟩ = some (.int .i64 R.2.1) := box_cell u11 rfl
      have v2 : w10.cell? ⟨w8.heap.size, 2, none⟩ = some (.slice va8 vl9 vc8) := box_cell u11 rfl
      have v3 : w10.cell? ⟨w8.heap.size, 3, none⟩ = some (.int .i64 (R.2.2 : Nat)) := box_cell u11 rfl
      have z0 : w10.cell? ⟨w8.heap.size + 1, 0, none⟩ = some (.int .i64 0) := box_cell g11 rfl
      have z1 : w10.cell? ⟨w8.heap.size + 1, 1, none⟩ = some (.int .i64 0) := box_cell g11 rfl
      have z2 : w10.cell? ⟨w8.heap.size + 1, 2, none⟩ = some (.int .i64 0) := box_cell g11 rfl
      have vf : ∀ i, w10.frozen? ⟨w8.heap.size, i, none⟩ = false := fun i => box_free u11
      have zf : ∀ i, w10.frozen? ⟨w8.heap.size + 1, i, none⟩ = false := fun i => box_free g11
      have HK1 : Hid (∀ W, Below W12.heap.size W12 W → Calls Try.prog 14 #[.slice qa pl9 qc, .slice pa9 pl9 pc9] W fun e w' => e = .returned (.bool true) ∧ Below W12.heap.size W12 w') := fun W h => (kints_same qa pa9 pl9 qc pc9 HQU.out.1 _ W ((HT8.out.2.1.below h812).below h) (P12.below h)).mono fun e w' g => ⟨g.1, h.trans (g.2.mono h.size)⟩
      have HK2 : Hid (∀ W, Below W12.heap.size W12 W → Calls Try.prog 14 #[.slice ua vl9 uc, .slice va9 vl9 vc9] W fun e w' => e = .returned (.bool true) ∧ Below W12.heap.size W12 w') := fun W h => (kints_same ua va9 vl9 uc vc9 HQU.out.2 _ W ((HT8.out.2.2.below h812).below h) (U12.below h)).mono fun e w' g => ⟨g.1, h.trans (g.2.mono h.size)⟩
      have HAB : Hid (∀ W, Below W12.heap.size W12 W → (W.cell? ⟨w2.heap.size, 1, none⟩ = some (.int .i64 R.2.1) ∧ W.cell? ⟨w2.heap.size, 2, none⟩ = some (.slice ua vl9 uc) ∧ W.cell? ⟨w2.heap.size, 3, none⟩ = some (.int .i64 (R.2.2 : Nat))) ∧ (W.cell? ⟨w8.heap.size, 1, none⟩ = some (.int .i64 R.2.1) ∧ W.cell? ⟨w8.heap.size, 2, none⟩ = some (.slice va9 vl9 vc9) ∧ W.cell? ⟨w8.heap.size, 3, none⟩ = some (.int .i64 (R.2.2 : Nat))) ∧ W.cell? ⟨w8.heap.size + 1, 0, none⟩ = some (.int .i64 0)) := fun W h => by
        have k1 : ∀ i u, w10.cell? ⟨w2.heap.size, i, none⟩ = some u → W.cell? ⟨w2.heap.size, i, none⟩ = some u := fun i u hu => (h.cell (p := ⟨w2.heap.size, i, none⟩) (by show w2.heap.size < W12.heap.size; have h9 : w2.heap.size < w10.heap.size := lt_of_cell hu; omega)).trans ((World.cell?_of_block (K12 _ n1 n2)).trans hu)
        have k2 := (h.block _ (box_lt T12)).trans T12
        have k3 := (h.block _ (box_lt F12)).trans F12
        exact ⟨⟨k1 1 _ a1, k1 2 _ a2, k1 3 _ a3⟩, ⟨box_cell k2 rfl, box_cell k2 rfl, box_cell k2 rfl⟩, box_cell k3 rfl⟩
      have HBV := Hid.out (p := Hid _) hbv
      have HW12 : Hid (set7 w10 w8.heap.size (.slice pa9 pl9 pc9) (.int .i64 R.2.1) (.slice va9 vl9 vc9) (.int .i64 (R.2.2 : Nat)) (.int .i64 0) (.int .i64 0) (.int .i64 0) = W12) := hW12.symm
      clear HPU hB10 P10 U10 u10 g10 u11 g11 hB11 hW12 T12 F12 K12 Z12 P12 U12 hbv h812 HI10 hb11 HT8 HLN hW9 hUC hGC HA1 HCC
      go_wp2_with (fail)
      have HK1' := HK1.out W12 (Below.refl _ _)
      rw [← HW12.out] at HK1'
      refine Calls.mono HK1' ?_
      rw [HW12.out]
      rintro e w13 ⟨rfl, hb13⟩
      obtain ⟨⟨b1, b2, b3⟩, ⟨c1, c2, c3⟩, d0⟩ := HAB.out w13 hb13
      have HC2 := Hid.out (p := Hid _) (HK2.out w13 hb13)
      clear a0 a1 a2 a3 v0 v1 v2 v3 z0 z1 z2 vf zf hb13 HK1 HK2
      go_wp2_with (fail)
      refine Calls.mono HC2.out ?_
      rintro e w14 ⟨rfl, hb14⟩
      obtain ⟨⟨b1, b2, b3⟩, ⟨c1, c2, c3⟩, d0⟩ := HAB.out w14 hb14
      have HFF : Hid (Below w.heap.size w w14) := HFIN.out _ (HBV.out.trans (hb14.mono HBV.out.size))
      clear hb14 HC2 HAB
      go_wp2
      go_ret
      exact ⟨rfl, HFF.out⟩
    · have HK1 : Hid (∀ W, Below W9.heap.size W9 W → Calls Try.prog 14 #[.slice qa pl8 qc, .slice pa8 pl8 pc8] W fun e w' => e = .returned (.bool true) ∧ Below W9.heap.size W9 w') := fun W h => (kints_same qa pa8 pl8 qc pc8 HQU.out.1 _ W (P10.below h) (P8.below h)).mono fun e w' g => ⟨g.1, h.trans (g.2.mono h.size)⟩
      have HK2 : Hid (∀ W, Below W9.heap.size W9 W → Calls Try.prog 14 #[.slice ua vl8 uc, .slice va8 vl8 vc8] W fun e w' => e = .returned (.bool true) ∧ Below W9.heap.size W9 w') := fun W h => (kints_same ua va8 vl8 uc vc8 HQU.out.2 _ W (U10.below h) (U8.below h)).mono fun e w' g => ⟨g.1, h.trans (g.2.mono h.size)⟩
      have HAB : Hid (∀ W, Below W9.heap.size W9 W → (W.cell? ⟨w2.heap.size, 1, none⟩ = some (.int .i64 R.2.1) ∧ W.cell? ⟨w2.heap.size, 2, none⟩ = some (.slice ua vl8 uc) ∧ W.cell? ⟨w2.heap.size, 3, none⟩ = some (.int .i64 (R.2.2 : Nat))) ∧ (W.cell? ⟨w8.heap.size, 1, none⟩ = some (.int .i64 R.2.1) ∧ W.cell? ⟨w8.heap.size, 2, none⟩ = some (.slice va8 vl8 vc8) ∧ W.cell? ⟨w8.heap.size, 3, none⟩ = some (.int .i64 (R.2.2 : Nat))) ∧ W.cell? ⟨w8.heap.size + 1, 0, none⟩ = some (.int .i64 0)) := fun W h => by
        have k2 := (h.block _ (box_lt u10)).trans u10
        have k3 := (h.block _ (box_lt g10)).trans g10
        exact ⟨(hA1 W h).2, ⟨box_cell k2 rfl, box_cell k2 rfl, box_cell k2 rfl⟩, box_cell k3 rfl⟩
      have hb68 := hb8.trans (hb9.mono hb8.size)
      have t8 : w8.heap[w2.heap.size]? = _ := (hb68.block _ (box_lt T6)).trans T6
      have x8 : w8.heap[w.heap.size]? = _ := (hb9.block _ (box_lt x7)).trans x7
      have a0 := cell_up2 (box_cell (i := 0) t8 rfl)
      have y0' := cell_up2 (box_cell (i := 0) x8 rfl)
      have HBV := Hid.out (p := Hid _) hB10
      have HW9 : Hid (((w8.alloc (.cells #[.slice pa8 pl8 pc8, .int .i64 R.2.1, .slice va8 vl8 vc8, .int .i64 (R.2.2 : Nat)] 32)).alloc (.cells #[.int .i64 0, .int .i64 0, .int .i64 0] 29)) = W9) := by show _ = _; rw [hW9, hUC, hGC]
      clear y0 y1 y2 y3 t8 x8 hb68 hA1 hB10 P10 U10 P8 U8 u10 g10 t10 x10 hbu hb10 hb9 hb8 T6 F6 hB7 x7 hP6 hU6 HI8 hW9 hUC hGC HT8 HLN
      rcases (by omega : n = 0 ∨ n = 2 ∨ n = 3 ∨ n = 4) with rfl | rfl | rfl | rfl
      all_goals
        go_wp2_with (fail)
        rw [HW9.out]
        refine Calls.mono (HK1.out W9 (Below.refl _ _)) ?_
        rintro e w13 ⟨rfl, hb13⟩
        obtain ⟨⟨b1, b2, b3⟩, ⟨c1, c2, c3⟩, d0⟩ := HAB.out w13 hb13
        have HC2 := Hid.out (p := Hid _) (HK2.out w13 hb13)
        clear a0 y0' hb13 HK1 HK2
        go_wp2_with (fail)
        refine Calls.mono HC2.out ?_
        rintro e w14 ⟨rfl, hb14⟩
        obtain ⟨⟨b1, b2, b3⟩, ⟨c1, c2, c3⟩, d0⟩ := HAB.out w14 hb14
        have HFF : Hid (Below w.heap.size w w14) := HFIN.out _ (HBV.out.trans (hb14.mono HBV.out.size))
        clear hb14 HC2 HAB
        go_wp2
        go_ret
        exact ⟨rfl, HFF.out⟩

end Go.Proofs.Ytipdnfpomdcenaa
