/-
  The law of the program with colours for registers: the walk, and for every program and all colours.
-/
import Derived.Test.YtocfocjnnjdcgaaDoorAlpH
import Derived.Test.YtocfocjnnjdcgaaDoorAlpK
import Derived.Test.YtocfocjnnjdcgaaDoorIntsS
import Derived.Test.YtocfocjnnjdcgaaDoorAlcC
import Derived.Test.YtocfocjnnjdcgaaDoorOwnS
import Derived.Test.YtocfocjnnjdcgaaDoorInProg
import Derived.Test.YtocfocjnnjdcgaaDoorCOkP
namespace Go.Proofs.YtocfocjnnjdcgaaDoor
open Go.RowKit

/-- A program with its words and its code where they lie. -/
abbrev prG (va : Option Addr) (vn vc : Nat) (ua : Option Addr) (un uc : Nat) (ql qr : Int) : Value := .agg #[.slice va vn vc, .slice ua un uc, .int .i64 ql, .int .i64 qr]
/-- What is told of the program's Apply: whether nothing came of it; the faults; and that it is the document's. -/
def AppG (OKd : World → Value → Prop) (P : Prop) (x y z gx gy gz : Int) (w' : World) (q : Value) (fx fy fz : Int) (bn : Bool) : Prop :=
  (∀ V, Below w'.heap.size w' V → Calls Tryd.prog 19 #[q] V fun e w'' => e = .returned (.bool bn) ∧ Below V.heap.size V w'') ∧
  (x ≠ 0 → fx = x ∧ fy = y ∧ fz = z ∧ bn = true) ∧ (x = 0 → ¬ P → fx = 11 ∧ fy = 0 ∧ fz = 0 ∧ bn = true) ∧ (x = 0 → P → gx ≠ 0 → fx = gx ∧ fy = gy ∧ fz = gz ∧ bn = true) ∧
  (x = 0 → P → gx = 0 → fx = 0 ∧ ∀ V v, Below w'.heap.size w' V → OKd V v → Calls Tryd.prog 22 #[q, v] V fun e w'' => e = .returned (.bool true) ∧ Below V.heap.size V w'')

set_option maxRecDepth 100000 in
set_option maxHeartbeats 6400000 in
theorem alp_walk (w : World) (ca : Option Addr) (n cc : Nat) (wa : Option Addr) (m wc0 : Nat) (lk rg x y z gx gy gz : Int) (ka : Option Addr) (kn kc : Nat) (P : Prop) (OKd : World → Value → Prop)
    (HV : Hid (∀ W, Below w.heap.size w W → Calls Tryd.prog 7 #[prgV ca n cc wa m wc0 lk rg] W fun e w' => ∃ b, e = .returned (.bool b) ∧ Below W.heap.size W w'))
    (HA : Hid (kn ≤ 100 → ∀ W, Below w.heap.size w W → Calls Tryd.prog 18 #[prgV ca n cc wa m wc0 lk rg, .slice ka kn kc] W fun e w' => ∃ va vn vc ua un uc ql qr fx fy fz bn, e = .returned (.tuple #[prG va vn vc ua un uc ql qr, ints3 fx fy fz]) ∧ Hid (AppG OKd P x y z gx gy gz w' (prG va vn vc ua un uc ql qr) fx fy fz bn) ∧ Below W.heap.size W w'))
    (HR : Hid (∀ W, Below w.heap.size w W → Calls Tryd.prog 10 #[prgV ca n cc wa m wc0 lk rg] W fun e w' => e = .returned (ints3 x y z) ∧ Below W.heap.size W w'))
    (HC : Hid (x = 0 → kn ≤ 100 → ∀ W, Below w.heap.size w W → Calls Tryd.prog 20 #[prgV ca n cc wa m wc0 lk rg, .slice ka kn kc] W (BoolQ W P)))
    (HD : Hid (x = 0 → P → ∀ W, Below w.heap.size w W → Calls Tryd.prog 21 #[prgV ca n cc wa m wc0 lk rg, .slice ka kn kc] W fun e w' => ∃ va vn vc ua un uc ql qr, e = .returned (.tuple #[prG va vn vc ua un uc ql qr, ints3 gx gy gz]) ∧ Hid (gx = 0 → ∀ V, Below w'.heap.size w' V → OKd V (prG va vn vc ua un uc ql qr)) ∧ Below W.heap.size W w')) :
    Calls Tryd.prog 5 #[prgV ca n cc wa m wc0 lk rg, .slice ka kn kc] w fun e w' => e = .returned (.bool true) ∧ Below w.heap.size w w' := by
  have HB0 := Hid.out (p := Hid _) (below_one w (.cells #[.slice ca n cc, .slice wa m wc0, .int .i64 lk, .int .i64 rg] 25))
  have hp0 := heap_alloc_new w (.cells #[.slice ca n cc, .slice wa m wc0, .int .i64 lk, .int .i64 rg] 25)
  obtain ⟨W0, hW0⟩ : ∃ V, w.alloc (.cells #[.slice ca n cc, .slice wa m wc0, .int .i64 lk, .int .i64 rg] 25) = V := ⟨_, rfl⟩
  rw [hW0] at HB0 hp0
  have HAT : Hid (∀ V, Below W0.heap.size W0 V → Below w.heap.size w V ∧ V.cell? ⟨w.heap.size, 0, none⟩ = some (.slice ca n cc) ∧ V.cell? ⟨w.heap.size, 1, none⟩ = some (.slice wa m wc0) ∧ V.cell? ⟨w.heap.size, 2, none⟩ = some (.int .i64 lk) ∧ V.cell? ⟨w.heap.size, 3, none⟩ = some (.int .i64 rg)) := fun V hb => by
    have e1 := blk hb hp0
    exact ⟨HB0.out.trans (hb.mono HB0.out.size), box_cell e1 rfl, box_cell e1 rfl, box_cell e1 rfl, box_cell e1 rfl⟩
  have HW0 := Hid.out (p := Hid _) hW0
  clear hp0 hW0
  go_enter Tryd.func5, Tryd.ntmps5
  go_wp2_with fail
  rw [HW0.out]
  refine Calls.mono (HV.out _ HB0.out) ?_
  rintro e w1 ⟨bv, rfl, hb1⟩
  obtain ⟨hw1, p0, p1, p2, p3⟩ := HAT.out w1 hb1
  have H1 := Hid.out (p := Hid _) (And.intro hb1 hw1)
  clear HV HW0 hb1 hw1
  cases bv with
  | true =>
    go_wp2_with fail
    go_ret
    exact ⟨rfl, H1.out.2⟩
  | false =>
    by_cases hk : 100 < kn
    · have hkI : (100 : Int) < (kn : Int) := by omega
      go_wp2_with fail
      go_ret
      exact ⟨rfl, H1.out.2⟩
    · have hkI : decide ((100 : Int) < (kn : Int)) = false := decide_eq_false (by omega)
      have hkI2 : decide (100 < kn) = false := decide_eq_false hk
      have HA1 := Hid.out (p := Hid _) (HA.out (by omega) w1 H1.out.2)
      have HKN := Hid.out (p := Hid _) (show kn ≤ 100 by omega)
      clear HA hk
      go_wp2_with fail
      clear hkI hkI2
      refine Calls.mono HA1.out ?_
      rintro e w2 ⟨va, vn, vc, ua, un, uc, ql, qr, fx, fy, fz, bn, rfl, HQ, hb2⟩
      clear p0 p1 p2 p3 HA1
      -- the program and the fault are kept
      have hb02 := H1.out.1.trans (hb2.mono H1.out.1.size)
      have h2 := two_at w2 (.cells #[.slice va vn vc, .slice ua un uc, .int .i64 ql, .int .i64 qr] 25) (.cells #[.int .i64 fx, .int .i64 fy, .int .i64 fz] 30)
      have hbN2 := hb02.trans (h2.1.mono hb02.size)
      obtain ⟨hwW2, p0, p1, p2, p3⟩ := HAT.out _ hbN2
      obtain ⟨W2, hW2⟩ : ∃ V, (w2.alloc (.cells #[.slice va vn vc, .slice ua un uc, .int .i64 ql, .int .i64 qr] 25)).alloc (.cells #[.int .i64 fx, .int .i64 fy, .int .i64 fz] 30) = V := ⟨_, rfl⟩
      have HW2 := Hid.out (p := Hid _) hW2
      rw [hW2] at h2 hbN2 hwW2
      have H2 := Hid.out (p := Hid _) (And.intro hbN2 h2)
      have HR2 := Hid.out (p := Hid _) (HR.out W2 hwW2)
      clear h2 hbN2 hb02 hb2 hW2 hwW2 HR H1
      go_wp2_with fail
      rw [HW2.out]
      refine Calls.mono HR2.out ?_
      rintro e w3 ⟨rfl, hb3⟩
      clear p0 p1 p2 p3 HR2 HW2
      have hb03 := H2.out.1.trans (hb3.mono H2.out.1.size)
      have hw23 := H2.out.2.1.trans (hb3.mono H2.out.2.1.size)
      have hN3 := heap_alloc_new w3 (.cells #[.int .i64 x, .int .i64 y, .int .i64 z] 30)
      have hbN3 := hb03.alloc hb03.size (.cells #[.int .i64 x, .int .i64 y, .int .i64 z] 30)
      have hwN3 := hw23.alloc hw23.size (.cells #[.int .i64 x, .int .i64 y, .int .i64 z] 30)
      have hq3 := box_later (blk hb3 H2.out.2.2.1) (.cells #[.int .i64 x, .int .i64 y, .int .i64 z] 30)
      have hf3 := box_later (blk hb3 H2.out.2.2.2) (.cells #[.int .i64 x, .int .i64 y, .int .i64 z] 30)
      have q0 := box_cell (i := 0) hq3 rfl
      have q1 := box_cell (i := 1) hq3 rfl
      have q2 := box_cell (i := 2) hq3 rfl
      have q3 := box_cell (i := 3) hq3 rfl
      obtain ⟨W3, hW3⟩ : ∃ V, w3.alloc (.cells #[.int .i64 x, .int .i64 y, .int .i64 z] 30) = V := ⟨_, rfl⟩
      have HW3 := Hid.out (p := Hid _) hW3
      rw [hW3] at hN3 hbN3 hwN3 hq3 hf3
      have H3 := Hid.out (p := Hid _) (And.intro hbN3 (And.intro hwN3 (And.intro hN3 (And.intro hq3 hf3))))
      have HN3 := Hid.out (p := Hid _) (HQ.out.1 W3 hwN3)
      clear hN3 hbN3 hwN3 hq3 hf3 hb03 hw23 hb3 hW3 H2
      go_wp2_with fail
      rw [HW3.out]
      refine Calls.mono HN3.out ?_
      rintro e w4 ⟨rfl, hb4⟩
      clear q0 q1 q2 q3 HN3 HW3
      have hb04 := H3.out.1.trans (hb4.mono H3.out.1.size)
      have hw24 := H3.out.2.1.trans (hb4.mono H3.out.2.1.size)
      have hn4 := blk hb4 H3.out.2.2.1
      have hq4 := blk hb4 H3.out.2.2.2.1
      have hf4 := blk hb4 H3.out.2.2.2.2
      obtain ⟨hw4, p0, p1, p2, p3⟩ := HAT.out _ hb04
      have i0 := box_cell (i := 0) hn4 rfl
      have i1 := box_cell (i := 1) hn4 rfl
      have i2 := box_cell (i := 2) hn4 rfl
      have j0 := box_cell (i := 0) hf4 rfl
      have j1 := box_cell (i := 1) hf4 rfl
      have j2 := box_cell (i := 2) hf4 rfl
      have H4 := Hid.out (p := Hid _) (And.intro hb04 (And.intro hw24 (And.intro hw4 (And.intro hq4 hf4))))
      clear hb04 hw24 hn4 hq4 hf4 hb4 hw4 H3
      by_cases hx : x = 0
      · subst hx
        have HC4 := Hid.out (p := Hid _) (HC.out (by trivial) HKN.out w4 H4.out.2.2.1)
        clear j0 j1 j2 i1 i2
        go_wp2_with fail
        refine Calls.mono HC4.out ?_
        rintro e w5 ⟨bw, rfl, hbw, hb5⟩
        clear p0 p1 p2 p3 i0 HC4
        have hb05 := H4.out.1.trans (hb5.mono H4.out.1.size)
        have hw25 := H4.out.2.1.trans (hb5.mono H4.out.2.1.size)
        have hq5 := blk hb5 H4.out.2.2.2.1
        have hf5 := blk hb5 H4.out.2.2.2.2
        obtain ⟨hw5, p0, p1, p2, p3⟩ := HAT.out _ hb05
        have j0 := box_cell (i := 0) hf5 rfl
        have j1 := box_cell (i := 1) hf5 rfl
        have j2 := box_cell (i := 2) hf5 rfl
        have H5 := Hid.out (p := Hid _) (And.intro hb05 (And.intro hw25 (And.intro hw5 (And.intro hq5 hf5))))
        clear hb05 hw25 hq5 hf5 hb5 hw5 H4
        cases bw with
        | false =>
          have hnP : ¬ P := fun h => by have := hbw.2 h; cases this
          obtain ⟨rfl, rfl, rfl, rfl⟩ := HQ.out.2.2.1 rfl hnP
          go_wp2_with fail
          go_ret
          exact ⟨rfl, H5.out.2.2.1⟩
        | true =>
          have hP : P := hbw.1 rfl
          have HD5 := Hid.out (p := Hid _) (HD.out (by trivial) hP w5 H5.out.2.2.1)
          have HP := Hid.out (p := Hid _) hP
          clear hbw hP j0 j1 j2
          go_wp2_with fail
          refine Calls.mono HD5.out ?_
          rintro e w6 ⟨va', vn', vc', ua', un', uc', ql', qr', rfl, HOK, hb6⟩
          clear p0 p1 p2 p3 HD5
          have hb06 := H5.out.1.trans (hb6.mono H5.out.1.size)
          have hw26 := H5.out.2.1.trans (hb6.mono H5.out.2.1.size)
          have h6 := two_at w6 (.cells #[.slice va' vn' vc', .slice ua' un' uc', .int .i64 ql', .int .i64 qr'] 25) (.cells #[.int .i64 gx, .int .i64 gy, .int .i64 gz] 30)
          have hb6N := hb06.trans (h6.1.mono hb06.size)
          have hw6N := hw26.trans (h6.1.mono hw26.size)
          have hq6 := box_later (box_later (blk hb6 H5.out.2.2.2.1) (.cells #[.slice va' vn' vc', .slice ua' un' uc', .int .i64 ql', .int .i64 qr'] 25)) (.cells #[.int .i64 gx, .int .i64 gy, .int .i64 gz] 30)
          have hf6 := box_later (box_later (blk hb6 H5.out.2.2.2.2) (.cells #[.slice va' vn' vc', .slice ua' un' uc', .int .i64 ql', .int .i64 qr'] 25)) (.cells #[.int .i64 gx, .int .i64 gy, .int .i64 gz] 30)
          have q0 := box_cell (i := 0) hq6 rfl
          have q1 := box_cell (i := 1) hq6 rfl
          have q2 := box_cell (i := 2) hq6 rfl
          have q3 := box_cell (i := 3) hq6 rfl
          have j0 := box_cell (i := 0) hf6 rfl
          have j1 := box_cell (i := 1) hf6 rfl
          have j2 := box_cell (i := 2) hf6 rfl
          have t0 := box_cell (i := 0) h6.2.1 rfl
          have t1 := box_cell (i := 1) h6.2.1 rfl
          have t2 := box_cell (i := 2) h6.2.1 rfl
          have t3 := box_cell (i := 3) h6.2.1 rfl
          have u0 := box_cell (i := 0) h6.2.2 rfl
          have u1 := box_cell (i := 1) h6.2.2 rfl
          have u2 := box_cell (i := 2) h6.2.2 rfl
          obtain ⟨W6, hW6⟩ : ∃ V, (w6.alloc (.cells #[.slice va' vn' vc', .slice ua' un' uc', .int .i64 ql', .int .i64 qr'] 25)).alloc (.cells #[.int .i64 gx, .int .i64 gy, .int .i64 gz] 30) = V := ⟨_, rfl⟩
          have HW6 := Hid.out (p := Hid _) hW6
          rw [hW6] at h6 hb6N hw6N hq6 hf6
          obtain ⟨hwW6, -, -, -, -⟩ := HAT.out _ hb6N
          have HWW := Hid.out (p := Hid _) hwW6
          by_cases hg : gx = 0
          · subst hg
            obtain ⟨rfl, hsm⟩ := HQ.out.2.2.2.2 rfl HP.out rfl
            have HSM := Hid.out (p := Hid _) (hsm W6 _ hw6N (HOK.out (by trivial) W6 h6.1))
            have HF6 := Hid.out (p := Hid _) hf6
            clear hsm h6 hb6N hw6N hq6 hf6 hb06 hw26 hb6 hW6 hwW6 H5 j0 j1 j2 u1 u2
            go_wp2_with fail
            try rw [HW6.out]
            refine Calls.mono HSM.out ?_
            rintro e w7 ⟨rfl, hb7⟩
            have j0 := box_cell (i := 0) (blk hb7 HF6.out) rfl
            have HFIN := Hid.out (p := Hid _) (HWW.out.trans (hb7.mono HWW.out.size))
            clear q0 q1 q2 q3 t0 t1 t2 t3 u0 hb7 HSM
            go_wp2_with fail
            go_ret
            exact ⟨rfl, HFIN.out⟩
          · have hg' : (gx != 0) = true := by simpa using hg
            obtain ⟨rfl, rfl, rfl, rfl⟩ := HQ.out.2.2.2.1 rfl HP.out hg
            clear h6 hb6N hw6N hq6 hf6 hb06 hw26 hb6 hW6 hwW6 H5 q0 q1 q2 q3 t0 t1 t2 t3
            go_wp2_with fail
            try rw [HW6.out]
            go_ret
            exact ⟨rfl, HWW.out⟩
      · have hx' : (x != 0) = true := by simpa using hx
        obtain ⟨rfl, rfl, rfl, rfl⟩ := HQ.out.2.1 hx
        clear p0 p1 p2 p3
        go_wp2_with fail
        go_ret
        exact ⟨rfl, H4.out.2.2.1⟩

end Go.Proofs.YtocfocjnnjdcgaaDoor
