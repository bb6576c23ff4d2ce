/-
  The law of programs with few registers that come to the same: the walk.
-/
import Derived.Test.YtocfocjnnjdcgaaDoorZOnce2
import Derived.Test.YtocfocjnnjdcgaaDoorZBy1
import Derived.Test.YtocfocjnnjdcgaaDoorRMay
import Derived.Test.YtocfocjnnjdcgaaDoorOrder
import Derived.Test.YtocfocjnnjdcgaaDoorCOkP
import Derived.Test.YtocfocjnnjdcgaaDoorBox
import Derived.Deep.RegionHeld3
import Derived.Deep.LoopGhost
import Derived.Deep.CutRange
namespace Go.Proofs.YtocfocjnnjdcgaaDoor
open Go.RowKit

/-- A program with its words and its code where they lie. -/
abbrev prH (va : Option Addr) (vn vc : Nat) (ua : Option Addr) (un uc : Nat) (ql qr : Int) : Value := .agg #[.slice va vn vc, .slice ua un uc, .int .i64 ql, .int .i64 qr]
/-- Whether a program reckons words' numbers, as far as order i of thread t. -/
def RkU (L : Nat → Nat) (X : Nat → Nat → Nat → Int) (t i : Nat) : Prop := ∃ u j, (u < t ∨ (u = t ∧ j < i)) ∧ j < L u ∧ rkO (X u j 0)
theorem rkU_row {L : Nat → Nat} {X : Nat → Nat → Nat → Int} {t : Nat} : RkU L X t (L t) ↔ RkU L X (t + 1) 0 := by
  constructor
  · rintro ⟨u, j, h, h1, h2⟩
    exact ⟨u, j, by omega, h1, h2⟩
  · rintro ⟨u, j, h, h1, h2⟩
    refine ⟨u, j, ?_, h1, h2⟩
    by_cases e : u = t
    · subst e
      exact Or.inr ⟨rfl, h1⟩
    · exact Or.inl (by omega)
theorem rkU_step {L : Nat → Nat} {X : Nat → Nat → Nat → Int} {t i : Nat} (hi : i < L t) : RkU L X t (i + 1) ↔ RkU L X t i ∨ rkO (X t i 0) := by
  constructor
  · rintro ⟨u, j, h, h1, h2⟩
    by_cases e : u = t ∧ j = i
    · obtain ⟨rfl, rfl⟩ := e
      exact Or.inr h2
    · exact Or.inl ⟨u, j, by omega, h1, h2⟩
  · rintro (⟨u, j, h, h1, h2⟩ | h)
    · exact ⟨u, j, by omega, h1, h2⟩
    · exact ⟨t, i, by omega, hi, h⟩
/-- A truth that is told. -/
def RkB (r : Bool) (P : Prop) : Prop := r = true ↔ P
theorem RkB.mk_yes {P : Prop} (h : P) : RkB true P := ⟨fun _ => h, fun _ => rfl⟩
theorem RkB.mk_no {P : Prop} (h : ¬ P) : RkB false P := ⟨fun e => (by cases e), fun e => absurd e h⟩
theorem RkB.yes {P : Prop} (h : RkB true P) : P := h.1 rfl
theorem RkB.no {P : Prop} (h : RkB false P) : ¬ P := fun e => by have := h.2 e; cases this
/-- None of the first ones fell, where words' numbers are reckoned. -/
def NfB (r : Bool) (es : List En) (i : Nat) : Prop := r = true → ∀ q, q < i → (es.getD q default).o.st ≠ 1
/-- What is known of the program with few registers: it may be, what is told of it, and that this is the same but for further words. -/
structure HoldA (w : World) (Q : Value) (m n : Nat) (L : Nat → Nat) (X : Nat → Nat → Nat → Int) (s0 : Sx) (L' : Nat → Nat) (X' : Nat → Nat → Nat → Int) (s1 : Sx) : Prop where
  chk : ∀ V, Below w.heap.size w V → Calls Tryd.prog 10 #[Q] V fun e w' => e = .returned (ints3 0 0 0) ∧ Below V.heap.size V w'
  new : ∀ V, Below w.heap.size w V → Calls Tryd.prog 24 #[Q, .bool false] V (MakeE V L' X' 0 s1)
  len : ∀ b, Told (nxX L' X' 0) (outsX L' X' 0) s1 4000 false b → ∀ o, o ∈ b → (o.st ≠ 1 → m ≤ o.ws.length) ∧ (o.st = 1 → o.ws = [])
  same : ∀ a b, Told (nxX L X 0) (outsX L X 0) s0 4000 false a → Told (nxX L' X' 0) (outsX L' X' 0) s1 4000 false b → (RkU L X n 0 → ∀ o, o ∈ a → o.st ≠ 1) → a = onceL (b.map (cutA m))
theorem cutF_o {n : Nat} {e : En} (h : e.o.st = 1 → e.o.ws = []) : (cutF n e).o = cutA n e.o := by
  unfold cutF
  by_cases h1 : e.o.st = 1
  · rw [if_pos h1]
    unfold cutA
    rw [h h1, h1]
    simp
  · rw [if_neg h1]
    rfl

set_option maxRecDepth 100000 in
set_option maxHeartbeats 6400000 in
theorem alh_walk (w : World) (ca : Option Addr) (n cc : Nat) (wa : Option Addr) (m wc0 : Nat) (lk rg x y z : Int) (A : Nat → Option Addr) (L C : Nat → Nat) (X : Nat → Nat → Nat → Int) (s0 : Sx) (ka : Option Addr) (kn kc : Nat) (P : Prop) (CK : World → Value → Prop)
    (HP : Hid (PIn w ca n A L C X)) (HLN0 : Hid (x = 0 → (∀ t, t < n → L t ≤ 1000) ∧ n ≤ 1000)) (HCB : Hid (∀ W V v, CK W v → Below W.heap.size W V → CK V v))
    (HV : Hid (∀ W, Below w.heap.size w W → Calls Tryd.prog 7 #[prgV ca n cc wa m wc0 lk rg] W fun e w' => ∃ b, e = .returned (.bool b) ∧ Below W.heap.size W w'))
    (HR : Hid (∀ W, Below w.heap.size w W → Calls Tryd.prog 10 #[prgV ca n cc wa m wc0 lk rg] W fun e w' => e = .returned (ints3 x y z) ∧ Below W.heap.size W w'))
    (HO : Hid (∀ W, Below w.heap.size w W → Calls Tryd.prog 23 #[prgV ca n cc wa m wc0 lk rg] W fun e w' => ∃ ua un uc, e = .returned (.tuple #[.slice ua un uc, ints3 x y z]) ∧ Hid (x = 0 → CK w' (.slice ua un uc)) ∧ Below W.heap.size W w'))
    (HC : Hid (x = 0 → kn ≤ 100 → (∀ W, Below w.heap.size w W → Calls Tryd.prog 20 #[prgV ca n cc wa m wc0 lk rg, .slice ka kn kc] W (BoolQ W P)) ∧ (P → ∀ W, Below w.heap.size w W → CK W (.slice ka kn kc))))
    (HA : Hid (x = 0 → ∀ W va vn vc, Below w.heap.size w W → CK W (.slice va vn vc) → Calls Tryd.prog 18 #[prgV ca n cc wa m wc0 lk rg, .slice va vn vc] W fun e w' => ∃ qa qn qc ua un uc ql qr fx fy fz, e = .returned (.tuple #[prH qa qn qc ua un uc ql qr, ints3 fx fy fz]) ∧ Hid (∀ V, (∀ g, W.heap.size ≤ g → g < w'.heap.size → V.heap[g]? = w'.heap[g]?) → Below w.heap.size w V → fx = 1 ∨ (fx = 0 ∧ qr = 8 ∧ ∃ L' X' s1, HoldA V (prH qa qn qc ua un uc ql qr) m n L X s0 L' X' s1)) ∧ Below W.heap.size W w'))
    (HM : Hid (x = 0 → ∀ W, Below w.heap.size w W → Calls Tryd.prog 24 #[prgV ca n cc wa m wc0 lk rg, .bool false] W (MakeE W L X 0 s0))) :
    Calls Tryd.prog 6 #[prgV ca n cc wa m wc0 lk rg, .slice ka kn kc] w fun e w' => e = .returned (.bool true) ∧ Below w.heap.size w w' := by
  have HB0 := Hid.out (p := Hid _) (below_one w (.cells #[.slice ca n cc, .slice wa m wc0, .int .i64 lk, .int .i64 rg] 25))
  have hp0 := heap_alloc_new w (.cells #[.slice ca n cc, .slice wa m wc0, .int .i64 lk, .int .i64 rg] 25)
  obtain ⟨W0, hW0⟩ : ∃ V, w.alloc (.cells #[.slice ca n cc, .slice wa m wc0, .int .i64 lk, .int .i64 rg] 25) = V := ⟨_, rfl⟩
  rw [hW0] at HB0 hp0
  have HAT : Hid (∀ V, Below W0.heap.size W0 V → Below w.heap.size w V ∧ V.cell? ⟨w.heap.size, 0, none⟩ = some (.slice ca n cc) ∧ V.cell? ⟨w.heap.size, 1, none⟩ = some (.slice wa m wc0) ∧ V.cell? ⟨w.heap.size, 2, none⟩ = some (.int .i64 lk) ∧ V.cell? ⟨w.heap.size, 3, none⟩ = some (.int .i64 rg)) := fun V hb => by
    have e1 := blk hb hp0
    exact ⟨HB0.out.trans (hb.mono HB0.out.size), box_cell e1 rfl, box_cell e1 rfl, box_cell e1 rfl, box_cell e1 rfl⟩
  have HW0 := Hid.out (p := Hid _) hW0
  clear hp0 hW0
  go_enter Tryd.func6, Tryd.ntmps6
  go_wp2_with fail
  rw [HW0.out]
  refine Calls.mono (HV.out _ HB0.out) ?_
  rintro e w1 ⟨bv, rfl, hb1⟩
  obtain ⟨hw1, p0, p1, p2, p3⟩ := HAT.out w1 hb1
  have H1 := Hid.out (p := Hid _) (And.intro hb1 hw1)
  clear HV HW0 hb1 hw1
  cases bv with
  | true =>
    go_wp2_with fail
    go_ret
    exact ⟨rfl, H1.out.2⟩
  | false =>
    by_cases hk : 100 < kn
    · have hkI : (100 : Int) < (kn : Int) := by omega
      go_wp2_with fail
      go_ret
      exact ⟨rfl, H1.out.2⟩
    · have hkI : decide ((100 : Int) < (kn : Int)) = false := decide_eq_false (by omega)
      have hkI2 : decide (100 < kn) = false := decide_eq_false hk
      have HR1 := Hid.out (p := Hid _) (HR.out w1 H1.out.2)
      have HKN := Hid.out (p := Hid _) (show kn ≤ 100 by omega)
      clear HR hk
      go_wp2_with fail
      clear hkI hkI2
      refine Calls.mono HR1.out ?_
      rintro e w2 ⟨rfl, hb2⟩
      clear p0 p1 p2 p3 HR1
      have hb02 := H1.out.1.trans (hb2.mono H1.out.1.size)
      have hN2 := heap_alloc_new w2 (.cells #[.int .i64 x, .int .i64 y, .int .i64 z] 30)
      have hbN2 := hb02.alloc hb02.size (.cells #[.int .i64 x, .int .i64 y, .int .i64 z] 30)
      obtain ⟨hwW2, p0, p1, p2, p3⟩ := HAT.out _ hbN2
      obtain ⟨W2, hW2⟩ : ∃ V, w2.alloc (.cells #[.int .i64 x, .int .i64 y, .int .i64 z] 30) = V := ⟨_, rfl⟩
      have HW2 := Hid.out (p := Hid _) hW2
      rw [hW2] at hN2 hbN2 hwW2
      have H2 := Hid.out (p := Hid _) (And.intro hbN2 hN2)
      have HO2 := Hid.out (p := Hid _) (HO.out W2 hwW2)
      clear hN2 hbN2 hb02 hb2 hW2 hwW2 HO H1
      go_wp2_with fail
      rw [HW2.out]
      refine Calls.mono HO2.out ?_
      rintro e w3 ⟨ua, un, uc, rfl, HOK, hb3⟩
      clear p0 p1 p2 p3 HO2 HW2
      have hb03 := H2.out.1.trans (hb3.mono H2.out.1.size)
      have hN3 := heap_alloc_new w3 (.cells #[.int .i64 x, .int .i64 y, .int .i64 z] 30)
      have hbN3 := hb03.alloc hb03.size (.cells #[.int .i64 x, .int .i64 y, .int .i64 z] 30)
      have h23 := box_later (blk hb3 H2.out.2) (.cells #[.int .i64 x, .int .i64 y, .int .i64 z] 30)
      have hb3N : Below w3.heap.size w3 (w3.alloc (.cells #[.int .i64 x, .int .i64 y, .int .i64 z] 30)) := below_one _ _
      obtain ⟨hwW3, p0, p1, p2, p3⟩ := HAT.out _ hbN3
      have i0 := box_cell (i := 0) hN3 rfl
      have i1 := box_cell (i := 1) hN3 rfl
      have i2 := box_cell (i := 2) hN3 rfl
      have j0 := box_cell (i := 0) h23 rfl
      have j1 := box_cell (i := 1) h23 rfl
      have j2 := box_cell (i := 2) h23 rfl
      obtain ⟨W3, hW3⟩ : ∃ V, w3.alloc (.cells #[.int .i64 x, .int .i64 y, .int .i64 z] 30) = V := ⟨_, rfl⟩
      have HW3 := Hid.out (p := Hid _) hW3
      rw [hW3] at hN3 hbN3 hb3N hwW3
      have H3 := Hid.out (p := Hid _) (And.intro hbN3 (And.intro hN3 (And.intro hb3N (And.intro hwW3 hb03.size))))
      clear hN3 hbN3 h23 hb03 hb3 hW3 hwW3 hb3N H2
      by_cases hx : x = 0
      · subst hx
        have HC3 := Hid.out (p := Hid _) (HC.out rfl HKN.out)
        have HC4 := Hid.out (p := Hid _) (HC3.out.1 W3 H3.out.2.2.2.1)
        have HOW : Hid (CK W3 (.slice ua un uc)) := HCB.out w3 W3 _ (HOK.out rfl) H3.out.2.2.1
        have HA' := Hid.out (p := Hid _) (HA.out rfl)
        have HM' := Hid.out (p := Hid _) (HM.out rfl)
        have HLN := Hid.out (p := Hid _) (HLN0.out rfl)
        clear i0 i1 i2 j1 j2 HC HOK HA HM HLN0
        go_wp2_with fail
        rw [HW3.out]
        refine Calls.mono HC4.out ?_
        rintro e w4 ⟨bw, rfl, hbw, hb4⟩
        clear p0 p1 p2 p3 j0 HC4 HW3
        have hb04 := H3.out.1.trans (hb4.mono H3.out.1.size)
        have hw4 := (HAT.out w4 hb04).1
        have HCK : Hid (CK w4 (if bw then .slice ka kn kc else .slice ua un uc)) := by
          cases bw with
          | true => exact HC3.out.2 (hbw.1 rfl) w4 hw4
          | false => exact HCB.out W3 w4 _ HOW.out hb4
        have H4 := Hid.out (p := Hid _) (And.intro hb04 (And.intro (blk hb4 H3.out.2.1) (Nat.le_trans H3.out.2.2.2.2 (show w3.heap.size ≤ w3.heap.size from Nat.le_refl _))))
        clear hb04 hw4 hbw hb4 HC3 HOW
        go_upto_if 43 with fail
        go_cut [1] from 44 (fun v wx => ∃ va vn vc, v = .slice va vn vc ∧ Hid (CK wx (.slice va vn vc) ∧ wx = w4))
        case first =>
          cases bw with
          | true =>
            go_wp2_with fail
            go_meet
            case rel => exact ⟨_, _, _, rfl, HCK.out, rfl⟩
          | false =>
            go_wp2_with fail
            go_meet
            case rel => exact ⟨_, _, _, rfl, HCK.out, rfl⟩
        case rest =>
          obtain ⟨va, vn, vc, rfl, hcut2⟩ := hcut
          obtain ⟨hck, rfl⟩ := hcut2.out
          have HCW := Hid.out (p := Hid _) hck
          clear hck hcut2 HCK
          obtain ⟨w4, rfl⟩ : ∃ V, V = wc := ⟨_, rfl⟩
          have hlt34 := box_lt H4.out.2.1
          obtain ⟨hw4, p0, p1, p2, p3⟩ := HAT.out w4 H4.out.1
          have HAP := Hid.out (p := Hid _) (HA'.out w4 va vn vc hw4 HCW.out)
          clear hw4 HA'
          go_wp2_with fail
          refine Calls.mono HAP.out ?_
          rintro e w5 ⟨qa, qn, qc, ub, uo, ud, ql, qr, fx, fy, fz, rfl, HQ, hb5⟩
          clear p0 p1 p2 p3 HAP
          have hb05 := H4.out.1.trans (hb5.mono H4.out.1.size)
          have h45 := hb5.size
          have hq5 := heap_alloc_new w5 (.cells #[.slice qa qn qc, .slice ub uo ud, .int .i64 ql, .int .i64 qr] 25)
          have h75 := box_later (blk hb5 H4.out.2.1) (.cells #[.slice qa qn qc, .slice ub uo ud, .int .i64 ql, .int .i64 qr] 25)
          have f0 := box_cell (i := 0) h75 rfl
          have f1 := box_cell (i := 1) h75 rfl
          have f2 := box_cell (i := 2) h75 rfl
          have ff : ∀ i, (w5.alloc (.cells #[.slice qa qn qc, .slice ub uo ud, .int .i64 ql, .int .i64 qr] 25)).frozen? ⟨w3.heap.size, i, none⟩ = false := fun i => box_free h75
          have hfU := set3_is h75 (.int .i64 fx) (.int .i64 fy) (.int .i64 fz)
          have hqU := (set3_far (F := w3.heap.size) (g := w5.heap.size) (by omega) (.int .i64 fx) (.int .i64 fy) (.int .i64 fz)).trans hq5
          have hbU := set3_low (F := w3.heap.size) (hb05.alloc hb05.size (.cells #[.slice qa qn qc, .slice ub uo ud, .int .i64 ql, .int .i64 qr] 25)) H4.out.2.2 (.int .i64 fx) (.int .i64 fy) (.int .i64 fz)
          have hHQ := HQ.out _ (fun g h1 h2 => (set3_far (F := w3.heap.size) (g := g) (by omega) (.int .i64 fx) (.int .i64 fy) (.int .i64 fz)).trans ((below_one w5 (.cells #[.slice qa qn qc, .slice ub uo ud, .int .i64 ql, .int .i64 qr] 25)).block g h2)) (HAT.out _ hbU).1
          have g0 := box_cell (i := 0) hfU rfl
          have x0 := box_cell (i := 0) hqU rfl
          have x1 := box_cell (i := 1) hqU rfl
          have x2 := box_cell (i := 2) hqU rfl
          have x3 := box_cell (i := 3) hqU rfl
          obtain ⟨U, hU⟩ : ∃ V, ((((w5.alloc (.cells #[.slice qa qn qc, .slice ub uo ud, .int .i64 ql, .int .i64 qr] 25)).setCell ⟨w3.heap.size, 0, none⟩ (.int .i64 fx)).setCell ⟨w3.heap.size, 1, none⟩ (.int .i64 fy)).setCell ⟨w3.heap.size, 2, none⟩ (.int .i64 fz)) = V := ⟨_, rfl⟩
          have HU := Hid.out (p := Hid _) hU
          rw [hU] at hfU hqU hbU hHQ
          have HU5 := Hid.out (p := Hid _) (And.intro hbU (And.intro hfU hqU))
          clear hU hfU hqU hbU hq5 h75 hb05 hb5 HQ h45 hlt34
          rcases hHQ with rfl | ⟨rfl, rfl, L', X', s1, hHo⟩
          · go_wp2_with fail
            try rw [HU.out]
            go_ret
            exact ⟨rfl, (HAT.out U HU5.out.1).1⟩
          · have HHO := Hid.out (p := Hid _) hHo
            clear hHo
            go_wp2_with fail
            rw [HU.out]
            refine Calls.mono (HHO.out.chk U (Below.refl _ _)) ?_
            rintro e w6 ⟨rfl, hb6⟩
            clear f0 f1 f2 ff g0 x0 x1 x2 x3 HU
            have hb06 := HU5.out.1.trans (hb6.mono HU5.out.1.size)
            have hN6 := heap_alloc_new w6 (.cells #[.int .i64 0, .int .i64 0, .int .i64 0] 30)
            have hbN6 := hb06.alloc hb06.size (.cells #[.int .i64 0, .int .i64 0, .int .i64 0] 30)
            have hUN6 := hb6.alloc hb6.size (.cells #[.int .i64 0, .int .i64 0, .int .i64 0] 30)
            have hf6 := box_later (blk hb6 HU5.out.2.1) (.cells #[.int .i64 0, .int .i64 0, .int .i64 0] 30)
            have hq6 := box_later (blk hb6 HU5.out.2.2) (.cells #[.int .i64 0, .int .i64 0, .int .i64 0] 30)
            obtain ⟨hwW6, p0, p1, p2, p3⟩ := HAT.out _ hbN6
            have g0 := box_cell (i := 0) hf6 rfl
            have b0 := box_cell (i := 0) hN6 rfl
            have x3 := box_cell (i := 3) hq6 rfl
            obtain ⟨W6, hW6⟩ : ∃ V, w6.alloc (.cells #[.int .i64 0, .int .i64 0, .int .i64 0] 30) = V := ⟨_, rfl⟩
            have HW6 := Hid.out (p := Hid _) hW6
            rw [hW6] at hbN6 hUN6 hwW6 hq6
            have H6 := Hid.out (p := Hid _) (And.intro hbN6 (And.intro hUN6 hq6))
            have HMP := Hid.out (p := Hid _) (HM'.out W6 hwW6)
            clear hN6 hbN6 hUN6 hf6 hq6 hwW6 hW6 hb06 hb6 HM'
            go_wp2_with fail
            rw [HW6.out]
            refine Calls.mono HMP.out ?_
            rintro e w7 ⟨pa, fa, ea, ec, esa, rfl, ta, c4a, c5a, eia, oka, lna, hb7⟩
            clear p0 p1 p2 p3 g0 b0 x3 HMP HW6
            have hb07 := H6.out.1.trans (hb7.mono H6.out.1.size)
            have hU7 := H6.out.2.1.trans (hb7.mono H6.out.2.1.size)
            have hq7 := blk hb7 H6.out.2.2
            have x0 := box_cell (i := 0) hq7 rfl
            have x1 := box_cell (i := 1) hq7 rfl
            have x2 := box_cell (i := 2) hq7 rfl
            have x3 := box_cell (i := 3) hq7 rfl
            obtain ⟨na, hna⟩ : ∃ q, esa.length = q := ⟨_, rfl⟩
            have HNA := Hid.out (p := Hid _) hna
            rw [hna] at c4a lna
            have HA7 := Hid.out (p := Hid _) (And.intro ta (And.intro eia oka))
            have H7 := Hid.out (p := Hid _) hb07
            have HMQ := Hid.out (p := Hid _) (HHO.out.new w7 hU7)
            clear ta eia oka hna hb7 hb07 hU7 hq7
            go_wp2_with fail
            refine Calls.mono HMQ.out ?_
            rintro e w8 ⟨pb, fb, eb, ec2, esb, rfl, tb, c4b, c5b, eib, okb, lnb, hb8⟩
            clear x0 x1 x2 x3 HMQ
            have d4a := (hb8.cell (lt_of_cell c4a)).trans c4a
            have d5a := (hb8.cell (lt_of_cell c5a)).trans c5a
            have hb08 := H7.out.trans (hb8.mono H7.out.size)
            obtain ⟨nb, hnb⟩ : ∃ q, esb.length = q := ⟨_, rfl⟩
            have HNB := Hid.out (p := Hid _) hnb
            rw [hnb] at c4b lnb
            have HEA := Hid.out (p := Hid _) (EIn.below HA7.out.2.1 hb8)
            have HB8 := Hid.out (p := Hid _) (And.intro tb (And.intro eib okb))
            have HC8 : Hid (∀ V, Below w8.heap.size w8 V → Below w.heap.size w V ∧ V.cell? ⟨w.heap.size, 0, none⟩ = some (.slice ca n cc) ∧ V.cell? ⟨w.heap.size, 1, none⟩ = some (.slice wa m wc0) ∧ V.cell? ⟨pa, 4, none⟩ = some (.slice ea na ec) ∧ V.cell? ⟨pb, 4, none⟩ = some (.slice eb nb ec2)) := fun V hV => by
              obtain ⟨h1, h2, h3, _, _⟩ := HAT.out V (hb08.trans (hV.mono hb08.size))
              exact ⟨h1, h2, h3, (hV.cell (lt_of_cell d4a)).trans d4a, (hV.cell (lt_of_cell c4b)).trans c4b⟩
            have H8 := Hid.out (p := Hid _) (And.intro (HAT.out w8 hb08).1 hb8)
            obtain ⟨-, p0, p1, -, -⟩ := HC8.out w8 (Below.refl _ _)
            clear c4a c5a tb eib okb hnb hb8 hb08
            cases fa with
            | true =>
              go_wp2_with fail
              go_ret
              exact ⟨rfl, H8.out.1⟩
            | false =>
              cases fb with
              | true =>
                go_wp2_with fail
                go_ret
                exact ⟨rfl, H8.out.1⟩
              | false =>
                go_wp2_with fail
                clear d4a d5a c4b c5b p0 p1 H7 H6 HU5 H4 H3 HCW
                obtain ⟨u8, rfl⟩ : ∃ V, V = w8 := ⟨_, rfl⟩
                go_loopg [13, 14] (n + 1) (fun gk bv iv wr => ∃ (t : Nat) (r : Bool), t + gk = n + 1 ∧ t ≤ n ∧ iv = .int .i64 t ∧ bv = .bool r ∧ Hid (RkB r (RkU L X t 0) ∧ Below u8.heap.size u8 wr))
                case atStart => exact ⟨0, false, by omega, Nat.zero_le _, rfl, rfl, RkB.mk_no (fun ⟨u, j, h, _, _⟩ => by omega), Below.refl _ _⟩
                case round =>
                  obtain ⟨t, r, hgt, ht, rfl, rfl, HI⟩ := hrel
                  have HGT := Hid.out (p := Hid _) hgt
                  clear hgt
                  obtain ⟨hwr, p0, p1, d4a, c4b⟩ := HC8.out wr HI.out.2
                  by_cases htn : t < n
                  · have htI : (t : Int) < (n : Int) := by omega
                    have hn1 := HLN.out.2
                    obtain ⟨cb, co, rfl, hcell⟩ := HP.out.code t htn
                    obtain ⟨l, hl⟩ : ∃ l, L t = l := ⟨_, rfl⟩
                    have hl4 : l ≤ 1000 := by rw [← hl]; exact HLN.out.1 t htn
                    have HLK : Hid (L t = l) := hl
                    obtain ⟨ak, hak⟩ : ∃ a, A t = a := ⟨_, rfl⟩
                    have HAK : Hid (A t = ak) := hak
                    obtain ⟨ck, hck⟩ : ∃ a, C t = a := ⟨_, rfl⟩
                    rw [hl, hak, hck] at hcell
                    have HCE := Hid.out (p := Hid _) hcell
                    clear hl hak hck hcell hwr d4a c4b p1
                    go_wp2_with fail
                    go_loopg [13, 15] (l + 1) (fun gj bv iv wi => ∃ (j : Nat) (r : Bool), j + gj = l + 1 ∧ j ≤ l ∧ iv = .int .i64 j ∧ bv = .bool r ∧ Hid (RkB r (RkU L X t j) ∧ Below u8.heap.size u8 wi))
                    case atStart => exact ⟨0, r, by omega, Nat.zero_le _, rfl, rfl, HI.out⟩
                    case round =>
                      clear p0 HI
                      obtain ⟨j, r, hgj, hj, rfl, rfl, HI⟩ := hrel
                      have HGJ := Hid.out (p := Hid _) hgj
                      clear hgj
                      obtain ⟨hwr, p0, -, -, -⟩ := HC8.out wr HI.out.2
                      have hcc := (hwr.cell (lt_of_cell HCE.out)).trans HCE.out
                      by_cases hjl : j < l
                      · have hjI : (j : Int) < (l : Int) := by omega
                        obtain ⟨ab, ao, e1, c0, -, -, -⟩ := (HP.out.below hwr).ord t j htn (by rw [HLK.out]; exact hjl)
                        rw [HAK.out] at e1
                        subst e1
                        obtain ⟨o, ho⟩ : ∃ q, X t j 0 = q := ⟨_, rfl⟩
                        rw [ho] at c0
                        have HST : Hid (RkU L X t (j + 1) ↔ RkU L X t j ∨ rkO o) := by
                          show _ ↔ _
                          rw [rkU_step (by rw [HLK.out]; exact hjl), ho]
                        clear hwr ho
                        cases r with
                        | true =>
                          have HN : Hid (RkB true (RkU L X t (j + 1)) ∧ Below u8.heap.size u8 wr) := ⟨RkB.mk_yes (HST.out.2 (Or.inl HI.out.1.yes)), HI.out.2⟩
                          go_wp2_with fail
                          go_roundg (l - j)
                          case measure => have := HGJ.out; omega
                          case rel => exact ⟨j + 1, true, by omega, by omega, by go_num, rfl, HN.out⟩
                        | false =>
                          by_cases h10 : o = 10
                          · subst h10
                            have HN : Hid (RkB true (RkU L X t (j + 1)) ∧ Below u8.heap.size u8 wr) := ⟨RkB.mk_yes (HST.out.2 (Or.inr (Or.inl rfl))), HI.out.2⟩
                            go_wp2_with fail
                            go_roundg (l - j)
                            case measure => have := HGJ.out; omega
                            case rel => exact ⟨j + 1, true, by omega, by omega, by go_num, rfl, HN.out⟩
                          · have h10' : (o == 10) = false := by simpa using h10
                            by_cases h11 : o = 11
                            · subst h11
                              have HN : Hid (RkB true (RkU L X t (j + 1)) ∧ Below u8.heap.size u8 wr) := ⟨RkB.mk_yes (HST.out.2 (Or.inr (Or.inr rfl))), HI.out.2⟩
                              go_wp2_with fail
                              go_roundg (l - j)
                              case measure => have := HGJ.out; omega
                              case rel => exact ⟨j + 1, true, by omega, by omega, by go_num, rfl, HN.out⟩
                            · have h11' : (o == 11) = false := by simpa using h11
                              have HN : Hid (RkB false (RkU L X t (j + 1)) ∧ Below u8.heap.size u8 wr) := by
                                refine ⟨RkB.mk_no fun h => ?_, HI.out.2⟩
                                rcases HST.out.1 h with h | h | h
                                · exact HI.out.1.no h
                                · exact absurd h h10
                                · exact absurd h h11
                              go_wp2_with fail
                              go_roundg (l - j)
                              case measure => have := HGJ.out; omega
                              case rel => exact ⟨j + 1, false, by omega, by omega, by go_num, rfl, HN.out⟩
                      · have hjl' : j = l := by omega
                        subst hjl'
                        have HN : Hid (RkB r (RkU L X (t + 1) 0) ∧ Below u8.heap.size u8 wr) := by
                          refine ⟨?_, HI.out.2⟩
                          have := HI.out.1
                          rw [← HLK.out] at this
                          exact this.trans rkU_row
                        clear hwr
                        go_wp2_with fail
                        go_roundg (n - t)
                        case measure => have := HGT.out; omega
                        case rel => exact ⟨t + 1, r, by omega, by omega, by go_num, rfl, HN.out⟩
                  · have htn' : t = n := by omega
                    subst htn'
                    have HRK := Hid.out (p := Hid _) HI.out.1
                    have HWR := Hid.out (p := Hid _) HI.out.2
                    clear hwr p1 c4b HI HGT
                    go_wp2_with fail
                    go_loopg [17] (na + 1) (fun gk iv wr => ∃ i : Nat, i + gk = na + 1 ∧ i ≤ na ∧ iv = .int .i64 i ∧ Hid (NfB r esa i ∧ Below u8.heap.size u8 wr))
                    case atStart => exact ⟨0, by omega, Nat.zero_le _, rfl, fun _ q hq => absurd hq (Nat.not_lt_zero _), HWR.out⟩
                    case round =>
                      clear d4a HWR
                      obtain ⟨i, hgi, hi, rfl, HI⟩ := hrel
                      have HGI := Hid.out (p := Hid _) hgi
                      clear hgi
                      obtain ⟨hwr, p0, p1, d4a, c4b⟩ := HC8.out wr HI.out.2
                      have HWR := Hid.out (p := Hid _) hwr
                      by_cases hin : i < na
                      · have hiI : (i : Int) < (na : Int) := by omega
                        obtain ⟨g, o, rfl, y0, -, -⟩ := EIn.below HEA.out HI.out.2 i (by rw [HNA.out]; exact hin)
                        obtain ⟨st, hst⟩ : ∃ q, (esa.getD i default).o.st = q := ⟨_, rfl⟩
                        rw [hst] at y0
                        have HST := Hid.out (p := Hid _) hst
                        clear hst hwr p0 p1 c4b
                        by_cases h1 : st = 1
                        · subst h1
                          cases r with
                          | true =>
                            go_wp2_with fail
                            go_ret
                            exact ⟨rfl, HWR.out⟩
                          | false =>
                            go_wp2_with fail
                            go_roundg (na - i)
                            case measure => have := HGI.out; omega
                            case rel => exact ⟨i + 1, by omega, by omega, by go_num, fun h => absurd h Bool.false_ne_true, HI.out.2⟩
                        · have h1' : (st == 1) = false := by simpa using h1
                          have HN : Hid (NfB r esa (i + 1) ∧ Below u8.heap.size u8 wr) := by
                            refine ⟨fun h q hq => ?_, HI.out.2⟩
                            by_cases e : q = i
                            · rw [e, HST.out]; exact h1
                            · exact HI.out.1 h q (by omega)
                          go_wp2_with fail
                          go_roundg (na - i)
                          case measure => have := HGI.out; omega
                          case rel => exact ⟨i + 1, by omega, by omega, by go_num, HN.out⟩
                      · have hin' : i = na := by omega
                        subst hin'
                        have hlen := HHO.out.len _ HB8.out.1
                        have HFA : Hid (∀ V, Below wr.heap.size wr V → Calls Tryd.prog 25 #[.slice eb nb ec2, .int .i64 (m : Nat)] V fun e w' => ∃ b d fs, e = .returned (.slice b (List.length fs) d) ∧ EIn w' b fs ∧ (∀ x, x ∈ fs → EnOk V x) ∧ fs.map En.o = onceL (esb.map fun x => (cutF m x).o) ∧ fs.length ≤ nb ∧ Below V.heap.size V w') := fun V hV => by
                          have h := HI.out.2.trans (hV.mono HI.out.2.size)
                          have := first_any V eb esb ec2 m (EIn.below HB8.out.2.1 h) (fun x hx => ⟨(HB8.out.2.2 x hx).1.below h, (HB8.out.2.2 x hx).2⟩) (by rw [HNB.out]; exact lnb) (fun x hx hs => (hlen x.o (List.mem_map_of_mem hx)).1 hs)
                          rw [HNB.out] at this
                          exact this
                        have HSA : Hid (esa.map En.o = onceL (esb.map fun x => (cutF m x).o)) := by
                          have h1 := HHO.out.same _ _ HA7.out.1 HB8.out.1 (fun hr o ho => by
                            obtain ⟨x, hx, rfl⟩ := List.mem_map.1 ho
                            obtain ⟨q, hq, rfl⟩ := List.mem_iff_getElem.1 hx
                            have := HI.out.1 (HRK.out.2 hr) q (by rw [HNA.out] at hq; exact hq)
                            rw [List.getD_eq_getElem?_getD, List.getElem?_eq_getElem hq] at this
                            exact this)
                          have h2 : (esb.map fun x => (cutF m x).o) = (esb.map En.o).map (cutA m) := by
                            rw [List.map_map]
                            apply List.map_congr_left
                            intro x hx
                            exact cutF_o (hlen x.o (List.mem_map_of_mem hx)).2
                          show _ = _
                          rw [h2]
                          exact h1
                        clear hlen hwr
                        go_wp2_with fail
                        go_region_held3 (fun w' => w'.cell? ⟨pb, 4, none⟩ = some (.slice eb nb ec2) ∧ w'.cell? ⟨w.heap.size, 1, none⟩ = some (.slice wa m wc0)) (refine ⟨?_, ?_⟩ <;> (repeat (first | (with_reducible assumption) | (with_reducible refine cell_drw ?_)))) ((go_at_call 25; refine Calls.mono (HFA.out _ (by first | exact (Below.refl _ _).drew | exact Below.refl _ _)) ?_; rintro e w9 ⟨xa, xc, fs, rfl, hE9, hK9, hM9, hN9, hb9d⟩; have hb9 : Below wr.heap.size wr w9 := (by first | exact (Below.refl _ _).drew.trans hb9d | exact hb9d); have q1 := (hb9.cell (p := ⟨w.heap.size, 1, none⟩) (lt_of_cell p1)).trans p1; have q4 := (hb9.cell (p := ⟨pb, 4, none⟩) (lt_of_cell c4b)).trans c4b; have q9 := (hb9.cell (p := ⟨pa, 4, none⟩) (lt_of_cell d4a)).trans d4a; have HX9 : Hid (EIn w9 xa fs ∧ (∀ x, x ∈ fs → EnOk w9 x) ∧ fs.map En.o = onceL (esb.map fun x => (cutF m x).o) ∧ fs.length ≤ nb) := ⟨hE9, fun x hx => (hK9 x hx).below hb9d, hM9, hN9⟩; have HB9 := Hid.out (p := Hid _) hb9; clear hb9d hE9 hK9 hM9 hN9))
                        have HSM : Hid (Calls Tryd.prog 26 #[.slice ea i ec, .slice xa fs.length xc] w9 fun e w' => e = .returned (.bool true) ∧ Below w9.heap.size w9 w') := by
                          have h9 := HI.out.2.trans (HB9.out.mono HI.out.2.size)
                          have hA9 : ∀ x, x ∈ esa → EnOk w9 x := fun x hx => (HA7.out.2.2 x hx).1.below (H8.out.2.trans (h9.mono H8.out.2.size))
                          have h := rsame_any ea xa (esa.map En.o) (fs.map En.o) ec xc (ens_obd (w := w9) (by rw [HNA.out]; exact lna) hA9) (ens_obd (w := w9) (Nat.le_trans HX9.out.2.2.2 lnb) HX9.out.2.1) w9 (ens_osin (EIn.below HEA.out h9) hA9) (ens_osin HX9.out.1 HX9.out.2.1)
                          rw [List.length_map, List.length_map, HNA.out] at h
                          have e : decide (esa.map En.o = fs.map En.o) = true := decide_eq_true (HSA.out.trans HX9.out.2.2.1.symm)
                          rw [e] at h
                          exact h
                        clear q1 q4 c4b p0 p1 d4a
                        go_wp2_with fail
                        refine Calls.mono HSM.out ?_
                        rintro e w10 ⟨rfl, hb10⟩
                        have HFIN : Hid (Below w.heap.size w w10) := by
                          have h1 := HWR.out.trans (HB9.out.mono HWR.out.size)
                          exact h1.trans (hb10.mono h1.size)
                        clear hb10 q9
                        go_wp2_with fail
                        go_ret
                        exact ⟨rfl, HFIN.out⟩
      · have hx' : (x != 0) = true := by simpa using hx
        go_wp2_with fail
        try rw [HW3.out]
        go_ret
        exact ⟨by simp, H3.out.2.2.2.1⟩

end Go.Proofs.YtocfocjnnjdcgaaDoor
