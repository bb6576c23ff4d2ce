/-
  The law of colours that are some of the program: the walk, and for every program and all colours.
-/
import Derived.Test.YtkailbdjilkneaaDoorAlcC
import Derived.Test.YtkailbdjilkneaaDoorAlcJ
import Derived.Test.YtkailbdjilkneaaDoorCheckR3
import Derived.Test.YtkailbdjilkneaaDoorVast
import Derived.Test.YtkailbdjilkneaaDoorPChk
namespace Go.Proofs.YtkailbdjilkneaaDoor
open Go.RowKit

/-- Lists that are our own can be read. -/
theorem cin_own {w : World} {B : Nat} {a : Option Addr} {m c : Nat} {K : List (List Int)} (h : O2 w B (.slice a m c) K) : CIn w a K := fun t ht => by
  obtain ⟨g, x, rfl, rfl, hx, hxs⟩ := h.at ht
  obtain ⟨xa, xc, rfl⟩ := hxs.form
  exact ⟨g, 0, xa, xc, rfl, by rw [Nat.zero_add]; exact hx, hxs.sis⟩

set_option maxRecDepth 100000 in
set_option maxHeartbeats 3200000 in
theorem alc_walk (w : World) (ca : Option Addr) (n cc : Nat) (wa : Option Addr) (m wc0 : Nat) (lk rg x y z : Int) (ka : Option Addr) (kn kc : Nat) (P : Prop)
    (HV : Hid (∀ W, Below w.heap.size w W → Calls Tryd.prog 9 #[prgV ca n cc wa m wc0 lk rg] W fun e w' => ∃ b, e = .returned (.bool b) ∧ Below W.heap.size W w'))
    (HK : Hid (kn ≤ 100 → ∀ W, Below w.heap.size w W → Calls Tryd.prog 20 #[prgV ca n cc wa m wc0 lk rg, .slice ka kn kc] W fun e w' => ∃ b, e = .returned (.tuple #[.bool b, ints3 x y z]) ∧ Hid ((x ≠ 0 → b = false) ∧ (x = 0 → (b = true ↔ P))) ∧ Below W.heap.size W w'))
    (HO : Hid (∀ W, Below w.heap.size w W → Calls Tryd.prog 21 #[prgV ca n cc wa m wc0 lk rg] W fun e w' => ∃ ua un uc, e = .returned (.tuple #[.slice ua un uc, ints3 x y z]) ∧ Hid ((x ≠ 0 → un = 0) ∧ (x = 0 → ∀ V, Below w'.heap.size w' V → Calls Tryd.prog 22 #[prgV ca n cc wa m wc0 lk rg, .slice ua un uc] V (BoolQ V True))) ∧ Below W.heap.size W w'))
    (HR : Hid (∀ W, Below w.heap.size w W → Calls Tryd.prog 12 #[prgV ca n cc wa m wc0 lk rg] W fun e w' => e = .returned (ints3 x y z) ∧ Below W.heap.size W w'))
    (HW : Hid (x = 0 → kn ≤ 100 → ∀ W, Below w.heap.size w W → Calls Tryd.prog 22 #[prgV ca n cc wa m wc0 lk rg, .slice ka kn kc] W (BoolQ W P))) :
    Calls Tryd.prog 6 #[prgV ca n cc wa m wc0 lk rg, .slice ka kn kc] w fun e w' => e = .returned (.bool true) ∧ Below w.heap.size w w' := by
  have HB0 := Hid.out (p := Hid _) (below_one w (.cells #[.slice ca n cc, .slice wa m wc0, .int .i64 lk, .int .i64 rg] 25))
  have hp0 := heap_alloc_new w (.cells #[.slice ca n cc, .slice wa m wc0, .int .i64 lk, .int .i64 rg] 25)
  obtain ⟨W0, hW0⟩ : ∃ V, w.alloc (.cells #[.slice ca n cc, .slice wa m wc0, .int .i64 lk, .int .i64 rg] 25) = V := ⟨_, rfl⟩
  rw [hW0] at HB0 hp0
  have HAT : Hid (∀ V, Below W0.heap.size W0 V → Below w.heap.size w V ∧ V.cell? ⟨w.heap.size, 0, none⟩ = some (.slice ca n cc) ∧ V.cell? ⟨w.heap.size, 1, none⟩ = some (.slice wa m wc0) ∧ V.cell? ⟨w.heap.size, 2, none⟩ = some (.int .i64 lk) ∧ V.cell? ⟨w.heap.size, 3, none⟩ = some (.int .i64 rg)) := fun V hb => by
    have e1 := blk hb hp0
    exact ⟨HB0.out.trans (hb.mono HB0.out.size), box_cell e1 rfl, box_cell e1 rfl, box_cell e1 rfl, box_cell e1 rfl⟩
  have HW0 := Hid.out (p := Hid _) hW0
  clear hp0 hW0
  go_enter Tryd.func6, Tryd.ntmps6
  go_wp2_with fail
  rw [HW0.out]
  refine Calls.mono (HV.out _ HB0.out) ?_
  rintro e w1 ⟨bv, rfl, hb1⟩
  obtain ⟨hw1, p0, p1, p2, p3⟩ := HAT.out w1 hb1
  have H1 := Hid.out (p := Hid _) (And.intro hb1 hw1)
  clear HV HW0 hb1 hw1
  cases bv with
  | true =>
    go_wp2_with fail
    go_ret
    exact ⟨rfl, H1.out.2⟩
  | false =>
    by_cases hk : 100 < kn
    · have hkI : (100 : Int) < (kn : Int) := by omega
      go_wp2_with fail
      go_ret
      exact ⟨rfl, H1.out.2⟩
    · have hkI : decide ((100 : Int) < (kn : Int)) = false := decide_eq_false (by omega)
      have hkI2 : decide (100 < kn) = false := decide_eq_false hk
      have HK1 := Hid.out (p := Hid _) (HK.out (by omega) w1 H1.out.2)
      have HKN := Hid.out (p := Hid _) (show kn ≤ 100 by omega)
      clear HK hk
      go_wp2_with fail
      clear hkI hkI2
      refine Calls.mono HK1.out ?_
      rintro e w2 ⟨bi, rfl, HBI, hb2⟩
      clear p0 p1 p2 p3 HK1
      have hN2 := heap_alloc_new w2 (.cells #[.int .i64 x, .int .i64 y, .int .i64 z] 29)
      have hb02 := H1.out.1.trans (hb2.mono H1.out.1.size)
      have hbN2 := hb02.alloc hb02.size (.cells #[.int .i64 x, .int .i64 y, .int .i64 z] 29)
      obtain ⟨hwW2, p0, p1, p2, p3⟩ := HAT.out _ hbN2
      obtain ⟨W2, hW2⟩ : ∃ V, w2.alloc (.cells #[.int .i64 x, .int .i64 y, .int .i64 z] 29) = V := ⟨_, rfl⟩
      have HW2 := Hid.out (p := Hid _) hW2
      rw [hW2] at hN2 hbN2 hwW2
      have H2 := Hid.out (p := Hid _) (And.intro hbN2 hN2)
      have HO2 := Hid.out (p := Hid _) (HO.out W2 hwW2)
      clear hN2 hbN2 hb02 hb2 hW2 hwW2 HO
      go_wp2_with fail
      rw [HW2.out]
      refine Calls.mono HO2.out ?_
      rintro e w3 ⟨ua, un, uc, rfl, HOW, hb3⟩
      clear p0 p1 p2 p3 HO2 HW2
      have hN3 := heap_alloc_new w3 (.cells #[.int .i64 x, .int .i64 y, .int .i64 z] 29)
      have hb03 := H2.out.1.trans (hb3.mono H2.out.1.size)
      have hbN3 := hb03.alloc hb03.size (.cells #[.int .i64 x, .int .i64 y, .int .i64 z] 29)
      have h23 := box_later (blk hb3 H2.out.2) (.cells #[.int .i64 x, .int .i64 y, .int .i64 z] 29)
      have hb3N : Below w3.heap.size w3 (w3.alloc (.cells #[.int .i64 x, .int .i64 y, .int .i64 z] 29)) := below_one _ _
      obtain ⟨hwW3, p0, p1, p2, p3⟩ := HAT.out _ hbN3
      obtain ⟨W3, hW3⟩ : ∃ V, w3.alloc (.cells #[.int .i64 x, .int .i64 y, .int .i64 z] 29) = V := ⟨_, rfl⟩
      have HW3 := Hid.out (p := Hid _) hW3
      rw [hW3] at hN3 hbN3 h23 hb3N hwW3
      have H3 := Hid.out (p := Hid _) (And.intro hbN3 (And.intro hN3 (And.intro h23 hb3N)))
      have HR3 := Hid.out (p := Hid _) (HR.out W3 hwW3)
      clear hN3 hbN3 hb03 hb3 hW3 hwW3 HR h23 hb3N
      go_wp2_with fail
      rw [HW3.out]
      refine Calls.mono HR3.out ?_
      rintro e w4 ⟨rfl, hb4⟩
      clear p0 p1 p2 p3 HR3 HW3
      have hN4 := heap_alloc_new w4 (.cells #[.int .i64 x, .int .i64 y, .int .i64 z] 29)
      have hb04 := H3.out.1.trans (hb4.mono H3.out.1.size)
      have hbN4 := hb04.alloc hb04.size (.cells #[.int .i64 x, .int .i64 y, .int .i64 z] 29)
      have h34 := box_later (blk hb4 H3.out.2.1) (.cells #[.int .i64 x, .int .i64 y, .int .i64 z] 29)
      have h24 := box_later (blk hb4 H3.out.2.2.1) (.cells #[.int .i64 x, .int .i64 y, .int .i64 z] 29)
      have hw34 : Below w3.heap.size w3 w4 := H3.out.2.2.2.trans (hb4.mono H3.out.2.2.2.size)
      have hw3N : Below w3.heap.size w3 (w4.alloc (.cells #[.int .i64 x, .int .i64 y, .int .i64 z] 29)) := hw34.alloc hw34.size _
      obtain ⟨hwW4, p0, p1, p2, p3⟩ := HAT.out _ hbN4
      have i0 := box_cell (i := 0) hN4 rfl
      have i1 := box_cell (i := 1) hN4 rfl
      have i2 := box_cell (i := 2) hN4 rfl
      have j0 := box_cell (i := 0) h34 rfl
      have j1 := box_cell (i := 1) h34 rfl
      have j2 := box_cell (i := 2) h34 rfl
      have k0 := box_cell (i := 0) h24 rfl
      have k1 := box_cell (i := 1) h24 rfl
      have k2 := box_cell (i := 2) h24 rfl
      obtain ⟨W4, hW4⟩ : ∃ V, w4.alloc (.cells #[.int .i64 x, .int .i64 y, .int .i64 z] 29) = V := ⟨_, rfl⟩
      have HW4 := Hid.out (p := Hid _) hW4
      rw [hW4] at hN4 hbN4 h34 h24 hw3N hwW4
      have H4 := Hid.out (p := Hid _) (And.intro hbN4 hw3N)
      have HWW := Hid.out (p := Hid _) hwW4
      clear hN4 hbN4 hb04 hb4 hW4 hwW4 h34 h24 hw34 hw3N H3 H2 H1
      by_cases hx : x = 0
      · subst hx
        have HW5 := Hid.out (p := Hid _) (HW.out rfl HKN.out W4 HWW.out)
        go_wp2_with fail
        rw [HW4.out]
        try clear i0 i1 i2 j0 j1 j2 k0 k1 k2
        refine Calls.mono HW5.out ?_
        rintro e w5 ⟨bw, rfl, hbw, hb5⟩
        have HBW := Hid.out (p := Hid _) hbw
        have hb05 := H4.out.1.trans (hb5.mono H4.out.1.size)
        have hb35 := H4.out.2.trans (hb5.mono H4.out.2.size)
        try clear p0 p1 p2 p3
        obtain ⟨hwW5, p0, p1, p2, p3⟩ := HAT.out w5 hb05
        have HM6 := Hid.out (p := Hid _) (HOW.out.2 trivial w5 hb35)
        have HW6 := Hid.out (p := Hid _) hwW5
        clear hbw hb05 hb35 hb5 hwW5
        go_wp2_with fail
        refine Calls.mono HM6.out ?_
        rintro e w6 ⟨bm, rfl, hbm, hb6⟩
        obtain rfl : bm = true := hbm.2 trivial
        have hfin := HW6.out.trans (hb6.mono HW6.out.size)
        have hbb : bi = bw := by
          have h1 := HBI.out.2 trivial
          have h2 := HBW.out
          cases bi <;> cases bw <;> simp_all
        subst hbb
        have HFIN := Hid.out (p := Hid _) hfin
        clear hbm hb6 hfin
        go_wp2_with fail
        go_ret
        exact ⟨by cases bi <;> rfl, HFIN.out⟩
      · have hx' : (x != 0) = true := by simpa using hx
        obtain rfl : bi = false := HBI.out.1 hx
        obtain rfl : un = 0 := HOW.out.1 hx
        go_wp2_with fail
        try rw [HW4.out]
        go_ret
        exact ⟨rfl, HWW.out⟩

theorem allocChecks_any (w : World) (ca : Option Addr) (n cc : Nat) (wa : Option Addr) (m wc : Nat) (lk rg : Int) (A : Nat → Option Addr) (L C : Nat → Nat) (X : Nat → Nat → Nat → Int) (ka : Option Addr) (kc : Nat) (K : List (List Int)) (hm : m ≤ 9223372036854775807) (hp : PIn w ca n A L C X) (hK : CIn w ka K) (hT : TabZ w) :
    Calls Tryd.prog 6 #[prgV ca n cc wa m wc lk rg, .slice ka K.length kc] w fun e w' => e = .returned (.bool true) ∧ Below w.heap.size w w' := by
  have HV : Hid (∀ W, Below w.heap.size w W → Calls Tryd.prog 9 #[prgV ca n cc wa m wc lk rg] W fun e w' => ∃ b, e = .returned (.bool b) ∧ Below W.heap.size W w') := fun W hb => (vast_any ca n cc wa m wc lk rg A L C X hm W (hp.below hb)).mono fun e w' ⟨⟨b, h1⟩, h2⟩ => ⟨b, h1, h2⟩
  obtain ⟨x, y, z, hR⟩ : ∃ x y z, chk n L X m lk rg = (x, y, z) := ⟨_, _, _, rfl⟩
  have HCK : Hid (∀ W, Below w.heap.size w W → Calls Tryd.prog 12 #[prgV ca n cc wa m wc lk rg] W fun e w' => e = .returned (ints3 x y z) ∧ Below W.heap.size W w') := fun W hb => rcheck_any ca n cc wa m wc lk rg A L C X x y z hR W (hp.below hb)
  have HC : Hid (∀ W, Below w.heap.size w W → Calls Tryd.prog 26 #[prgV ca n cc wa m wc lk rg] W fun e w' => e = .returned (ints3 x y z) ∧ Below W.heap.size W w') := fun W hb => check_any ca n cc wa m wc lk rg A L C X x y z hR W (hp.below hb)
  by_cases hx : x = 0
  · obtain ⟨rfl, rfl, hn0, lk', rg', rfl, rfl, hc⟩ := chk_cok hR hx
    subst hx
    refine alc_walk w ca n cc wa m wc lk' rg' 0 0 0 ka K.length kc (ColP K n L X rg') HV (fun hk W hb => ?_) (fun W hb => ?_) HCK (fun _ hk W hb => ?_)
    · refine (acheck_yes W ca n cc wa m wc lk' rg' A L C X ka K.length kc K (hp.below hb) hc (hT.below hb) (hK.below hb) rfl hk (fun V hV => HC.out V (hb.trans (hV.mono hb.size)))).mono ?_
      rintro e w' ⟨b, rfl, h1, h2⟩
      exact ⟨b, rfl, ⟨fun h => absurd rfl h, fun _ => h1⟩, h2⟩
    · refine (acolours_yes W ca n cc wa m wc lk' rg' A L C X (hp.below hb) hn0 hc (hT.below hb) (fun V hV => HC.out V (hb.trans (hV.mono hb.size)))).mono ?_
      rintro e w' ⟨K', ua, uc, rfl, hO, hP, h2⟩
      refine ⟨ua, n, uc, rfl, ⟨fun h => absurd rfl h, fun _ V hV => ?_⟩, h2⟩
      have hb' := hb.trans (h2.mono hb.size)
      refine (rcolours_any V ca n cc wa m wc lk' rg' A L C X ua n uc K' (hp.below (hb'.trans (hV.mono hb'.size))) hc ((cin_own hO).below hV) hP.1 (by have := hc.n4; omega)).mono ?_
      rintro e w'' ⟨b, rfl, h3, h4⟩
      exact ⟨b, rfl, ⟨fun _ => trivial, fun _ => h3.2 hP⟩, h4⟩
    · exact rcolours_any W ca n cc wa m wc lk' rg' A L C X ka K.length kc K (hp.below hb) hc (hK.below hb) rfl hk
  · refine alc_walk w ca n cc wa m wc lk rg x y z ka K.length kc True HV (fun _ W hb => ?_) (fun W hb => ?_) HCK (fun h => absurd h hx)
    · refine (acheck_no W ca n cc wa m wc lk rg x y z (.slice ka K.length kc) hx (fun V hV => HC.out V (hb.trans (hV.mono hb.size)))).mono ?_
      rintro e w' ⟨rfl, h2⟩
      exact ⟨false, rfl, ⟨fun _ => rfl, fun h => absurd h hx⟩, h2⟩
    · refine (acolours_no W ca n cc wa m wc lk rg x y z hx (fun V hV => HC.out V (hb.trans (hV.mono hb.size)))).mono ?_
      rintro e w' ⟨rfl, h2⟩
      exact ⟨none, 0, 0, rfl, ⟨fun _ => rfl, fun h => absurd h hx⟩, h2⟩

end Go.Proofs.YtkailbdjilkneaaDoor
