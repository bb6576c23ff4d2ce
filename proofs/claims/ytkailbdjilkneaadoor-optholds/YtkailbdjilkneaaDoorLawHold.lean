/-
  The law of programs with less to do that come to the same: the walk.
-/
import Derived.Test.YtkailbdjilkneaaDoorSimD
import Derived.Test.YtkailbdjilkneaaDoorEffP
import Derived.Test.YtkailbdjilkneaaDoorOrder
import Derived.Test.YtkailbdjilkneaaDoorCOkP
import Derived.Test.YtkailbdjilkneaaDoorLivL
import Derived.Test.YtkailbdjilkneaaDoorRead
import Derived.Deep.RegionHeld3
import Derived.Deep.LoopGhost
import Derived.Deep.CutRange
namespace Go.Proofs.YtkailbdjilkneaaDoor
open Go.RowKit

/-- What is known of a program that was made of one that may be: it may be, what is told of both in either mode, and that this is the same. -/
structure HoldQ (w : World) (P Q : Value) (L : Nat → Nat) (X : Nat → Nat → Nat → Int) (L' : Nat → Nat) (X' : Nat → Nat → Nat → Int) (s0 : Sx) : Prop where
  chk : ∀ V, Below w.heap.size w V → Calls Tryd.prog 12 #[Q] V fun e w' => e = .returned (ints3 0 0 0) ∧ Below V.heap.size V w'
  old : ∀ (me : Bool) V, Below w.heap.size w V → Calls Tryd.prog 17 #[P, .bool me] V (MakeQ V L X (if me then 1 else 0) s0)
  new : ∀ (me : Bool) V, Below w.heap.size w V → Calls Tryd.prog 17 #[Q, .bool me] V (MakeQ V L' X' (if me then 1 else 0) s0)
  same : ∀ (me : Bool) a b, Told (nxX L X (if me then 1 else 0)) (outsX L X (if me then 1 else 0)) s0 4000 false a → Told (nxX L' X' (if me then 1 else 0)) (outsX L' X' (if me then 1 else 0)) s0 4000 false b → a = b
/-- What a call tells that makes a program of one: the fault, and, where there is none, what is known of the new program. -/
def MadeQ (w W : World) (P : Value) (L : Nat → Nat) (X : Nat → Nat → Nat → Int) (s0 : Sx) (x y z : Int) (e : Ending) (w' : World) : Prop :=
  ∃ va vn vc ua un uc ql qr, e = .returned (.tuple #[.agg #[.slice va vn vc, .slice ua un uc, .int .i64 ql, .int .i64 qr], ints3 x y z]) ∧ Hid (∀ V, (∀ g, W.heap.size ≤ g → g < w'.heap.size → V.heap[g]? = w'.heap[g]?) → Below w.heap.size w V → x = 0 → ∃ L' X', HoldQ V P (.agg #[.slice va vn vc, .slice ua un uc, .int .i64 ql, .int .i64 qr]) L X L' X' s0) ∧ Below W.heap.size W w'

set_option maxRecDepth 100000 in
set_option maxHeartbeats 6400000 in
theorem optHolds_walk (w : World) (ca : Option Addr) (n cc : Nat) (wa : Option Addr) (m wc0 : Nat) (lk rg x y z : Int) (L : Nat → Nat) (X : Nat → Nat → Nat → Int) (s0 : Sx)
    (HV : Hid (∀ W, Below w.heap.size w W → Calls Tryd.prog 9 #[prgV ca n cc wa m wc0 lk rg] W fun e w' => ∃ b, e = .returned (.bool b) ∧ Below W.heap.size W w'))
    (HC : Hid (∀ W, Below w.heap.size w W → Calls Tryd.prog 10 #[prgV ca n cc wa m wc0 lk rg] W (MadeQ w W (prgV ca n cc wa m wc0 lk rg) L X s0 x y z)))
    (HD : Hid (∀ W, Below w.heap.size w W → Calls Tryd.prog 11 #[prgV ca n cc wa m wc0 lk rg] W (MadeQ w W (prgV ca n cc wa m wc0 lk rg) L X s0 x y z)))
    (HCK : Hid (∀ W, Below w.heap.size w W → Calls Tryd.prog 12 #[prgV ca n cc wa m wc0 lk rg] W fun e w' => e = .returned (ints3 x y z) ∧ Below W.heap.size W w')) :
    Calls Tryd.prog 4 #[prgV ca n cc wa m wc0 lk rg] w fun e w' => e = .returned (.bool true) ∧ Below w.heap.size w w' := by
  have HB0 := Hid.out (p := Hid _) (below_one w (.cells #[.slice ca n cc, .slice wa m wc0, .int .i64 lk, .int .i64 rg] 25))
  have hp0 := heap_alloc_new w (.cells #[.slice ca n cc, .slice wa m wc0, .int .i64 lk, .int .i64 rg] 25)
  obtain ⟨W0, hW0⟩ : ∃ V, w.alloc (.cells #[.slice ca n cc, .slice wa m wc0, .int .i64 lk, .int .i64 rg] 25) = V := ⟨_, rfl⟩
  rw [hW0] at HB0 hp0
  have HAT : Hid (∀ V, Below W0.heap.size W0 V → Below w.heap.size w V ∧ V.cell? ⟨w.heap.size, 0, none⟩ = some (.slice ca n cc) ∧ V.cell? ⟨w.heap.size, 1, none⟩ = some (.slice wa m wc0) ∧ V.cell? ⟨w.heap.size, 2, none⟩ = some (.int .i64 lk) ∧ V.cell? ⟨w.heap.size, 3, none⟩ = some (.int .i64 rg)) := fun V hb => by
    have e1 := (hb.block w.heap.size (Array.getElem?_eq_some_iff.1 hp0).1).trans hp0
    exact ⟨HB0.out.trans (hb.mono HB0.out.size), box_cell e1 rfl, box_cell e1 rfl, box_cell e1 rfl, box_cell e1 rfl⟩
  have HW0 := Hid.out (p := Hid _) hW0
  clear hp0 hW0
  go_enter Tryd.func4, Tryd.ntmps4
  go_wp2_with fail
  rw [HW0.out]
  refine Calls.mono (HV.out _ HB0.out) ?_
  rintro e w1 ⟨bv, rfl, hb1⟩
  obtain ⟨hw1, p0, p1, p2, p3⟩ := HAT.out w1 hb1
  have H1 := Hid.out (p := Hid _) (And.intro hb1 hw1)
  clear HV HW0 hb1 hw1
  cases bv with
  | true =>
    go_wp2_with fail
    go_ret
    exact ⟨rfl, H1.out.2⟩
  | false =>
    go_wp2_with fail
    refine Calls.mono (HCK.out _ H1.out.2) ?_
    rintro e w2 ⟨rfl, hb2⟩
    have hb02 : Below W0.heap.size W0 w2 := H1.out.1.trans (hb2.mono H1.out.1.size)
    clear HCK p0 p1 p2 p3 hb2
    have hN2 := heap_alloc_new w2 (.cells #[.int .i64 x, .int .i64 y, .int .i64 z] 29)
    have hbN : Below W0.heap.size W0 (w2.alloc (.cells #[.int .i64 x, .int .i64 y, .int .i64 z] 29)) := hb02.alloc hb02.size _
    obtain ⟨W2, hW2⟩ : ∃ V, w2.alloc (.cells #[.int .i64 x, .int .i64 y, .int .i64 z] 29) = V := ⟨_, rfl⟩
    have HW2 := Hid.out (p := Hid _) hW2
    rw [hW2] at hN2 hbN
    have HPN : Hid (∀ V, Below W2.heap.size W2 V → Below w.heap.size w V ∧ V.cell? ⟨w.heap.size, 0, none⟩ = some (.slice ca n cc) ∧ V.cell? ⟨w.heap.size, 1, none⟩ = some (.slice wa m wc0) ∧ V.cell? ⟨w.heap.size, 2, none⟩ = some (.int .i64 lk) ∧ V.cell? ⟨w.heap.size, 3, none⟩ = some (.int .i64 rg) ∧ V.cell? ⟨w2.heap.size, 0, none⟩ = some (.int .i64 x) ∧ V.cell? ⟨w2.heap.size, 1, none⟩ = some (.int .i64 y) ∧ V.cell? ⟨w2.heap.size, 2, none⟩ = some (.int .i64 z)) := fun V hV => by
      obtain ⟨h1, h2, h3, h4, h5⟩ := HAT.out V (hbN.trans (hV.mono hbN.size))
      have e1 := (hV.block _ (Array.getElem?_eq_some_iff.1 hN2).1).trans hN2
      exact ⟨h1, h2, h3, h4, h5, box_cell e1 rfl, box_cell e1 rfl, box_cell e1 rfl⟩
    clear hN2 hbN hW2 hb02 H1 HAT HB0
    go_wp2_with fail
    rw [HW2.out]
    clear HW2
    go_loopg [4] 3 (fun gk i wr => ∃ k : Nat, k + gk = 3 ∧ k ≤ 2 ∧ i = .int .i64 k ∧ Hid (Below W2.heap.size W2 wr))
    case atStart => exact ⟨0, by omega, by omega, rfl, Below.refl _ _⟩
    case round =>
      obtain ⟨k, hgk, hk, rfl, HI⟩ := hrel
      have HGK := Hid.out (p := Hid _) hgk
      by_cases hk2 : k < 2
      · have hki : (k : Int) < 2 := by omega
        obtain ⟨hw, p0, p1, p2, p3, n0, n1, n2⟩ := HPN.out wr HI.out
        have HCC := Hid.out (p := Hid _) (HC.out wr hw)
        clear hw hgk hk
        go_wp2_with fail
        refine Calls.mono HCC.out ?_
        rintro e w3 ⟨va, vn, vc, ua, un, uc, ql, qr, rfl, HM, hb3⟩
        clear p0 p1 p2 p3 n0 n1 n2 HCC
        have hb23 : Below W2.heap.size W2 w3 := HI.out.trans (hb3.mono HI.out.size)
        have hU : Below w3.heap.size w3 ((w3.alloc (.cells #[.slice va vn vc, .slice ua un uc, .int .i64 ql, .int .i64 qr] 25)).alloc (.cells #[.int .i64 x, .int .i64 y, .int .i64 z] 29)) := below_two _ _ _
        have hQ0 : ((w3.alloc (.cells #[.slice va vn vc, .slice ua un uc, .int .i64 ql, .int .i64 qr] 25)).alloc (.cells #[.int .i64 x, .int .i64 y, .int .i64 z] 29)).heap[w3.heap.size]? = some (.cells #[.slice va vn vc, .slice ua un uc, .int .i64 ql, .int .i64 qr] 25) := box_later (heap_alloc_new _ _) _
        have hF0 : ((w3.alloc (.cells #[.slice va vn vc, .slice ua un uc, .int .i64 ql, .int .i64 qr] 25)).alloc (.cells #[.int .i64 x, .int .i64 y, .int .i64 z] 29)).heap[w3.heap.size + 1]? = some (.cells #[.int .i64 x, .int .i64 y, .int .i64 z] 29) := by
          have := heap_alloc_new (w3.alloc (.cells #[.slice va vn vc, .slice ua un uc, .int .i64 ql, .int .i64 qr] 25)) (.cells #[.int .i64 x, .int .i64 y, .int .i64 z] 29)
          rwa [World.size_alloc] at this
        have hbU := hb23.trans (hU.mono hb23.size)
        obtain ⟨hwU, -, -, -, -, -, -, -⟩ := HPN.out _ hbU
        have hs2 : W2.heap.size ≤ w3.heap.size := hb23.size
        have HX : Hid (x = 0 → ∃ L' X', HoldQ ((w3.alloc (.cells #[.slice va vn vc, .slice ua un uc, .int .i64 ql, .int .i64 qr] 25)).alloc (.cells #[.int .i64 x, .int .i64 y, .int .i64 z] 29)) (prgV ca n cc wa m wc0 lk rg) (.agg #[.slice va vn vc, .slice ua un uc, .int .i64 ql, .int .i64 qr]) L X L' X' s0) := HM.out _ (fun g _ h2 => hU.block g h2) hwU
        have HU := Hid.out (p := Hid _) (And.intro hbU (And.intro hQ0 (And.intro hF0 (And.intro hwU hs2))))
        clear hb23 hU hQ0 hF0 hbU hwU HM hb3 hs2
        obtain ⟨U, hUU⟩ : ∃ V, ((w3.alloc (.cells #[.slice va vn vc, .slice ua un uc, .int .i64 ql, .int .i64 qr] 25)).alloc (.cells #[.int .i64 x, .int .i64 y, .int .i64 z] 29)) = V := ⟨_, rfl⟩
        have HUU := Hid.out (p := Hid _) hUU
        rw [hUU] at HX HU
        clear hUU
        go_upto_if 26 with fail
        rw [HUU.out]
        go_cut [] from 16 to 79 (fun wx => Hid (∃ va vn vc ua un uc ql qr, Below W2.heap.size W2 wx ∧ wx.heap[w3.heap.size]? = some (.cells #[.slice va vn vc, .slice ua un uc, .int .i64 ql, .int .i64 qr] 25) ∧ wx.heap[w3.heap.size + 1]? = some (.cells #[.int .i64 x, .int .i64 y, .int .i64 z] 29) ∧ (x = 0 → ∃ L' X', HoldQ wx (prgV ca n cc wa m wc0 lk rg) (.agg #[.slice va vn vc, .slice ua un uc, .int .i64 ql, .int .i64 qr]) L X L' X' s0)))
        case first =>
          clear HUU
          by_cases h1 : k = 1
          · subst h1
            obtain ⟨-, p0, p1, p2, p3, n0, n1, n2⟩ := HPN.out U HU.out.1
            have HDD := Hid.out (p := Hid _) (HD.out U HU.out.2.2.2.1)
            go_wp2_with fail
            refine Calls.mono HDD.out ?_
            rintro e w5 ⟨va2, vn2, vc2, ua2, un2, uc2, ql2, qr2, rfl, HM, hb5⟩
            have hb25 : Below W2.heap.size W2 w5 := HU.out.1.trans (hb5.mono HU.out.1.size)
            have hQ5 := (hb5.block _ (box_lt HU.out.2.1)).trans HU.out.2.1
            have hF5 := (hb5.block _ (box_lt HU.out.2.2.1)).trans HU.out.2.2.1
            have q0 := box_cell (i := 0) hQ5 rfl
            have q1 := box_cell (i := 1) hQ5 rfl
            have q2 := box_cell (i := 2) hQ5 rfl
            have q3 := box_cell (i := 3) hQ5 rfl
            have qf : ∀ i, w5.frozen? ⟨w3.heap.size, i, none⟩ = false := fun i => box_free hQ5
            have f0 := box_cell (i := 0) hF5 rfl
            have f1 := box_cell (i := 1) hF5 rfl
            have f2 := box_cell (i := 2) hF5 rfl
            have ff : ∀ i, w5.frozen? ⟨w3.heap.size + 1, i, none⟩ = false := fun i => box_free hF5
            have H5 := Hid.out (p := Hid _) (And.intro hb25 (And.intro hQ5 (And.intro hF5 hb5)))
            clear p0 p1 p2 p3 n0 n1 n2 HDD hb25 hQ5 hF5 hb5 HX
            go_wp2_with fail
            go_meet
            case rel =>
              have hs2 : W2.heap.size ≤ w3.heap.size := HU.out.2.2.2.2
              have hU2 : w3.heap.size + 1 < U.heap.size := box_lt HU.out.2.2.1
              have hl := set3_low (F := w3.heap.size + 1) (set4_low H5.out.1 hs2 (.slice va2 vn2 vc2) (.slice ua2 un2 uc2) (.int .i64 ql2) (.int .i64 qr2)) (by omega) (.int .i64 x) (.int .i64 y) (.int .i64 z)
              refine ⟨va2, vn2, vc2, ua2, un2, uc2, ql2, qr2, hl, ?_, ?_, HM.out _ (fun g h1 h2 => ?_) (HPN.out _ hl).1⟩
              · exact (set3_far (by omega) _ _ _).trans (set4_is H5.out.2.1 _ _ _ _)
              · exact set3_is ((set4_far (by omega) _ _ _ _).trans H5.out.2.2.1) _ _ _
              · exact (set3_far (by omega) _ _ _).trans (set4_far (by omega) _ _ _ _)
          · have h1' : ((k : Int) == 1) = false := by simp; omega
            go_wp2_with fail
            go_meet
            case rel => exact ⟨va, vn, vc, ua, un, uc, ql, qr, HU.out.1, HU.out.2.1, HU.out.2.2.1, HX.out⟩
        case rest =>
          obtain ⟨va, vn, vc, ua, un, uc, ql, qr, hb, hQ, hF, hX⟩ := hcut.out
          obtain ⟨hwU, p0, p1, p2, p3, n0, n1, n2⟩ := HPN.out wc hb
          have q0 := box_cell (i := 0) hQ rfl
          have q1 := box_cell (i := 1) hQ rfl
          have q2 := box_cell (i := 2) hQ rfl
          have q3 := box_cell (i := 3) hQ rfl
          have f0 := box_cell (i := 0) hF rfl
          have f1 := box_cell (i := 1) hF rfl
          have f2 := box_cell (i := 2) hF rfl
          have HU' := Hid.out (p := Hid _) (And.intro hb (And.intro hQ hwU))
          clear hb hQ hF hwU HUU HX HU hcut
          by_cases hx : x = 0
          · subst hx
            obtain ⟨L', X', hS⟩ := hX rfl
            have HSQ := Hid.out (p := Hid _) hS
            clear hS hX
            go_wp2_with fail
            refine Calls.mono (HSQ.out.chk wc (Below.refl _ _)) ?_
            clear p0 p1 p2 p3 n0 n1 n2 q0 q1 q2 q3 f0 f1 f2
            rintro e w4 ⟨rfl, hb4⟩
            have HPQ : Hid (∀ V, Below w4.heap.size w4 V → Below W2.heap.size W2 V ∧ Below wc.heap.size wc V ∧ V.cell? ⟨w.heap.size, 0, none⟩ = some (.slice ca n cc) ∧ V.cell? ⟨w.heap.size, 1, none⟩ = some (.slice wa m wc0) ∧ V.cell? ⟨w.heap.size, 2, none⟩ = some (.int .i64 lk) ∧ V.cell? ⟨w.heap.size, 3, none⟩ = some (.int .i64 rg) ∧ V.cell? ⟨w3.heap.size, 0, none⟩ = some (.slice va vn vc) ∧ V.cell? ⟨w3.heap.size, 1, none⟩ = some (.slice ua un uc) ∧ V.cell? ⟨w3.heap.size, 2, none⟩ = some (.int .i64 ql) ∧ V.cell? ⟨w3.heap.size, 3, none⟩ = some (.int .i64 qr)) := fun V hV => by
              have h1 := hb4.trans (hV.mono hb4.size)
              have h2 := HU'.out.1.trans (h1.mono HU'.out.1.size)
              obtain ⟨_, g0, g1, g2, g3, _, _, _⟩ := HPN.out V h2
              have e1 := (h1.block _ (Array.getElem?_eq_some_iff.1 HU'.out.2.1).1).trans HU'.out.2.1
              exact ⟨h2, h1, g0, g1, g2, g3, box_cell e1 rfl, box_cell e1 rfl, box_cell e1 rfl, box_cell e1 rfl⟩
            have HN4 : Hid (Below w4.heap.size w4 (w4.alloc (.cells #[.int .i64 0, .int .i64 0, .int .i64 0] 29))) := below_one _ _
            clear hb4 HU'
            go_wp2_with fail
            go_loopg [8] 3 (fun gj i wi => ∃ j : Nat, j + gj = 3 ∧ j ≤ 2 ∧ i = .int .i64 j ∧ Hid (Below w4.heap.size w4 wi))
            case atStart => exact ⟨0, by omega, by omega, rfl, HN4.out⟩
            case round =>
              clear HN4 HI
              obtain ⟨j, hgj, hj, rfl, HI⟩ := hrel
              have HGJ := Hid.out (p := Hid _) hgj
              clear hgj
              by_cases hj2 : j < 2
              · obtain ⟨md, hmd⟩ : ∃ b : Bool, ((j : Int) == 1) = b := ⟨_, rfl⟩
                obtain ⟨-, hbU, p0, p1, p2, p3, q0, q1, q2, q3⟩ := HPQ.out wr HI.out
                have HMA := Hid.out (p := Hid _) (HSQ.out.old md wr hbU)
                have hji : (j : Int) < 2 := by omega
                clear hbU
                go_wp2_with fail
                try rw [hmd]
                refine Calls.mono HMA.out ?_
                rintro e w5 ⟨pa, fa, ea, ec, la, rfl, ta, c4a, c5a, oa, da, hb5⟩
                have hb45 : Below w4.heap.size w4 w5 := HI.out.trans (hb5.mono HI.out.size)
                clear p0 p1 p2 p3 q0 q1 q2 q3 HMA
                obtain ⟨-, hbU, p0, p1, p2, p3, q0, q1, q2, q3⟩ := HPQ.out w5 hb45
                have HMB := Hid.out (p := Hid _) (HSQ.out.new md w5 hbU)
                have HA := Hid.out (p := Hid _) (And.intro ta (And.intro oa (And.intro da hb45)))
                obtain ⟨na, hna⟩ : ∃ q, la.length = q := ⟨_, rfl⟩
                have HNA := Hid.out (p := Hid _) hna
                rw [hna] at c4a
                clear ta oa da hb5 hb45 hbU hna
                go_wp2_with fail
                try rw [hmd]
                refine Calls.mono HMB.out ?_
                rintro e w6 ⟨pb, fb, eb, ec2, lb, rfl, tb, c4b, c5b, ob, db, hb6⟩
                have d4a := (hb6.cell (lt_of_cell c4a)).trans c4a
                have d5a := (hb6.cell (lt_of_cell c5a)).trans c5a
                have hb46 : Below w4.heap.size w4 w6 := HA.out.2.2.2.trans (hb6.mono HA.out.2.2.2.size)
                obtain ⟨nb, hnb⟩ : ∃ q, lb.length = q := ⟨_, rfl⟩
                have HNB := Hid.out (p := Hid _) hnb
                rw [hnb] at c4b
                have HB := Hid.out (p := Hid _) (And.intro tb (And.intro ob (And.intro db (And.intro hb46 (HA.out.2.1.below hb6)))))
                obtain ⟨sm, hsm⟩ : ∃ b : Bool, decide (la = lb) = b := ⟨_, rfl⟩
                have HSM : Hid (∀ V, Below w6.heap.size w6 V → Calls Tryd.prog 18 #[.slice ea na ec, .slice eb nb ec2] V fun e w' => e = .returned (.bool sm) ∧ Below V.heap.size V w') := fun V hV => by
                  have h := rsame_any ea eb la lb ec ec2 HA.out.2.2.1 HB.out.2.2.1 V (HB.out.2.2.2.2.below hV) (HB.out.2.1.below hV)
                  rw [HNA.out, HNB.out, hsm] at h
                  exact h
                have HSF : Hid (fa = false → fb = false → sm = true) := fun h1 h2 => by
                  subst h1 h2
                  rw [← hsm]
                  exact decide_eq_true (HSQ.out.same md la lb HA.out.1 HB.out.1)
                have HC6 : Hid (∀ V, Below w6.heap.size w6 V → Below w4.heap.size w4 V ∧ V.cell? ⟨pa, 4, none⟩ = some (.slice ea na ec) ∧ V.cell? ⟨pa, 5, none⟩ = some (.bool fa) ∧ V.cell? ⟨pb, 4, none⟩ = some (.slice eb nb ec2) ∧ V.cell? ⟨pb, 5, none⟩ = some (.bool fb)) := fun V hV => ⟨HB.out.2.2.2.1.trans (hV.mono HB.out.2.2.2.1.size), (hV.cell (lt_of_cell d4a)).trans d4a, (hV.cell (lt_of_cell d5a)).trans d5a, (hV.cell (lt_of_cell c4b)).trans c4b, (hV.cell (lt_of_cell c5b)).trans c5b⟩
                clear tb ob db hb6 c4a c5a p0 p1 p2 p3 q0 q1 q2 q3 hb46 hnb hsm HA HB HMB
                go_wp2_with fail
                go_region_held3 (fun w' => w'.cell? ⟨pa, 4, none⟩ = some (.slice ea na ec) ∧ w'.cell? ⟨pb, 4, none⟩ = some (.slice eb nb ec2)) (refine ⟨?_, ?_⟩ <;> (repeat (first | (with_reducible assumption) | (with_reducible refine cell_drw ?_) | (with_reducible refine cell_up ?_ _)))) ((go_at_call 18; refine Calls.mono (HSM.out _ (Below.refl _ _).drew) ?_; rintro e w7 ⟨rfl, hb7⟩; obtain ⟨hw7, j0, j1, j2, j3⟩ := HC6.out w7 ((Below.refl _ _).drew.trans hb7); have HW7 := Hid.out (p := Hid _) hw7; clear hb7 hw7))
                all_goals clear d4a d5a c4b c5b HC6 HSM
                all_goals cases fa with
                | true =>
                  go_wp2_with fail
                  go_roundg (2 - j)
                  case measure => have := HGJ.out; omega
                  case rel => exact ⟨j + 1, by omega, by omega, by go_num, HW7.out⟩
                | false =>
                  cases fb with
                  | true =>
                    go_wp2_with fail
                    go_roundg (2 - j)
                    case measure => have := HGJ.out; omega
                    case rel => exact ⟨j + 1, by omega, by omega, by go_num, HW7.out⟩
                  | false =>
                    have hsm := HSF.out rfl rfl
                    subst hsm
                    go_wp2_with fail
                    go_roundg (2 - j)
                    case measure => have := HGJ.out; omega
                    case rel => exact ⟨j + 1, by omega, by omega, by go_num, HW7.out⟩
              · obtain rfl : j = 2 := by omega
                obtain ⟨hbW, -⟩ := HPQ.out wr HI.out
                have HBW := Hid.out (p := Hid _) hbW
                clear hbW
                go_wp2_with fail
                go_roundg (2 - k)
                case measure => have := HGK.out; omega
                case rel => exact ⟨k + 1, by omega, by omega, by go_num, HBW.out⟩
          · have hx' : (x != 0) = true := by simpa using hx
            go_wp2_with fail
            go_roundg (2 - k)
            case measure => have := HGK.out; omega
            case rel => exact ⟨k + 1, by omega, by omega, by go_num, HU'.out.1⟩
      · obtain rfl : k = 2 := by omega
        have HWR : Hid (Below w.heap.size w wr) := (HPN.out wr HI.out).1
        go_wp2_with fail
        go_ret
        exact ⟨rfl, HWR.out⟩

end Go.Proofs.YtkailbdjilkneaaDoor
