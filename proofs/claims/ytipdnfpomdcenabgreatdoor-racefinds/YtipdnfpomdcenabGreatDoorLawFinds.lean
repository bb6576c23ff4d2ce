/-
  The law of clashes.
-/
import Derived.Test.YtipdnfpomdcenabGreatDoorRcFind
import Derived.Test.YtipdnfpomdcenabGreatDoorRcMake
import Derived.Test.YtipdnfpomdcenabGreatDoorOrder
import Derived.Test.YtipdnfpomdcenabGreatDoorSameI
import Derived.Test.YtipdnfpomdcenabGreatDoorSOk
import Derived.Test.YtipdnfpomdcenabGreatDoorPBegin
import Derived.Deep.RegionHeld3
namespace Go.Proofs.YtipdnfpomdcenabGreatDoor
open Go.RowKit Go.Sort Go.Shelf

set_option maxRecDepth 100000 in
set_option maxHeartbeats 3200000 in
theorem raceFinds_no (w : World) (ca : Option Addr) (n cc : Nat) (wa : Option Addr) (m wc : Nat) (lk rg : Int) (A : Nat → Option Addr) (L C : Nat → Nat) (X : Nat → Nat → Nat → Int) (x y z : Int) (HR : Hid (chk n L X m lk rg = (x, y, z))) (hx : (x != 0) = true) (hm : m ≤ 9223372036854775807) (hp : PIn w ca n A L C X) :
    Calls Tryz.prog 6 #[prgV ca n cc wa m wc lk rg] w fun e w' => e = .returned (.bool true) ∧ Below w.heap.size w w' := by
  have HV : Hid (∀ W, Below w.heap.size w W → Calls Tryz.prog 7 #[prgV ca n cc wa m wc lk rg] W fun e w' => ∃ b, e = .returned (.bool b) ∧ Below W.heap.size W w') := fun W hb => (vast_any ca n cc wa m wc lk rg A L C X hm W (hp.below hb)).mono fun e w' ⟨⟨b, h1⟩, h2⟩ => ⟨b, h1, h2⟩
  have HSC : Hid (∀ W, Below w.heap.size w W → Calls Tryz.prog 21 #[prgV ca n cc wa m wc lk rg] W fun e w' => e = .returned (.tuple #[nilV, ints3 x y z]) ∧ Below W.heap.size W w') := fun W hb => find_no W ca n cc wa m wc lk rg A L C X x y z HR hx (hp.below hb)
  have HRC : Hid (∀ W, Below w.heap.size w W → Calls Tryz.prog 9 #[prgV ca n cc wa m wc lk rg] W fun e w' => e = .returned (ints3 x y z) ∧ Below W.heap.size W w') := fun W hb => rcheck_any ca n cc wa m wc lk rg A L C X x y z HR W (hp.below hb)
  obtain ⟨PB, hPB⟩ : ∃ o : Obj, o = .cells #[.slice ca n cc, .slice wa m wc, .int .i64 lk, .int .i64 rg] 25 := ⟨_, rfl⟩
  have hb0 : Below w.heap.size w (w.alloc PB) := (Below.refl _ _).alloc (Nat.le_refl _) _
  have hp0 : (w.alloc PB).heap[w.heap.size]? = some PB := heap_alloc_new _ _
  have HAT : Hid (∀ V, Below (w.alloc PB).heap.size (w.alloc PB) V → Below w.heap.size w V ∧ V.cell? ⟨w.heap.size, 0, none⟩ = some (.slice ca n cc) ∧ V.cell? ⟨w.heap.size, 1, none⟩ = some (.slice wa m wc) ∧ V.cell? ⟨w.heap.size, 2, none⟩ = some (.int .i64 lk) ∧ V.cell? ⟨w.heap.size, 3, none⟩ = some (.int .i64 rg)) := fun V hb => by
    have e1 := (hb.block w.heap.size (by simp)).trans hp0
    rw [hPB] at e1
    exact ⟨hb0.trans (hb.mono hb0.size), box_cell e1 rfl, box_cell e1 rfl, box_cell e1 rfl, box_cell e1 rfl⟩
  obtain ⟨W0, hW0⟩ : ∃ V, w.alloc PB = V := ⟨_, rfl⟩
  have HW0 : Hid (w.alloc (.cells #[.slice ca n cc, .slice wa m wc, .int .i64 lk, .int .i64 rg] 25) = W0) := by rw [← hW0, hPB]; exact rfl
  have HB0 : Hid (Below w.heap.size w W0) := by rw [← hW0]; exact hb0
  rw [hW0] at HAT
  clear HR hp hm hPB hb0 hp0 hW0
  go_enter Tryz.func6, Tryz.ntmps6
  go_wp2_with fail
  rw [HW0.out]
  refine Calls.mono (HV.out _ HB0.out) ?_
  rintro e w1 ⟨b, rfl, hb1⟩
  obtain ⟨hw1, p0, p1, p2, p3⟩ := HAT.out w1 hb1
  have H1 := Hid.out (p := Hid _) (And.intro hb1 hw1)
  clear HV HW0 hb1 hw1
  cases b with
  | true =>
    go_wp2_with fail
    go_ret
    exact ⟨rfl, H1.out.2⟩
  | false =>
    go_wp2_with fail
    refine Calls.mono (HSC.out _ H1.out.2) ?_
    rintro e w2 ⟨rfl, hb2⟩
    clear p0 p1 p2 p3
    obtain ⟨hw2, p0, p1, p2, p3⟩ := HAT.out w2 (H1.out.1.trans (hb2.mono H1.out.1.size))
    have H2 := Hid.out (p := Hid _) (And.intro (H1.out.1.trans (hb2.mono H1.out.1.size)) hw2)
    have q0 := cell_up p0
    have q1 := cell_up p1
    have q2 := cell_up p2
    have q3 := cell_up p3
    clear HSC hb2 hw2
    go_wp2_with fail
    have hB2 : Below w.heap.size w (w2.alloc (.cells #[.int .i64 x, .int .i64 y, .int .i64 z] 30)) := H2.out.2.alloc H2.out.2.size _
    refine Calls.mono (HRC.out _ hB2) ?_
    rintro e w3 ⟨rfl, hb3⟩
    have hF : w3.heap[w2.heap.size]? = some (.cells #[.int .i64 x, .int .i64 y, .int .i64 z] 30) := (hb3.block _ (by simp)).trans (heap_alloc_new _ _)
    have hz3 : w2.heap.size < w3.heap.size := box_lt hF
    have f0 : ∀ o, (w3.alloc o).cell? ⟨w2.heap.size, 0, none⟩ = some (.int .i64 x) := fun o => box_cell (box_later hF o) rfl
    have f1 : ∀ o, (w3.alloc o).cell? ⟨w2.heap.size, 1, none⟩ = some (.int .i64 y) := fun o => box_cell (box_later hF o) rfl
    have f2 : ∀ o, (w3.alloc o).cell? ⟨w2.heap.size, 2, none⟩ = some (.int .i64 z) := fun o => box_cell (box_later hF o) rfl
    have hB3 : Below w.heap.size w (w3.alloc (.cells #[.int .i64 x, .int .i64 y, .int .i64 z] 30)) := (hB2.trans (hb3.mono hB2.size)).alloc (hB2.trans (hb3.mono hB2.size)).size _
    have HB3 := Hid.out (p := Hid _) hB3
    clear HRC hB2 hb3 hF hB3 p0 p1 p2 p3 q0 q1 q2 q3
    go_wp2
    go_ret
    exact ⟨rfl, HB3.out⟩
set_option maxRecDepth 100000 in
set_option maxHeartbeats 6400000 in
theorem raceFinds_yes (w : World) (ca : Option Addr) (n cc : Nat) (wa : Option Addr) (wc lk rg : Nat) (words : List Int) (A : Nat → Option Addr) (L C : Nat → Nat) (X : Nat → Nat → Nat → Int) (HR : Hid (chk n L X words.length lk rg = (0, 0, 0))) (hp : PIn w ca n A L C X) (hc : COk n L X words.length lk rg) (hn0 : 0 < n) (hw : SIs w wa words) (hnil : wa = none → words = [] ∧ wc = 0) (hfit : ∀ t i, t < n → i < L t → I64n (X t i 2)) (hwf : ∀ x, x ∈ words → I64n x) (htab : TabB w.heap.size w) :
    Calls Tryz.prog 6 #[prgV ca n cc wa words.length wc lk rg] w fun e w' => e = .returned (.bool true) ∧ Below w.heap.size w w' := by
  have hm : words.length ≤ 9223372036854775807 := by have := hc.m64; omega
  have HV : Hid (∀ W, Below w.heap.size w W → Calls Tryz.prog 7 #[prgV ca n cc wa words.length wc lk rg] W fun e w' => ∃ b, e = .returned (.bool b) ∧ Below W.heap.size W w') := fun W hb => (vast_any ca n cc wa words.length wc lk rg A L C X hm W (hp.below hb)).mono fun e w' ⟨⟨b, h1⟩, h2⟩ => ⟨b, h1, h2⟩
  have HSC : Hid (∀ W, Below w.heap.size w W → Calls Tryz.prog 21 #[prgV ca n cc wa words.length wc lk rg] W fun e w' => ∃ (full : Bool) (z : Int) (a : Option Addr) (cap : Nat) (l : List (List Int)), e = .returned (.tuple #[.slice a l.length cap, ints3 z 0 0]) ∧ Hid (Told (nxX L X 0) (fun _ => []) (beginX n words lk rg) 4000 full [] ∧ CIn w' a l ∧ (full = true → l.length = 0) ∧ Below W.heap.size W w' ∧ (z = if full then 10 else 0) ∧ (full = false → ToldC L X (beginX n words lk rg) l))) := fun W hb => by
    refine Calls.mono (find_yes W ca n cc wa wc lk rg words A L C X HR (hp.below hb) hc hn0 (hw.below hb) hnil hfit hwf (htab.up hb)) ?_
    rintro e w' ⟨full, a, cap, l, h1, h2, h3, h4, h5, h6⟩
    exact ⟨full, _, a, cap, l, h1, h2, h3.cin, fun hf => by rw [h4 hf]; rfl, h6, rfl, h5⟩
  have HRC : Hid (∀ W, Below w.heap.size w W → Calls Tryz.prog 9 #[prgV ca n cc wa words.length wc lk rg] W fun e w' => e = .returned (ints3 0 0 0) ∧ Below W.heap.size W w') := fun W hb => rcheck_any ca n cc wa words.length wc lk rg A L C X 0 0 0 HR W (hp.below hb)
  have HMK : Hid (∀ W, Below w.heap.size w W → Calls Tryz.prog 10 #[prgV ca n cc wa words.length wc lk rg, .bool false] W (MakeC W L X (beginX n words lk rg))) := fun W hb => makeC_any W ca n cc wa wc lk rg words A L C X (hw.below hb) hn0 hc (hp.below hb)
  obtain ⟨s0, hs0⟩ : ∃ s0, beginX n words lk rg = s0 := ⟨_, rfl⟩
  rw [hs0] at HSC HMK
  obtain ⟨m, hmm⟩ : ∃ k, words.length = k := ⟨_, rfl⟩
  rw [hmm] at HV HSC HRC HMK ⊢
  clear HR hp hc hn0 hw hnil hfit hwf htab hs0 hmm hm
  obtain ⟨PB, hPB⟩ : ∃ o : Obj, o = .cells #[.slice ca n cc, .slice wa m wc, .int .i64 (lk : Int), .int .i64 (rg : Int)] 25 := ⟨_, rfl⟩
  have hb0 : Below w.heap.size w (w.alloc PB) := (Below.refl _ _).alloc (Nat.le_refl _) _
  have hp0 : (w.alloc PB).heap[w.heap.size]? = some PB := heap_alloc_new _ _
  have HAT : Hid (∀ V, Below (w.alloc PB).heap.size (w.alloc PB) V → Below w.heap.size w V ∧ V.cell? ⟨w.heap.size, 0, none⟩ = some (.slice ca n cc) ∧ V.cell? ⟨w.heap.size, 1, none⟩ = some (.slice wa m wc) ∧ V.cell? ⟨w.heap.size, 2, none⟩ = some (.int .i64 (lk : Int)) ∧ V.cell? ⟨w.heap.size, 3, none⟩ = some (.int .i64 (rg : Int))) := fun V hb => by
    have e1 := (hb.block w.heap.size (by simp)).trans hp0
    rw [hPB] at e1
    exact ⟨hb0.trans (hb.mono hb0.size), box_cell e1 rfl, box_cell e1 rfl, box_cell e1 rfl, box_cell e1 rfl⟩
  obtain ⟨W0, hW0⟩ : ∃ V, w.alloc PB = V := ⟨_, rfl⟩
  have HW0 : Hid (w.alloc (.cells #[.slice ca n cc, .slice wa m wc, .int .i64 (lk : Int), .int .i64 (rg : Int)] 25) = W0) := by rw [← hW0, hPB]; exact rfl
  have HB0 : Hid (Below w.heap.size w W0) := by rw [← hW0]; exact hb0
  rw [hW0] at HAT
  clear hPB hb0 hp0 hW0
  go_enter Tryz.func6, Tryz.ntmps6
  go_wp2_with fail
  rw [HW0.out]
  refine Calls.mono (HV.out _ HB0.out) ?_
  rintro e w1 ⟨b, rfl, hb1⟩
  obtain ⟨hw1, p0, p1, p2, p3⟩ := HAT.out w1 hb1
  have H1 := Hid.out (p := Hid _) (And.intro hb1 hw1)
  clear HV HW0 hb1 hw1
  cases b with
  | true =>
    go_wp2_with fail
    go_ret
    exact ⟨rfl, H1.out.2⟩
  | false =>
    go_wp2_with fail
    refine Calls.mono (HSC.out _ H1.out.2) ?_
    rintro e w2 ⟨full, z, a, cap, l, rfl, HS⟩
    clear p0 p1 p2 p3
    obtain ⟨hw2, p0, p1, p2, p3⟩ := HAT.out w2 (H1.out.1.trans (HS.out.2.2.2.1.mono H1.out.1.size))
    have H2 : Hid (Below W0.heap.size W0 w2 ∧ Below w.heap.size w w2) := ⟨H1.out.1.trans (HS.out.2.2.2.1.mono H1.out.1.size), hw2⟩
    have q0 := cell_up p0
    have q1 := cell_up p1
    have q2 := cell_up p2
    have q3 := cell_up p3
    obtain ⟨ln, hln⟩ : ∃ k, l.length = k := ⟨_, rfl⟩
    have HLN : Hid (l.length = ln) := hln
    rw [hln]
    clear HSC hw2 hln
    go_wp2_with fail
    have hB2 : Below w.heap.size w (w2.alloc (.cells #[.int .i64 z, .int .i64 0, .int .i64 0] 30)) := H2.out.2.alloc H2.out.2.size _
    refine Calls.mono (HRC.out _ hB2) ?_
    rintro e w3 ⟨rfl, hb3⟩
    have hF : w3.heap[w2.heap.size]? = some (.cells #[.int .i64 z, .int .i64 0, .int .i64 0] 30) := (hb3.block _ (by simp)).trans (heap_alloc_new _ _)
    have hz3 : w2.heap.size < w3.heap.size := box_lt hF
    have hB3 : Below W0.heap.size W0 w3 := (H2.out.1.alloc H2.out.1.size _).trans (hb3.mono (by have := H2.out.1.size; simp; omega))
    clear p0 p1 p2 p3 q0 q1 q2 q3
    obtain ⟨hw3, p0, p1, p2, p3⟩ := HAT.out w3 hB3
    have q0 := cell_up p0
    have q1 := cell_up p1
    have q2 := cell_up p2
    have q3 := cell_up p3
    have f0 : ∀ o, (w3.alloc o).cell? ⟨w2.heap.size, 0, none⟩ = some (.int .i64 z) := fun o => box_cell (box_later hF o) rfl
    have H3 : Hid (w3.heap[w2.heap.size]? = some (.cells #[.int .i64 z, .int .i64 0, .int .i64 0] 30) ∧ Below w.heap.size w w3 ∧ CIn w3 a l) := ⟨hF, hw3, HS.out.2.1.below (((Below.refl _ _).alloc (Nat.le_refl _) _).trans (hb3.mono (by simp)))⟩
    clear HRC hB2 hb3 hF hB3 hw3
    go_wp2_with fail
    have hb4 : Below w3.heap.size w3 (w3.alloc (.cells #[.int .i64 0, .int .i64 0, .int .i64 0] 30)) := (Below.refl _ _).alloc (Nat.le_refl _) _
    refine Calls.mono (HMK.out _ (H3.out.2.1.trans (hb4.mono H3.out.2.1.size))) ?_
    rintro e w4 ⟨pb, full2, rfl, ht2, c5, hb5, hCL⟩
    have hb6 : Below w3.heap.size w3 w4 := hb4.trans (hb5.mono hb4.size)
    have hF4 : w4.heap[w2.heap.size]? = some (.cells #[.int .i64 z, .int .i64 0, .int .i64 0] 30) := (hb6.block _ hz3).trans H3.out.1
    have g0 : w4.cell? ⟨w2.heap.size, 0, none⟩ = some (.int .i64 z) := box_cell hF4 rfl
    have g1 : w4.cell? ⟨w2.heap.size, 1, none⟩ = some (.int .i64 0) := box_cell hF4 rfl
    have g2 : w4.cell? ⟨w2.heap.size, 2, none⟩ = some (.int .i64 0) := box_cell hF4 rfl
    obtain ⟨hff, _⟩ := told_same HS.out.1 ht2
    subst hff
    have H4 : Hid (Below w.heap.size w w4 ∧ w4.heap[w2.heap.size]? = some (.cells #[.int .i64 z, .int .i64 0, .int .i64 0] 30)) := ⟨H3.out.2.1.trans (hb6.mono H3.out.2.1.size), hF4⟩
    cases full with
    | true =>
      have hz : z = 10 := HS.out.2.2.2.2.1
      have hl0 : ln = 0 := by rw [← HLN.out]; exact HS.out.2.2.1 rfl
      subst hz hl0
      have HFU : Hid (∀ V, Calls Tryz.prog 11 #[] V fun e w' => e = .returned (ints3 10 0 0) ∧ Below V.heap.size V w') := full_any
      have HF5 : Hid (∀ V, Below w4.drew.heap.size w4.drew V → Below w.heap.size w V ∧ V.cell? ⟨w2.heap.size, 0, none⟩ = some (.int .i64 10) ∧ V.cell? ⟨w2.heap.size, 1, none⟩ = some (.int .i64 0) ∧ V.cell? ⟨w2.heap.size, 2, none⟩ = some (.int .i64 0)) := fun V hV => by
        have hb : Below w4.heap.size w4 V := (Below.refl _ _).drew.trans hV
        have e := (hb.block _ (box_lt H4.out.2)).trans H4.out.2
        exact ⟨H4.out.1.trans (hb.mono H4.out.1.size), box_cell e rfl, box_cell e rfl, box_cell e rfl⟩
      clear ht2 hCL hb5 hb6 hF4 hb4 HMK H3 p0 p1 p2 p3 q0 q1 q2 q3 f0
      go_wp2_with fail
      go_region_held3 (fun w' => w'.cell? ⟨w2.heap.size, 0, none⟩ = some (.int .i64 10) ∧ w'.cell? ⟨w2.heap.size, 1, none⟩ = some (.int .i64 0) ∧ w'.cell? ⟨w2.heap.size, 2, none⟩ = some (.int .i64 0)) (refine ⟨?_, ?_, ?_⟩ <;> (repeat (first | assumption | refine cell_drw ?_ | refine cell_up ?_ _))) ((go_at_call 11; refine Calls.mono (HFU.out _) ?_; rintro e w5 ⟨rfl, hb5⟩; obtain ⟨hw5, j0, j1, j2⟩ := HF5.out w5 hb5; have HW5 := Hid.out (p := Hid _) hw5; clear hb5 hw5))
      all_goals go_wp2_with fail
      all_goals go_ret
      all_goals exact ⟨rfl, HW5.out⟩
    | false =>
      have hz : z = 0 := HS.out.2.2.2.2.1
      subst hz
      have HCL : Hid (Calls Tryz.prog 22 #[.pointer (some ⟨pb, 0, none⟩)] w4 fun e w2 => ∃ a2 cap2, e = .returned (.slice a2 ln cap2) ∧ CIn w2 a2 l ∧ ln ≤ 64000 ∧ Below w4.heap.size w4 w2) := by
        refine Calls.mono (hCL rfl w4 (Below.refl _ _)) ?_
        rintro e w2 ⟨a2, cap2, l2, he, h1, h2, h3, h4⟩
        obtain rfl : l = l2 := toldC_same (HS.out.2.2.2.2.2 rfl) h2
        rw [HLN.out] at he h3
        exact ⟨a2, cap2, he, h1, h3, h4⟩
      have HCI : Hid (CIn w4 a l) := H3.out.2.2.below hb6
      clear ht2 hCL hb5 hb6 hF4 hb4 HMK H3 HS p0 p1 p2 p3 q0 q1 q2 q3 f0
      go_wp2_with fail
      refine Calls.mono HCL.out ?_
      rintro e w5 ⟨a2, cap2, rfl, h1, hln, hb5⟩
      have HC2 : Hid (CIn w5 a l ∧ CIn w5 a2 l) := ⟨HCI.out.below hb5, h1⟩
      have j0 := (hb5.cell (lt_of_cell g0)).trans g0
      have HW5 : Hid (Below w.heap.size w w5) := H4.out.1.trans (hb5.mono H4.out.1.size)
      clear HCL hb5 g0 g1 g2 c5 h1 HCI H4
      go_wp2_with fail
      go_loopw [8] (fun i wr => ∃ k : Nat, k ≤ ln ∧ i = .int .i64 k ∧ Below w5.heap.size w5 wr) (fun i _ => ln - (intOf i).toNat)
      case atStart => exact ⟨0, Nat.zero_le _, rfl, Below.refl _ _⟩
      case round =>
        obtain ⟨k, hk, rfl, hbr⟩ := hrel
        by_cases hlt : k < ln
        · obtain ⟨bb, oo, x0, x1, x2, x3, x4, rfl, hx, q0, q1, q2, q3, q4⟩ := (HC2.out.1.below hbr) k (by rw [HLN.out]; exact hlt)
          obtain ⟨b2, o2, y0, y1, y2, y3, y4, rfl, hy, r0, r1, r2, r3, r4⟩ := (HC2.out.2.below hbr) k (by rw [HLN.out]; exact hlt)
          rw [hx] at hy
          simp only [List.cons.injEq, and_true] at hy
          obtain ⟨rfl, rfl, rfl, rfl, rfl⟩ := hy
          have HBR := Hid.out (p := Hid _) hbr
          clear hx hbr
          go_wp2
          go_region
          all_goals go_wp2
          all_goals go_roundw
          case rel => exact ⟨k + 1, by omega, by go_num, HBR.out.drew⟩
          case measure => simp [intOf]; omega
        · obtain rfl : k = ln := by omega
          have HWR : Hid (Below w.heap.size w wr) := HW5.out.trans (hbr.mono HW5.out.size)
          clear hbr
          go_wp2
          go_ret
          exact ⟨rfl, HWR.out⟩
/-- The law of clashes. -/
theorem raceFinds_any (w : World) (ca : Option Addr) (n cc : Nat) (wa : Option Addr) (wc : Nat) (lk rg : Int) (words : List Int) (A : Nat → Option Addr) (L C : Nat → Nat) (X : Nat → Nat → Nat → Int) (hm : words.length ≤ 9223372036854775807) (hp : PIn w ca n A L C X) (hw : SIs w wa words) (hnil : wa = none → words = [] ∧ wc = 0) (hfit : ∀ t i, t < n → i < L t → I64n (X t i 2)) (hwf : ∀ x, x ∈ words → I64n x) (htab : TabB w.heap.size w) :
    Calls Tryz.prog 6 #[prgV ca n cc wa words.length wc lk rg] w fun e w' => e = .returned (.bool true) ∧ Below w.heap.size w w' := by
  obtain ⟨x, y, z, hR⟩ : ∃ x y z, chk n L X words.length lk rg = (x, y, z) := ⟨_, _, _, rfl⟩
  by_cases hx : x = 0
  · obtain ⟨rfl, rfl, hn0, lk', rg', rfl, rfl, hc⟩ := chk_cok hR hx
    subst hx
    exact raceFinds_yes w ca n cc wa wc lk' rg' words A L C X hR hp hc hn0 hw hnil hfit hwf htab
  · exact raceFinds_no w ca n cc wa words.length wc lk rg A L C X x y z hR (by simpa using hx) hm hp

end Go.Proofs.YtipdnfpomdcenabGreatDoor
