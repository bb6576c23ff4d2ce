/-
  The law of programs without clashes.
-/
import Derived.Test.YtipdnfpomdcenacGreatDoorFreeRootA
import Derived.Deep.RegionHeld3
namespace Go.Proofs.YtipdnfpomdcenacGreatDoor
open Go.RowKit

set_option maxRecDepth 100000 in
set_option maxHeartbeats 6400000 in
theorem raceFree_walk (w : World) (ca : Option Addr) (n cc : Nat) (wa : Option Addr) (m wc : Nat) (lk rg : Int) (L : Nat → Nat) (X : Nat → Nat → Nat → Int)
    (HV : Hid (∀ W, Below w.heap.size w W → Calls Tryz.prog 5 #[prgV ca n cc wa m wc lk rg] W fun e w' => ∃ b, e = .returned (.bool b) ∧ Below W.heap.size W w'))
    (HLIT : Hid (∀ V, Below w.heap.size w V → Calls Tryz.prog 6 #[.agg #[.slice (some ⟨V.heap.size + 1 + 1, 0, none⟩) 2 2, .slice (some ⟨V.heap.size + 1 + 1 + 1, 0, none⟩) 1 1, .int .i64 0, .int .i64 1]] ((((V.alloc (.cells #[.int .i64 9, .int .i64 0, .int .i64 0, .int .i64 0] 34)).alloc (.cells #[.int .i64 8, .int .i64 0, .int .i64 0, .int .i64 0] 34)).alloc (.cells #[.slice (some ⟨V.heap.size, 0, none⟩) 1 1, .slice (some ⟨V.heap.size + 1, 0, none⟩) 1 1] 35)).alloc (.cells #[.int .i64 0] 3)) fun e w' => ∃ a cap, e = .returned (.tuple #[.slice a 1 cap, ints3 0 0 0]) ∧ Below V.heap.size V w'))
    (HFP : Hid (∀ W, Below w.heap.size w W → Calls Tryz.prog 6 #[prgV ca n cc wa m wc lk rg] W fun e w' => ∃ (a : Option Addr) (k cap : Nat) (x y z : Int), e = .returned (.tuple #[.slice a k cap, ints3 x y z]) ∧ Hid ((x = 0 → k = 0 → ∃ s0, FreeQ w (prgV ca n cc wa m wc lk rg) L X s0) ∧ Below W.heap.size W w'))) :
    Calls Tryz.prog 3 #[prgV ca n cc wa m wc lk rg] w fun e w' => e = .returned (.bool true) ∧ Below w.heap.size w w' := by
  obtain ⟨PB, hPB⟩ : ∃ o : Obj, o = .cells #[.slice ca n cc, .slice wa m wc, .int .i64 lk, .int .i64 rg] 25 := ⟨_, rfl⟩
  have hb0 : Below w.heap.size w (w.alloc PB) := (Below.refl _ _).alloc (Nat.le_refl _) _
  have hp0 : (w.alloc PB).heap[w.heap.size]? = some PB := heap_alloc_new _ _
  have HAT : Hid (∀ V, Below (w.alloc PB).heap.size (w.alloc PB) V → Below w.heap.size w V ∧ V.cell? ⟨w.heap.size, 0, none⟩ = some (.slice ca n cc) ∧ V.cell? ⟨w.heap.size, 1, none⟩ = some (.slice wa m wc) ∧ V.cell? ⟨w.heap.size, 2, none⟩ = some (.int .i64 lk) ∧ V.cell? ⟨w.heap.size, 3, none⟩ = some (.int .i64 rg)) := fun V hb => by
    have e1 := (hb.block w.heap.size (by simp)).trans hp0
    rw [hPB] at e1
    exact ⟨hb0.trans (hb.mono hb0.size), box_cell e1 rfl, box_cell e1 rfl, box_cell e1 rfl, box_cell e1 rfl⟩
  obtain ⟨W0, hW0⟩ : ∃ V, w.alloc PB = V := ⟨_, rfl⟩
  have HW0 : Hid (w.alloc (.cells #[.slice ca n cc, .slice wa m wc, .int .i64 lk, .int .i64 rg] 25) = W0) := by rw [← hW0, hPB]; exact rfl
  have HB0 : Hid (Below w.heap.size w W0) := by rw [← hW0]; exact hb0
  rw [hW0] at HAT
  clear hPB hb0 hp0 hW0
  go_enter Tryz.func3, Tryz.ntmps3
  go_wp2_with fail
  rw [HW0.out]
  refine Calls.mono (HV.out _ HB0.out) ?_
  rintro e w1 ⟨b, rfl, hb1⟩
  obtain ⟨hw1, p0, p1, p2, p3⟩ := HAT.out w1 hb1
  have H1 := Hid.out (p := Hid _) (And.intro hb1 hw1)
  clear HV HW0 hb1 hw1
  cases b with
  | true =>
    go_wp2_with fail
    go_ret
    exact ⟨rfl, H1.out.2⟩
  | false =>
    go_wp2_with fail
    have h2 := HLIT.out w1 H1.out.2
    refine Calls.mono h2 ?_
    rintro e w2 ⟨a1, c1, rfl, hb2⟩
    have hb02 : Below W0.heap.size W0 w2 := H1.out.1.trans (hb2.mono H1.out.1.size)
    clear p0 p1 p2 p3 h2 HLIT
    obtain ⟨hw2, p0, p1, p2, p3⟩ := HAT.out w2 hb02
    have H2 : Hid (Below W0.heap.size W0 w2 ∧ Below w.heap.size w w2) := ⟨hb02, hw2⟩
    have q0 := cell_up p0
    have q1 := cell_up p1
    have q2 := cell_up p2
    have q3 := cell_up p3
    clear hb02 hw2 hb2 H1
    go_wp2_with fail
    have hbf : Below w.heap.size w (w2.alloc (.cells #[.int .i64 0, .int .i64 0, .int .i64 0] 30)) := H2.out.2.alloc H2.out.2.size _
    have h3 := HFP.out _ hbf
    refine Calls.mono h3 ?_
    rintro e w3 ⟨a2, k, c2, x, y, z, rfl, HF⟩
    have hF : w3.heap[w2.heap.size]? = some (.cells #[.int .i64 0, .int .i64 0, .int .i64 0] 30) := (HF.out.2.block _ (by simp)).trans (heap_alloc_new _ _)
    have hz3 : w2.heap.size < w3.heap.size := box_lt hF
    have hz2 : w.heap.size < w2.heap.size := by have := H2.out.1.size; have := lt_of_cell p0; have h : w.heap.size < w2.heap.size := this; exact h
    have f0 : w3.cell? ⟨w2.heap.size, 0, none⟩ = some (.int .i64 0) := box_cell hF rfl
    have f1 : w3.cell? ⟨w2.heap.size, 1, none⟩ = some (.int .i64 0) := box_cell hF rfl
    have f2 : w3.cell? ⟨w2.heap.size, 2, none⟩ = some (.int .i64 0) := box_cell hF rfl
    have ff : ∀ i, w3.frozen? ⟨w2.heap.size, i, none⟩ = false := fun i => box_free hF
    have H3 : Hid (∀ x y z, Below w.heap.size w (((w3.setCell ⟨w2.heap.size, 0, none⟩ x).setCell ⟨w2.heap.size, 1, none⟩ y).setCell ⟨w2.heap.size, 2, none⟩ z)) := fun x y z => by
      have hb : Below w.heap.size w w3 := hbf.trans (HF.out.2.mono hbf.size)
      exact ((hb.setCell (Nat.le_of_lt hz2) _).setCell (Nat.le_of_lt hz2) _).setCell (Nat.le_of_lt hz2) _
    have H3p : Hid (∀ x y z, Below W0.heap.size W0 (((w3.setCell ⟨w2.heap.size, 0, none⟩ x).setCell ⟨w2.heap.size, 1, none⟩ y).setCell ⟨w2.heap.size, 2, none⟩ z)) := fun x y z => by
      have hb : Below W0.heap.size W0 w3 := (H2.out.1.alloc H2.out.1.size _).trans (HF.out.2.mono (by have := H2.out.1.size; simp; omega))
      have hs := H2.out.1.size
      exact ((hb.setCell hs _).setCell hs _).setCell hs _
    have hn : w.heap.size ≠ w2.heap.size := by omega
    obtain ⟨_, p0', p1', p2', p3'⟩ := HAT.out w3 ((H2.out.1.alloc H2.out.1.size _).trans (HF.out.2.mono (by have := H2.out.1.size; simp; omega)))
    have HFR : Hid (x = 0 → k = 0 → ∃ s0, FreeQ w (prgV ca n cc wa m wc lk rg) L X s0) := HF.out.1
    clear h3 hbf hF HF p0 p1 p2 p3 q0 q1 q2 q3 HFP
    have p0 := p0'
    have p1 := p1'
    have p2 := p2'
    have p3 := p3'
    clear p0' p1' p2' p3'
    by_cases hx : x = 0
    · subst hx
      by_cases hk : k = 0
      · subst hk
        obtain ⟨s0, HQ⟩ := HFR.out rfl rfl
        have HMK : Hid (∀ V (b : Bool), Below w.heap.size w V → Calls Tryz.prog 7 #[.agg #[.slice ca n cc, .slice wa m wc, .int .i64 lk, .int .i64 rg], .bool b] V (MakeQ V L X (if b then 1 else 0) s0)) := HQ.1
        have HSA := Hid.out (p := Hid _) HQ.2
        clear HQ HFR
        go_wp2_with fail
        refine Calls.mono (HMK.out _ false (H3.out _ _ _)) ?_
        rintro e w4 ⟨pa, fa, ea, ec, la, rfl, ta, c4a, c5a, oa, da, hb4⟩
        have hb04 : Below W0.heap.size W0 w4 := (H3p.out _ _ _).trans (hb4.mono (H3p.out _ _ _).size)
        clear p0 p1 p2 p3
        obtain ⟨hw4, p0, p1, p2, p3⟩ := HAT.out w4 hb04
        have HA : Hid (Told (nxX L X 0) (outsX L X 0) s0 4000 fa la ∧ OsIn w4 ea la ∧ OBd la ∧ Below w.heap.size w w4) := ⟨ta, oa, da, hw4⟩
        obtain ⟨na, hna⟩ : ∃ k, la.length = k := ⟨_, rfl⟩
        have HNA : Hid (la.length = na) := hna
        rw [hna] at c4a
        clear ta oa da hb4 hb04 hw4 hna H3 H3p f0 f1 f2 ff
        go_wp2_with fail
        refine Calls.mono (HMK.out _ true HA.out.2.2.2) ?_
        rintro e w5 ⟨pb, fb, eb, ec2, lb, rfl, tb, c4b, c5b, ob, db, hb5⟩
        have d4a := (hb5.cell (lt_of_cell c4a)).trans c4a
        have d5a := (hb5.cell (lt_of_cell c5a)).trans c5a
        have HB : Hid (Told (nxX L X 1) (outsX L X 1) s0 4000 fb lb ∧ OsIn w5 eb lb ∧ OBd lb ∧ Below w.heap.size w w5 ∧ OsIn w5 ea la) := ⟨tb, ob, db, HA.out.2.2.2.trans (hb5.mono HA.out.2.2.2.size), HA.out.2.1.below hb5⟩
        clear tb ob db hb5 c4a c5a p0 p1 p2 p3 HMK
        cases fa with
        | true =>
          go_wp2_with fail
          go_region
          all_goals go_wp2
          all_goals go_ret
          all_goals exact ⟨rfl, HB.out.2.2.2.1.drew⟩
        | false =>
          cases fb with
          | true =>
            go_wp2_with fail
            go_region
            all_goals go_wp2
            all_goals go_ret
            all_goals exact ⟨rfl, HB.out.2.2.2.1.drew⟩
          | false =>
            obtain rfl : la = lb := HSA.out la lb HA.out.1 HB.out.1
            rw [HNA.out] at c4b
            have HSM : Hid (∀ V, Below w5.heap.size w5 V → Calls Tryz.prog 8 #[.slice ea na ec, .slice eb na ec2] V fun e w' => e = .returned (.bool true) ∧ Below V.heap.size V w') := fun V hV => by
              have h := rsame_any ea eb la la ec ec2 HA.out.2.2.1 HB.out.2.2.1 V (HB.out.2.2.2.2.below hV) (HB.out.2.1.below hV)
              rw [HNA.out, decide_eq_true rfl] at h
              exact h
            clear HSA
            have HC6 : Hid (∀ V, Below w5.heap.size w5 V → Below w.heap.size w V ∧ V.cell? ⟨pa, 4, none⟩ = some (.slice ea na ec) ∧ V.cell? ⟨pa, 5, none⟩ = some (.bool false) ∧ V.cell? ⟨pb, 4, none⟩ = some (.slice eb na ec2) ∧ V.cell? ⟨pb, 5, none⟩ = some (.bool false)) := fun V hV => ⟨HB.out.2.2.2.1.trans (hV.mono HB.out.2.2.2.1.size), (hV.cell (lt_of_cell d4a)).trans d4a, (hV.cell (lt_of_cell d5a)).trans d5a, (hV.cell (lt_of_cell c4b)).trans c4b, (hV.cell (lt_of_cell c5b)).trans c5b⟩
            go_wp2_with fail
            go_region_held3 (fun w' => w'.cell? ⟨pa, 4, none⟩ = some (.slice ea na ec) ∧ w'.cell? ⟨pa, 5, none⟩ = some (.bool false) ∧ w'.cell? ⟨pb, 4, none⟩ = some (.slice eb na ec2) ∧ w'.cell? ⟨pb, 5, none⟩ = some (.bool false)) (refine ⟨?_, ?_, ?_, ?_⟩ <;> (repeat (first | assumption | refine cell_drw ?_ | refine cell_up ?_ _))) ((go_at_call 8; refine Calls.mono (HSM.out _ (Below.refl _ _).drew) ?_; rintro e w6 ⟨rfl, hb6⟩; obtain ⟨hw6, j0, j1, j2, j3⟩ := HC6.out w6 ((Below.refl _ _).drew.trans hb6); have HW6 := Hid.out (p := Hid _) hw6; clear hb6 hw6))
            all_goals go_wp2
            all_goals go_ret
            all_goals exact ⟨rfl, HW6.out⟩
      · have hk' : (0 : Int) < (k : Int) := by omega
        go_wp2
        go_ret
        exact ⟨rfl, H3.out _ _ _⟩
    · have hx' : (x != 0) = true := by simpa using hx
      go_wp2
      go_ret
      exact ⟨rfl, H3.out _ _ _⟩

theorem raceFree_any (w : World) (ca : Option Addr) (n cc : Nat) (wa : Option Addr) (wc : Nat) (lk rg : Int) (words : List Int) (A : Nat → Option Addr) (L C : Nat → Nat) (X : Nat → Nat → Nat → Int) (hm : words.length ≤ 9223372036854775807) (hp : PIn w ca n A L C X) (hw : SIs w wa words) (hnil : wa = none → words = [] ∧ wc = 0) (hfit : ∀ t i, t < n → i < L t → I64n (X t i 2)) (hwf : ∀ x, x ∈ words → I64n x) (htab : TabB w.heap.size w) :
    Calls Tryz.prog 3 #[prgV ca n cc wa words.length wc lk rg] w fun e w' => e = .returned (.bool true) ∧ Below w.heap.size w w' := by
  have HV : Hid (∀ W, Below w.heap.size w W → Calls Tryz.prog 5 #[prgV ca n cc wa words.length wc lk rg] W fun e w' => ∃ b, e = .returned (.bool b) ∧ Below W.heap.size W w') := fun W hb => (vast_any ca n cc wa words.length wc lk rg A L C X hm W (hp.below hb)).mono fun e w' ⟨⟨b, h1⟩, h2⟩ => ⟨b, h1, h2⟩
  have HLIT : Hid (∀ V, Below w.heap.size w V → Calls Tryz.prog 6 #[.agg #[.slice (some ⟨V.heap.size + 1 + 1, 0, none⟩) 2 2, .slice (some ⟨V.heap.size + 1 + 1 + 1, 0, none⟩) 1 1, .int .i64 0, .int .i64 1]] ((((V.alloc (.cells #[.int .i64 9, .int .i64 0, .int .i64 0, .int .i64 0] 34)).alloc (.cells #[.int .i64 8, .int .i64 0, .int .i64 0, .int .i64 0] 34)).alloc (.cells #[.slice (some ⟨V.heap.size, 0, none⟩) 1 1, .slice (some ⟨V.heap.size + 1, 0, none⟩) 1 1] 35)).alloc (.cells #[.int .i64 0] 3)) fun e w' => ∃ a cap, e = .returned (.tuple #[.slice a 1 cap, ints3 0 0 0]) ∧ Below V.heap.size V w') := fun V hb => by
    have hl := lit_lay V
    obtain ⟨U, hU⟩ : ∃ U, U = ((((V.alloc (.cells #[.int .i64 9, .int .i64 0, .int .i64 0, .int .i64 0] 34)).alloc (.cells #[.int .i64 8, .int .i64 0, .int .i64 0, .int .i64 0] 34)).alloc (.cells #[.slice (some ⟨V.heap.size, 0, none⟩) 1 1, .slice (some ⟨V.heap.size + 1, 0, none⟩) 1 1] 35)).alloc (.cells #[.int .i64 0] 3)) := ⟨_, rfl⟩
    have hbU : Below V.heap.size V U := by rw [hU]; exact ((((Below.refl _ _).alloc (Nat.le_refl _) _).alloc (by simp) _).alloc (by simp; omega) _).alloc (by simp; omega) _
    rw [← hU] at hl ⊢
    refine Calls.mono (find_litAt U _ _ 2 1 hl (htab.up (hb.trans (hbU.mono hb.size)))) ?_
    rintro e w' ⟨a, cap, he, hb'⟩
    exact ⟨a, cap, he, hbU.trans (hb'.mono hbU.size)⟩
  have HFP : Hid (∀ W, Below w.heap.size w W → Calls Tryz.prog 6 #[prgV ca n cc wa words.length wc lk rg] W fun e w' => ∃ (a : Option Addr) (k cap : Nat) (x y z : Int), e = .returned (.tuple #[.slice a k cap, ints3 x y z]) ∧ Hid ((x = 0 → k = 0 → ∃ s0, FreeQ w (prgV ca n cc wa words.length wc lk rg) L X s0) ∧ Below W.heap.size W w')) := fun W hb => find_any w ca n cc wa wc lk rg words A L C X hp hw hnil hfit hwf htab W hb
  exact raceFree_walk w ca n cc wa words.length wc lk rg L X HV HLIT HFP

end Go.Proofs.YtipdnfpomdcenacGreatDoor
