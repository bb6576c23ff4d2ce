/-
  The law of fences that are taken away.
  The law of programs with a fence behind each store, for every program.
  The law of fences that are taken away, for every program.
-/
import Derived.Test.YtgofbkgfonlceacZMake
import Derived.Test.YtgofbkgfonlceacFDrop3
namespace Go.Proofs.Ytgofbkgfonlceac
section
open Go.RowKit

set_option maxRecDepth 100000 in
set_option maxHeartbeats 6400000 in
theorem fenceDrops_walk (w : World) (ca : Option Addr) (n cc : Nat) (wa : Option Addr) (m wc : Nat) (lk rg cx cy cz : Int) (L : Nat → Nat) (X : Nat → Nat → Nat → Int) (s0 : Sx)
    (HV : Hid (∀ W, Below w.heap.size w W → Calls Try.prog 6 #[prgV ca n cc wa m wc lk rg] W fun e w' => ∃ b, e = .returned (.bool b) ∧ Below W.heap.size W w'))
    (HFL : Hid (∀ W, Below w.heap.size w W → Calls Try.prog 8 #[prgV ca n cc wa m wc lk rg] W fun e w' => ∃ (va : Option Addr) (vn vc : Nat) (ua : Option Addr) (un uc : Nat) (ql qr fx fy fz : Int), e = .returned (.tuple #[.agg #[.slice va vn vc, .slice ua un uc, .int .i64 ql, .int .i64 qr], ints3 fx fy fz]) ∧ Hid (Below W.heap.size W w' ∧ ((cx ≠ 0 ∧ fx = cx ∧ fy = cy ∧ fz = cz) ∨ (cx = 0 ∧ fx = 0 ∧ ∃ (L' : Nat → Nat) (X' : Nat → Nat → Nat → Int), SameQ w' (prgV ca n cc wa m wc lk rg) (.agg #[.slice va vn vc, .slice ua un uc, .int .i64 ql, .int .i64 qr]) true true L X L' X' s0)))))
    (HCK : Hid (∀ W, Below w.heap.size w W → Calls Try.prog 9 #[prgV ca n cc wa m wc lk rg] W fun e w' => e = .returned (ints3 cx cy cz) ∧ Below W.heap.size W w')) :
    Calls Try.prog 5 #[prgV ca n cc wa m wc lk rg] w fun e w' => e = .returned (.bool true) ∧ Below w.heap.size w w' := by
  obtain ⟨PB, hPB⟩ : ∃ o : Obj, o = .cells #[.slice ca n cc, .slice wa m wc, .int .i64 lk, .int .i64 rg] 25 := ⟨_, rfl⟩
  have hb0 : Below w.heap.size w (w.alloc PB) := (Below.refl _ _).alloc (Nat.le_refl _) _
  have hp0 : (w.alloc PB).heap[w.heap.size]? = some PB := heap_alloc_new _ _
  have HAT : Hid (∀ V, Below (w.alloc PB).heap.size (w.alloc PB) V → Below w.heap.size w V ∧ V.cell? ⟨w.heap.size, 0, none⟩ = some (.slice ca n cc) ∧ V.cell? ⟨w.heap.size, 1, none⟩ = some (.slice wa m wc) ∧ V.cell? ⟨w.heap.size, 2, none⟩ = some (.int .i64 lk) ∧ V.cell? ⟨w.heap.size, 3, none⟩ = some (.int .i64 rg)) := fun V hb => by
    have e1 := (hb.block w.heap.size (by simp)).trans hp0
    rw [hPB] at e1
    exact ⟨hb0.trans (hb.mono hb0.size), box_cell e1 rfl, box_cell e1 rfl, box_cell e1 rfl, box_cell e1 rfl⟩
  obtain ⟨W0, hW0⟩ : ∃ V, w.alloc PB = V := ⟨_, rfl⟩
  have HW0 : Hid (w.alloc (.cells #[.slice ca n cc, .slice wa m wc, .int .i64 lk, .int .i64 rg] 25) = W0) := by rw [← hW0, hPB]; exact rfl
  have HB0 : Hid (Below w.heap.size w W0) := by rw [← hW0]; exact hb0
  rw [hW0] at HAT
  clear hPB hb0 hp0 hW0
  go_enter Try.func5, Try.ntmps5
  go_wp2_with fail
  rw [HW0.out]
  refine Calls.mono (HV.out _ HB0.out) ?_
  rintro e w1 ⟨b, rfl, hb1⟩
  obtain ⟨hw1, p0, p1, p2, p3⟩ := HAT.out w1 hb1
  have H1 := Hid.out (p := Hid _) (And.intro hb1 hw1)
  clear HV HW0 hb1 hw1
  cases b with
  | true =>
    go_wp2_with fail
    go_ret
    exact ⟨rfl, H1.out.2⟩
  | false =>
    go_wp2_with fail
    refine Calls.mono (HFL.out _ H1.out.2) ?_
    rintro e w2 ⟨va, vn, vc, ua, un, uc, ql, qr, fx, fy, fz, rfl, H2'⟩
    have hb02 : Below W0.heap.size W0 w2 := H1.out.1.trans (H2'.out.1.mono H1.out.1.size)
    obtain ⟨QB, hQB⟩ : ∃ o : Obj, o = .cells #[.slice va vn vc, .slice ua un uc, .int .i64 ql, .int .i64 qr] 25 := ⟨_, rfl⟩
    obtain ⟨FB, hFB⟩ : ∃ o : Obj, o = .cells #[.int .i64 fx, .int .i64 fy, .int .i64 fz] 29 := ⟨_, rfl⟩
    obtain ⟨W2, hW2⟩ : ∃ V, (w2.alloc QB).alloc FB = V := ⟨_, rfl⟩
    have hb22 : Below w2.heap.size w2 W2 := by rw [← hW2]; exact ((Below.refl _ _).alloc (Nat.le_refl _) _).alloc (by simp) _
    have hQ2 : W2.heap[w2.heap.size]? = some QB := by rw [← hW2]; exact box_later (heap_alloc_new _ _) _
    have hF2 : W2.heap[w2.heap.size + 1]? = some FB := by rw [← hW2]; have := heap_alloc_new (w2.alloc QB) FB; simpa using this
    have HW2 : Hid ((w2.alloc (.cells #[.slice va vn vc, .slice ua un uc, .int .i64 ql, .int .i64 qr] 25)).alloc (.cells #[.int .i64 fx, .int .i64 fy, .int .i64 fz] 29) = W2) := by rw [← hW2, hQB, hFB]; exact rfl
    have HB2 : Hid (Below W0.heap.size W0 W2 ∧ Below w2.heap.size w2 W2) := ⟨hb02.trans (hb22.mono hb02.size), hb22⟩
    have HA2 : Hid (∀ V, Below W2.heap.size W2 V → (Below w.heap.size w V ∧ Below w2.heap.size w2 V) ∧ (V.cell? ⟨w.heap.size, 0, none⟩ = some (.slice ca n cc) ∧ V.cell? ⟨w.heap.size, 1, none⟩ = some (.slice wa m wc) ∧ V.cell? ⟨w.heap.size, 2, none⟩ = some (.int .i64 lk) ∧ V.cell? ⟨w.heap.size, 3, none⟩ = some (.int .i64 rg)) ∧ (V.cell? ⟨w2.heap.size, 0, none⟩ = some (.slice va vn vc) ∧ V.cell? ⟨w2.heap.size, 1, none⟩ = some (.slice ua un uc) ∧ V.cell? ⟨w2.heap.size, 2, none⟩ = some (.int .i64 ql) ∧ V.cell? ⟨w2.heap.size, 3, none⟩ = some (.int .i64 qr)) ∧ V.cell? ⟨w2.heap.size + 1, 0, none⟩ = some (.int .i64 fx) ∧ V.cell? ⟨w2.heap.size + 1, 1, none⟩ = some (.int .i64 fy) ∧ V.cell? ⟨w2.heap.size + 1, 2, none⟩ = some (.int .i64 fz)) := fun V hV => by
      have h0 := HAT.out V (HB2.out.1.trans (hV.mono HB2.out.1.size))
      have e1 := (hV.block _ (box_lt hQ2)).trans hQ2
      have e2 := (hV.block _ (box_lt hF2)).trans hF2
      rw [hQB] at e1
      rw [hFB] at e2
      exact ⟨⟨h0.1, hb22.trans (hV.mono hb22.size)⟩, h0.2, ⟨box_cell e1 rfl, box_cell e1 rfl, box_cell e1 rfl, box_cell e1 rfl⟩, box_cell e2 rfl, box_cell e2 rfl, box_cell e2 rfl⟩
    obtain ⟨⟨hw2, _⟩, _⟩ := HA2.out W2 (Below.refl _ _)
    have HW : Hid (Below w.heap.size w W2) := hw2
    obtain ⟨_, z0, z1, z2, z3⟩ := HAT.out w2 hb02
    have p0u := fun o o' => cell_up (cell_up z0 o) o'
    have p1u := fun o o' => cell_up (cell_up z1 o) o'
    have p2u := fun o o' => cell_up (cell_up z2 o) o'
    have p3u := fun o o' => cell_up (cell_up z3 o) o'
    clear hw2 hQB hFB hW2 hb22 hQ2 hF2 hb02 H1 HAT p0 p1 p2 p3 z0 z1 z2 z3 HFL
    go_wp2_with fail
    rw [HW2.out]
    refine Calls.mono (HCK.out _ HW.out) ?_
    rintro e w3 ⟨rfl, hb3⟩
    obtain ⟨hw3, ⟨p0, p1, p2, p3⟩, ⟨q0, q1, q2, q3⟩, f0, f1, f2⟩ := HA2.out w3 hb3
    have H3 : Hid ((Below w.heap.size w w3 ∧ Below w2.heap.size w2 w3) ∧ Below W2.heap.size W2 w3) := ⟨hw3, hb3⟩
    clear hw3 hb3 HCK HW2 HW p0u p1u p2u p3u
    rcases H2'.out.2 with ⟨hcx, rfl, rfl, rfl⟩ | ⟨rfl, rfl, L', X', hS⟩
    · have hcx' : (fx != 0) = true := by simpa using hcx
      have hcx2 : (fx == 0) = false := by simpa using hcx
      have g0 := cell_up f0
      have g1 := cell_up f1
      have g2 := cell_up f2
      go_wp2
      go_ret
      exact ⟨rfl, H3.out.1.1.alloc H3.out.1.1.size _⟩
    · have HSQ := Hid.out (p := Hid _) hS
      have g0 := cell_up f0
      have r0 := cell_up q0
      have r1 := cell_up q1
      have r2 := cell_up q2
      have r3 := cell_up q3
      obtain ⟨NB, hNB⟩ : ∃ o : Obj, o = .cells #[.int .i64 0, .int .i64 cy, .int .i64 cz] 29 := ⟨_, rfl⟩
      have hbN : Below W2.heap.size W2 (w3.alloc NB) := H3.out.2.alloc H3.out.2.size _
      obtain ⟨W3, hW3⟩ : ∃ V, w3.alloc NB = V := ⟨_, rfl⟩
      have HW3 : Hid (w3.alloc (.cells #[.int .i64 0, .int .i64 cy, .int .i64 cz] 29) = W3) := by rw [← hW3, hNB]; exact rfl
      rw [hW3] at hbN
      have HB3 : Hid (Below W2.heap.size W2 W3) := hbN
      clear hS hbN hW3 hNB H2' p0 p1 p2 p3
      go_wp2_with fail
      rw [HW3.out]
      refine Calls.mono (HSQ.out.chk _ (HA2.out _ HB3.out).1.2) ?_
      rintro e w4 ⟨rfl, hb4⟩
      have hb24 : Below W2.heap.size W2 w4 := HB3.out.trans (hb4.mono HB3.out.size)
      clear f0 f1 f2 g0 q0 q1 q2 q3 r0 r1 r2 r3 H3 HW3
      obtain ⟨hw4, ⟨p0, p1, p2, p3⟩, ⟨q0, q1, q2, q3⟩, f0, f1, f2⟩ := HA2.out w4 hb24
      have H4 : Hid ((Below w.heap.size w w4 ∧ Below w2.heap.size w2 w4) ∧ Below W2.heap.size W2 w4) := ⟨hw4, hb24⟩
      have x0 := cell_up p0
      have x1 := cell_up p1
      have x2 := cell_up p2
      have x3 := cell_up p3
      have g0 := cell_up f0
      clear hw4 hb24 hb4 HB3
      go_wp2_with fail
      have hbN4 : Below W2.heap.size W2 (w4.alloc (.cells #[.int .i64 0, .int .i64 0, .int .i64 0] 29)) := H4.out.2.alloc H4.out.2.size _
      have h5 := HSQ.out.old _ (HA2.out _ hbN4).1.2
      refine Calls.mono h5 ?_
      rintro e w5 ⟨pa, fa, ea, ec, la, rfl, ta, c4a, c5a, oa, da, hb5⟩
      have hb25 : Below W2.heap.size W2 w5 := hbN4.trans (hb5.mono hbN4.size)
      clear f0 f1 f2 g0 q0 q1 q2 q3 p0 p1 p2 p3 x0 x1 x2 x3 H4 h5 hbN4
      obtain ⟨hw5, _, ⟨q0, q1, q2, q3⟩, _⟩ := HA2.out w5 hb25
      have HA : Hid (Told (nxX L X 1) (outsX L X 1) s0 4000 fa la ∧ OsIn w5 ea la ∧ OBd la ∧ Below W2.heap.size W2 w5) := ⟨ta, oa, da, hb25⟩
      obtain ⟨na, hna⟩ : ∃ k, la.length = k := ⟨_, rfl⟩
      have HNA : Hid (la.length = na) := hna
      rw [hna] at c4a
      have HW5 : Hid (Below w2.heap.size w2 w5) := hw5.2
      clear ta oa da hb5 hb25 hw5 hna
      go_wp2_with fail
      refine Calls.mono (HSQ.out.new _ HW5.out) ?_
      rintro e w6 ⟨pb, fb, eb, ec2, lb, rfl, tb, c4b, c5b, ob, db, hb6⟩
      have d4a := (hb6.cell (lt_of_cell c4a)).trans c4a
      have d5a := (hb6.cell (lt_of_cell c5a)).trans c5a
      have hb26 : Below W2.heap.size W2 w6 := HA.out.2.2.2.trans (hb6.mono HA.out.2.2.2.size)
      have HB : Hid (Told (nxX L' X' 1) (outsX L' X' 1) s0 4000 fb lb ∧ OsIn w6 eb lb ∧ OBd lb ∧ Below w.heap.size w w6 ∧ OsIn w6 ea la) := ⟨tb, ob, db, (HA2.out _ hb26).1.1, HA.out.2.1.below hb6⟩
      clear tb ob db hb6 c4a c5a q0 q1 q2 q3 hb26 HA2
      cases fa with
      | true =>
        go_wp2_with fail
        go_region
        all_goals go_wp2
        all_goals go_ret
        all_goals exact ⟨rfl, HB.out.2.2.2.1.drew⟩
      | false =>
        cases fb with
        | true =>
          go_wp2_with fail
          go_region
          all_goals go_wp2
          all_goals go_ret
          all_goals exact ⟨rfl, HB.out.2.2.2.1.drew⟩
        | false =>
          obtain rfl : la = lb := HSQ.out.same la lb HA.out.1 HB.out.1
          rw [HNA.out] at c4b
          have HSM : Hid (∀ V, Below w6.heap.size w6 V → Calls Try.prog 17 #[.slice ea na ec, .slice eb na ec2] V fun e w' => e = .returned (.bool true) ∧ Below V.heap.size V w') := fun V hV => by
            have h := rsame_any ea eb la la ec ec2 HA.out.2.2.1 HB.out.2.2.1 V (HB.out.2.2.2.2.below hV) (HB.out.2.1.below hV)
            rw [HNA.out, decide_eq_true rfl] at h
            exact h
          clear HSQ
          have HC6 : Hid (∀ V, Below w6.heap.size w6 V → Below w.heap.size w V ∧ V.cell? ⟨pa, 4, none⟩ = some (.slice ea na ec) ∧ V.cell? ⟨pa, 5, none⟩ = some (.bool false) ∧ V.cell? ⟨pb, 4, none⟩ = some (.slice eb na ec2) ∧ V.cell? ⟨pb, 5, none⟩ = some (.bool false)) := fun V hV => ⟨HB.out.2.2.2.1.trans (hV.mono HB.out.2.2.2.1.size), (hV.cell (lt_of_cell d4a)).trans d4a, (hV.cell (lt_of_cell d5a)).trans d5a, (hV.cell (lt_of_cell c4b)).trans c4b, (hV.cell (lt_of_cell c5b)).trans c5b⟩
          go_wp2_with fail
          go_region_held3 (fun w' => w'.cell? ⟨pa, 4, none⟩ = some (.slice ea na ec) ∧ w'.cell? ⟨pa, 5, none⟩ = some (.bool false) ∧ w'.cell? ⟨pb, 4, none⟩ = some (.slice eb na ec2) ∧ w'.cell? ⟨pb, 5, none⟩ = some (.bool false)) (refine ⟨?_, ?_, ?_, ?_⟩ <;> (repeat (first | (with_reducible assumption) | (with_reducible refine cell_drw ?_) | (with_reducible refine cell_up ?_ _)))) ((go_at_call 17; refine Calls.mono (HSM.out _ (Below.refl _ _).drew) ?_; rintro e w7 ⟨rfl, hb7⟩; obtain ⟨hw7, j0, j1, j2, j3⟩ := HC6.out w7 ((Below.refl _ _).drew.trans hb7); have HW7 := Hid.out (p := Hid _) hw7; clear hb7 hw7))
          all_goals go_wp2
          all_goals go_ret
          all_goals exact ⟨rfl, HW7.out⟩
end

section
open Go.RowKit

theorem sis_own {w : World} {B : Nat} {a : Option Addr} {c : Nat} {l : List Int} (h : w.ownsRow B 3 1 (.slice a l.length c) l.length (intsV l)) : SIs w a l := fun k hk => by
  obtain ⟨g, cap, e, hg, _⟩ := fam_block h (by omega)
  simp only [Value.slice.injEq] at e
  refine ⟨g, 0, e.1, ?_⟩
  rw [Nat.zero_add]
  exact fam_cell h hg (intsV_at hk)
/-- What is known of a program that was made anew, where it may be. -/
theorem new_same {w W U : World} {ca : Option Addr} {n cc : Nat} {wa : Option Addr} {wc lk rg : Nat} {words : List Int} {A : Nat → Option Addr} {L C : Nat → Nat} {X : Nat → Nat → Nat → Int} {b : Nat → Nat → List I4} {va : Option Addr} {vc : Nat} {ua : Option Addr} {uc : Nat} (me md : Bool) (hn0 : 0 < n) (hp : PIn w ca n A L C X) (hw : SIs w wa words) (hc : COk n L X words.length lk rg) (hbU : Below w.heap.size w U)
    (hb : ∀ t i, t < n → i < L t → ∀ x, x ∈ b t i → x = ordAt X t i ∨ x = fenceI) (hl : ∀ t, t < n → lenR b L t ≤ 400) (hN : NewQ W n words lk rg b L (.returned (.agg #[.slice va n vc, .slice ua words.length uc, .int .i64 lk, .int .i64 rg])) U)
    (hs : ∀ x y, Told (nxX L X (if me then 1 else 0)) (outsX L X (if me then 1 else 0)) (beginX n words lk rg) 4000 false x → Told (nxX (lenR b L) (numR b L) (if md then 1 else 0)) (outsX (lenR b L) (numR b L) (if md then 1 else 0)) (beginX n words lk rg) 4000 false y → x = y) :
    SameQ U (prgV ca n cc wa words.length wc lk rg) (.agg #[.slice va n vc, .slice ua words.length uc, .int .i64 lk, .int .i64 rg]) me md L X (lenR b L) (numR b L) (beginX n words lk rg) := by
  have hcq := new_cok hc b hb hl
  have hop : ∀ V, Below U.heap.size U V → (∃ A' C', PIn V va n A' (lenR b L) C' (numR b L)) ∧ SIs V ua words := fun V hV => by
    obtain ⟨va', vc', ua', uc', tv, he, h1, h2, h3, _⟩ := hN.below hV
    simp only [Ending.returned.injEq, Value.agg.injEq, Array.mk.injEq, List.cons.injEq, Value.slice.injEq, true_and, and_true] at he
    obtain ⟨⟨rfl, rfl⟩, rfl, rfl⟩ := he
    obtain ⟨ca', cc', A', C', e1, hpin⟩ := new_pin h1 h2 (by have := hc.n4; omega) (fun t ht => by have := hl t ht; omega)
    simp only [Value.slice.injEq, true_and] at e1
    obtain ⟨rfl, rfl⟩ := e1
    exact ⟨⟨A', C', hpin⟩, sis_own h3⟩
  refine ⟨fun V hV => ?_, fun V hV => ?_, fun V hV => ?_, hs⟩
  · obtain ⟨⟨A', C', hpin⟩, _⟩ := hop V hV
    have hk : chk n (lenR b L) (numR b L) words.length lk rg = (0, 0, 0) := by
      rw [new_chk hc hn0 b hb]
      exact long_none n 0 (fun i _ hi => hl i (by omega))
    exact rcheck_any va n vc ua words.length uc lk rg A' (lenR b L) C' (numR b L) 0 0 0 hk V hpin
  · have hV0 := hbU.trans (hV.mono hbU.size)
    exact make_any V me ca n cc wa wc lk rg words A L C X (hw.below hV0) hn0 hc (hp.below hV0)
  · obtain ⟨⟨A', C', hpin⟩, hsi⟩ := hop V hV
    exact make_any V md va n vc ua uc lk rg words A' (lenR b L) C' (numR b L) hsi hn0 hcq hpin
end

section
open Go.RowKit

theorem fenceDrops_any (w : World) (ca : Option Addr) (n cc : Nat) (wa : Option Addr) (wc : Nat) (lk rg : Int) (words : List Int) (A : Nat → Option Addr) (L C : Nat → Nat) (X : Nat → Nat → Nat → Int) (hm : words.length ≤ 9223372036854775807) (hp : PIn w ca n A L C X) (hw : SIs w wa words) (hnil : wa = none → words = [] ∧ wc = 0) :
    Calls Try.prog 5 #[prgV ca n cc wa words.length wc lk rg] w fun e w' => e = .returned (.bool true) ∧ Below w.heap.size w w' := by
  have HV : Hid (∀ W, Below w.heap.size w W → Calls Try.prog 6 #[prgV ca n cc wa words.length wc lk rg] W fun e w' => ∃ b, e = .returned (.bool b) ∧ Below W.heap.size W w') := fun W hb => (vast_any ca n cc wa words.length wc lk rg A L C X hm W (hp.below hb)).mono fun e w' ⟨⟨b, h1⟩, h2⟩ => ⟨b, h1, h2⟩
  obtain ⟨x, y, z, hR⟩ : ∃ x y z, chk n L X words.length lk rg = (x, y, z) := ⟨_, _, _, rfl⟩
  have HCK : Hid (∀ W, Below w.heap.size w W → Calls Try.prog 9 #[prgV ca n cc wa words.length wc lk rg] W fun e w' => e = .returned (ints3 x y z) ∧ Below W.heap.size W w') := fun W hb => rcheck_any ca n cc wa words.length wc lk rg A L C X x y z hR W (hp.below hb)
  by_cases hx : x = 0
  · obtain ⟨rfl, rfl, hn0, lk', rg', rfl, rfl, hc⟩ := chk_cok hR hx
    subst hx
    refine fenceDrops_walk w ca n cc wa words.length wc lk' rg' 0 0 0 L X (beginX n words lk' rg') HV (fun W hb => ?_) HCK
    refine Calls.mono (drop_may W ca n cc wa words wc lk' rg' A L C X (hp.below hb) (hw.below hb) hnil hR hc) ?_
    rintro e w' ⟨B, va, vc, ua, uc, rfl, HQ, hbw⟩
    refine ⟨va, n, vc, ua, words.length, uc, lk', rg', 0, 0, 0, rfl, hbw, Or.inr ⟨rfl, rfl, lenR (bLess (dropD B X) X) L, numR (bLess (dropD B X) X) L, ?_⟩⟩
    have hD : ∀ t i, t < n → i < L t → dropD B X t i = true → X t i 0 = 12 ∧ ¬ Way (L t) (X t) i true := fun t i ht hi h => by
      unfold dropD at h
      simp only [Bool.and_eq_true, decide_eq_true_eq, Bool.not_eq_true'] at h
      refine ⟨h.1, fun hw' => ?_⟩
      have := (HQ.out.1 t i ht hi).2 hw'
      rw [h.2] at this
      cases this
    exact new_same true true hn0 hp hw hc (hb.trans (hbw.mono hb.size)) (fun t i _ _ x hx => bLess_in _ X t i x hx) (fun t ht => Nat.le_trans (less_len _ X L t) (hc.L4 t ht)) (HQ.out.2 w' (Below.refl _ _)) (fun a b ha hb' => drop_same (mode := 1) (by decide) hD hc ha hb')
  · refine fenceDrops_walk w ca n cc wa words.length wc lk rg x y z L X (beginX n words lk rg) HV (fun W hb => ?_) HCK
    refine Calls.mono (drop_no W ca n cc wa words.length wc lk rg x y z A L C X (hp.below hb) hR hx) ?_
    rintro e w' ⟨rfl, hbw⟩
    exact ⟨none, 0, 0, none, 0, 0, 0, 0, x, y, z, rfl, hbw, Or.inl ⟨hx, rfl, rfl, rfl⟩⟩
end

end Go.Proofs.Ytgofbkgfonlceac
