/-
  The law of programs with less to do: the walk.
-/
import Derived.Test.YtkailbdjilkneaaDoorFenN
import Derived.Test.YtkailbdjilkneaaDoorInProg
import Derived.Test.YtkailbdjilkneaaDoorIntsS
import Derived.Test.YtkailbdjilkneaaDoorOptE
import Derived.Test.YtkailbdjilkneaaDoorCOkP
import Derived.Test.YtkailbdjilkneaaDoorNewC
import Derived.Test.YtkailbdjilkneaaDoorLivC
namespace Go.Proofs.YtkailbdjilkneaaDoor
open Go.RowKit

/-- What the program's call tells: the fault; of the program that was made, in any later memory, that it is none, or what is known of it. -/
def OptR (W : World) (x y z : Int) (M : World → Value → Prop) (e : Ending) (w' : World) : Prop :=
  ∃ va vn vc ua un uc ql qr, e = .returned (.tuple #[.agg #[.slice va vn vc, .slice ua un uc, .int .i64 ql, .int .i64 qr], ints3 x y z]) ∧ Hid (Below W.heap.size W w' ∧ ∀ V, Below w'.heap.size w' V → (x ≠ 0 → Calls Tryd.prog 13 #[.agg #[.slice va vn vc, .slice ua un uc, .int .i64 ql, .int .i64 qr]] V fun e w'' => e = .returned (.bool true) ∧ Below V.heap.size V w'') ∧ (x = 0 → M V (.agg #[.slice va vn vc, .slice ua un uc, .int .i64 ql, .int .i64 qr])))
/-- What the document's call tells. -/
def OptD (W : World) (M : World → Value → Prop) (e : Ending) (w' : World) : Prop :=
  ∃ va vn vc ua un uc ql qr, e = .returned (.agg #[.slice va vn vc, .slice ua un uc, .int .i64 ql, .int .i64 qr]) ∧ Hid (Below W.heap.size W w' ∧ ∀ V, Below w'.heap.size w' V → M V (.agg #[.slice va vn vc, .slice ua un uc, .int .i64 ql, .int .i64 qr]))
theorem two_at (W : World) (O P : Obj) : Below W.heap.size W ((W.alloc O).alloc P) ∧ ((W.alloc O).alloc P).heap[W.heap.size]? = some O ∧ ((W.alloc O).alloc P).heap[W.heap.size + 1]? = some P := by
  refine ⟨below_two _ _ _, box_later (heap_alloc_new _ _) _, ?_⟩
  have := heap_alloc_new (W.alloc O) P
  rwa [World.size_alloc] at this
theorem blk {W V : World} {g : Nat} {o : Obj} (hb : Below W.heap.size W V) (h : W.heap[g]? = some o) : V.heap[g]? = some o := (hb.block _ (Array.getElem?_eq_some_iff.1 h).1).trans h

set_option maxRecDepth 100000 in
set_option maxHeartbeats 6400000 in
theorem optMakes_walk (w : World) (ca : Option Addr) (n cc : Nat) (wa : Option Addr) (m wc : Nat) (lk rg x y z : Int) (MC MD : World → Value → Prop)
    (HV : Hid (∀ W, Below w.heap.size w W → Calls Tryd.prog 9 #[prgV ca n cc wa m wc lk rg] W fun e w' => ∃ b, e = .returned (.bool b) ∧ Below W.heap.size W w'))
    (HC : Hid (∀ W, Below w.heap.size w W → Calls Tryd.prog 10 #[prgV ca n cc wa m wc lk rg] W (OptR W x y z MC)))
    (HD : Hid (∀ W, Below w.heap.size w W → Calls Tryd.prog 11 #[prgV ca n cc wa m wc lk rg] W (OptR W x y z MD)))
    (HCK : Hid (∀ W, Below w.heap.size w W → Calls Tryd.prog 12 #[prgV ca n cc wa m wc lk rg] W fun e w' => e = .returned (ints3 x y z) ∧ Below W.heap.size W w'))
    (HRC : Hid (x = 0 → ∀ W, Below w.heap.size w W → Calls Tryd.prog 14 #[prgV ca n cc wa m wc lk rg] W (OptD W MC)))
    (HRD : Hid (x = 0 → ∀ W, Below w.heap.size w W → Calls Tryd.prog 15 #[prgV ca n cc wa m wc lk rg] W (OptD W MD)))
    (HSC : Hid (∀ V Q R, MC V Q → MC V R → Calls Tryd.prog 16 #[Q, R] V fun e w'' => e = .returned (.bool true) ∧ Below V.heap.size V w''))
    (HSD : Hid (∀ V Q R, MD V Q → MD V R → Calls Tryd.prog 16 #[Q, R] V fun e w'' => e = .returned (.bool true) ∧ Below V.heap.size V w'')) :
    Calls Tryd.prog 3 #[prgV ca n cc wa m wc lk rg] w fun e w' => e = .returned (.bool true) ∧ Below w.heap.size w w' := by
  have hb0 : Below w.heap.size w (w.alloc (.cells #[.slice ca n cc, .slice wa m wc, .int .i64 lk, .int .i64 rg] 25)) := below_one _ _
  have hp0 := heap_alloc_new w (.cells #[.slice ca n cc, .slice wa m wc, .int .i64 lk, .int .i64 rg] 25)
  obtain ⟨W0, hW0⟩ : ∃ V, w.alloc (.cells #[.slice ca n cc, .slice wa m wc, .int .i64 lk, .int .i64 rg] 25) = V := ⟨_, rfl⟩
  have HW0 := Hid.out (p := Hid _) hW0
  rw [hW0] at hb0 hp0
  have HB0 := Hid.out (p := Hid _) hb0
  have HAT : Hid (∀ V, Below W0.heap.size W0 V → Below w.heap.size w V ∧ V.heap[w.heap.size]? = some (.cells #[.slice ca n cc, .slice wa m wc, .int .i64 lk, .int .i64 rg] 25)) := fun V hb => ⟨hb0.trans (hb.mono hb0.size), blk hb hp0⟩
  clear hb0 hp0 hW0
  go_enter Tryd.func3, Tryd.ntmps3
  go_wp2_with fail
  rw [HW0.out]
  refine Calls.mono (HV.out _ HB0.out) ?_
  rintro e w1 ⟨b, rfl, hb1⟩
  obtain ⟨hw1, hp1⟩ := HAT.out w1 hb1
  have p0 := box_cell (i := 0) hp1 rfl
  have p1 := box_cell (i := 1) hp1 rfl
  have p2 := box_cell (i := 2) hp1 rfl
  have p3 := box_cell (i := 3) hp1 rfl
  have H1 := Hid.out (p := Hid _) (And.intro hb1 hw1)
  clear HV HW0 hb1 hw1 hp1 HB0
  cases b with
  | true =>
    go_wp2_with fail
    go_ret
    exact ⟨rfl, H1.out.2⟩
  | false =>
    go_wp2_with fail
    refine Calls.mono (HC.out _ H1.out.2) ?_
    rintro e w2 ⟨va, vn, vc, ua, un, uc, ql, qr, rfl, H2⟩
    clear HC p0 p1 p2 p3
    obtain ⟨hu, hq, hf⟩ := two_at w2 (.cells #[.slice va vn vc, .slice ua un uc, .int .i64 ql, .int .i64 qr] 25) (.cells #[.int .i64 x, .int .i64 y, .int .i64 z] 29)
    have hb02 : Below W0.heap.size W0 w2 := H1.out.1.trans (H2.out.1.mono H1.out.1.size)
    obtain ⟨W2, hW2⟩ : ∃ V, (w2.alloc (.cells #[.slice va vn vc, .slice ua un uc, .int .i64 ql, .int .i64 qr] 25)).alloc (.cells #[.int .i64 x, .int .i64 y, .int .i64 z] 29) = V := ⟨_, rfl⟩
    have HW2 := Hid.out (p := Hid _) hW2
    obtain ⟨hw2, hp2⟩ := HAT.out _ (hb02.trans (hu.mono hb02.size))
    have p0 := box_cell (i := 0) hp2 rfl
    have p1 := box_cell (i := 1) hp2 rfl
    have p2 := box_cell (i := 2) hp2 rfl
    have p3 := box_cell (i := 3) hp2 rfl
    rw [hW2] at hu hq hf hw2
    have HA2 : Hid (∀ V, Below W2.heap.size W2 V → Below w.heap.size w V ∧ V.heap[w.heap.size]? = some (.cells #[.slice ca n cc, .slice wa m wc, .int .i64 lk, .int .i64 rg] 25) ∧ Below w2.heap.size w2 V ∧ V.heap[w2.heap.size]? = some (.cells #[.slice va vn vc, .slice ua un uc, .int .i64 ql, .int .i64 qr] 25) ∧ V.heap[w2.heap.size + 1]? = some (.cells #[.int .i64 x, .int .i64 y, .int .i64 z] 29)) := fun V hV => by
      have h1 := hu.trans (hV.mono hu.size)
      obtain ⟨h2, h3⟩ := HAT.out V (hb02.trans (h1.mono hb02.size))
      exact ⟨h2, h3, h1, blk hV hq, blk hV hf⟩
    have HW2w := Hid.out (p := Hid _) hw2
    clear hu hq hf hb02 hW2 hp2 hw2 H1 HAT
    go_wp2_with fail
    rw [HW2.out]
    clear p0 p1 p2 p3 HW2
    refine Calls.mono (HD.out _ HW2w.out) ?_
    rintro e w3 ⟨ra, rn, rc, sa, sn, sc, rl, rr, rfl, H3⟩
    clear HD HW2w
    obtain ⟨hu, hq, hf⟩ := two_at w3 (.cells #[.slice ra rn rc, .slice sa sn sc, .int .i64 rl, .int .i64 rr] 25) (.cells #[.int .i64 x, .int .i64 y, .int .i64 z] 29)
    obtain ⟨W3, hW3⟩ : ∃ V, (w3.alloc (.cells #[.slice ra rn rc, .slice sa sn sc, .int .i64 rl, .int .i64 rr] 25)).alloc (.cells #[.int .i64 x, .int .i64 y, .int .i64 z] 29) = V := ⟨_, rfl⟩
    have HW3 := Hid.out (p := Hid _) hW3
    have hb23 := H3.out.1.trans (hu.mono H3.out.1.size)
    obtain ⟨hw3, hp3, -, -, -⟩ := HA2.out _ hb23
    have p0 := box_cell (i := 0) hp3 rfl
    have p1 := box_cell (i := 1) hp3 rfl
    have p2 := box_cell (i := 2) hp3 rfl
    have p3 := box_cell (i := 3) hp3 rfl
    rw [hW3] at hu hq hf hw3 hb23
    have HA3 : Hid (∀ V, Below W3.heap.size W3 V → Below W2.heap.size W2 V ∧ Below w3.heap.size w3 V ∧ V.heap[w3.heap.size]? = some (.cells #[.slice ra rn rc, .slice sa sn sc, .int .i64 rl, .int .i64 rr] 25) ∧ V.heap[w3.heap.size + 1]? = some (.cells #[.int .i64 x, .int .i64 y, .int .i64 z] 29)) := fun V hV => ⟨hb23.trans (hV.mono hb23.size), hu.trans (hV.mono hu.size), blk hV hq, blk hV hf⟩
    have HW3w := Hid.out (p := Hid _) hw3
    clear hu hq hf hb23 hW3 hp3 hw3
    go_wp2_with fail
    rw [HW3.out]
    clear p0 p1 p2 p3 HW3
    refine Calls.mono (HCK.out _ HW3w.out) ?_
    rintro e w4 ⟨rfl, hb4⟩
    clear HCK HW3w
    have hu : Below w4.heap.size w4 (w4.alloc (.cells #[.int .i64 x, .int .i64 y, .int .i64 z] 29)) := below_one _ _
    have hn := heap_alloc_new w4 (.cells #[.int .i64 x, .int .i64 y, .int .i64 z] 29)
    obtain ⟨W4, hW4⟩ : ∃ V, w4.alloc (.cells #[.int .i64 x, .int .i64 y, .int .i64 z] 29) = V := ⟨_, rfl⟩
    have HW4 := Hid.out (p := Hid _) hW4
    have hb34 := hb4.trans (hu.mono hb4.size)
    have HB34 : Hid (Below W3.heap.size W3 W4) := by rw [← hW4]; exact hb34
    obtain ⟨hb24, -, hq3, hf3⟩ := HA3.out _ hb34
    obtain ⟨-, hp, -, hq2, hf2⟩ := HA2.out _ hb24
    have n0 := box_cell (i := 0) hn rfl
    have n1 := box_cell (i := 1) hn rfl
    have n2 := box_cell (i := 2) hn rfl
    have f0 := box_cell (i := 0) hf2 rfl
    have f1 := box_cell (i := 1) hf2 rfl
    have f2 := box_cell (i := 2) hf2 rfl
    have g0 := box_cell (i := 0) hf3 rfl
    have g1 := box_cell (i := 1) hf3 rfl
    have g2 := box_cell (i := 2) hf3 rfl
    have p0 := box_cell (i := 0) hp rfl
    have p1 := box_cell (i := 1) hp rfl
    have p2 := box_cell (i := 2) hp rfl
    have p3 := box_cell (i := 3) hp rfl
    have q0 := box_cell (i := 0) hq2 rfl
    have q1 := box_cell (i := 1) hq2 rfl
    have q2 := box_cell (i := 2) hq2 rfl
    have q3 := box_cell (i := 3) hq2 rfl
    clear hu hn hb34 hb24 hq3 hf3 hp hq2 hf2 hb4 hW4
    by_cases hx : x = 0
    · subst hx
      have HRC' := Hid.out (p := Hid _) (HRC.out rfl)
      have HRD' := Hid.out (p := Hid _) (HRD.out rfl)
      clear HRC HRD
      go_wp2_with fail
      rw [HW4.out]
      clear n0 n1 n2 f0 f1 f2 g0 g1 g2 p0 p1 p2 p3 q0 q1 q2 q3 HW4
      obtain ⟨hw4, -, -, -, -⟩ := HA2.out _ (HA3.out _ HB34.out).1
      refine Calls.mono (HRC'.out _ hw4) ?_
      rintro e w5 ⟨va5, vn5, vc5, ua5, un5, uc5, ql5, qr5, rfl, H5⟩
      clear HRC' hw4
      have hb35 := HB34.out.trans (H5.out.1.mono HB34.out.size)
      have hu : Below w5.heap.size w5 (w5.alloc (.cells #[.slice va5 vn5 vc5, .slice ua5 un5 uc5, .int .i64 ql5, .int .i64 qr5] 25)) := below_one _ _
      have hn := heap_alloc_new w5 (.cells #[.slice va5 vn5 vc5, .slice ua5 un5 uc5, .int .i64 ql5, .int .i64 qr5] 25)
      have hb3u := hb35.trans (hu.mono hb35.size)
      obtain ⟨hw5, hp, -, -, -⟩ := HA2.out _ (HA3.out _ hb3u).1
      have p0 := box_cell (i := 0) hp rfl
      have p1 := box_cell (i := 1) hp rfl
      have p2 := box_cell (i := 2) hp rfl
      have p3 := box_cell (i := 3) hp rfl
      obtain ⟨W5, hW5⟩ : ∃ V, w5.alloc (.cells #[.slice va5 vn5 vc5, .slice ua5 un5 uc5, .int .i64 ql5, .int .i64 qr5] 25) = V := ⟨_, rfl⟩
      have HW5 := Hid.out (p := Hid _) hW5
      rw [hW5] at hu hn hb3u hw5
      have HA5 : Hid (∀ V, Below W5.heap.size W5 V → Below W3.heap.size W3 V ∧ Below w5.heap.size w5 V ∧ V.heap[w5.heap.size]? = some (.cells #[.slice va5 vn5 vc5, .slice ua5 un5 uc5, .int .i64 ql5, .int .i64 qr5] 25)) := fun V hV => ⟨hb3u.trans (hV.mono hb3u.size), hu.trans (hV.mono hu.size), blk hV hn⟩
      have HW5w := Hid.out (p := Hid _) hw5
      clear hb35 hu hn hb3u hw5 hp hW5
      go_wp2_with fail
      rw [HW5.out]
      clear p0 p1 p2 p3 HW5
      refine Calls.mono (HRD'.out _ HW5w.out) ?_
      rintro e w6 ⟨va6, vn6, vc6, ua6, un6, uc6, ql6, qr6, rfl, H6⟩
      clear HRD' HW5w
      have hu : Below w6.heap.size w6 (w6.alloc (.cells #[.slice va6 vn6 vc6, .slice ua6 un6 uc6, .int .i64 ql6, .int .i64 qr6] 25)) := below_one _ _
      have hn := heap_alloc_new w6 (.cells #[.slice va6 vn6 vc6, .slice ua6 un6 uc6, .int .i64 ql6, .int .i64 qr6] 25)
      have hb56 := H6.out.1.trans (hu.mono H6.out.1.size)
      obtain ⟨hb3, hb5w, hwant⟩ := HA5.out _ hb56
      obtain ⟨hb2, hb3w, hqb, -⟩ := HA3.out _ hb3
      obtain ⟨-, -, hb2w, hqa, -⟩ := HA2.out _ hb2
      have q0 := box_cell (i := 0) hqa rfl
      have q1 := box_cell (i := 1) hqa rfl
      have q2 := box_cell (i := 2) hqa rfl
      have q3 := box_cell (i := 3) hqa rfl
      have r0 := box_cell (i := 0) hwant rfl
      have r1 := box_cell (i := 1) hwant rfl
      have r2 := box_cell (i := 2) hwant rfl
      have r3 := box_cell (i := 3) hwant rfl
      have HS1 := Hid.out (p := Hid _) (HSC.out _ _ _ ((H2.out.2 _ hb2w).2 (by first | trivial | rfl)) (H5.out.2 _ hb5w))
      obtain ⟨W6, hW6⟩ : ∃ V, w6.alloc (.cells #[.slice va6 vn6 vc6, .slice ua6 un6 uc6, .int .i64 ql6, .int .i64 qr6] 25) = V := ⟨_, rfl⟩
      have HW6 := Hid.out (p := Hid _) hW6
      rw [hW6] at hu hn hb56 HS1
      have HA6 : Hid (∀ V, Below W6.heap.size W6 V → Below W5.heap.size W5 V ∧ Below w6.heap.size w6 V ∧ V.heap[w6.heap.size]? = some (.cells #[.slice va6 vn6 vc6, .slice ua6 un6 uc6, .int .i64 ql6, .int .i64 qr6] 25)) := fun V hV => ⟨hb56.trans (hV.mono hb56.size), hu.trans (hV.mono hu.size), blk hV hn⟩
      clear hu hn hb56 hb3 hb5w hwant hb2 hb3w hqb hb2w hqa hW6
      go_wp2_with fail
      rw [HW6.out]
      clear q0 q1 q2 q3 r0 r1 r2 r3 HW6
      refine Calls.mono HS1.out ?_
      rintro e w7 ⟨rfl, hb7⟩
      obtain ⟨hb57, hb6w, hmore⟩ := HA6.out _ hb7
      obtain ⟨hb3, -, -⟩ := HA5.out _ hb57
      obtain ⟨hb2, hb3w, hqb, -⟩ := HA3.out _ hb3
      have q0 := box_cell (i := 0) hqb rfl
      have q1 := box_cell (i := 1) hqb rfl
      have q2 := box_cell (i := 2) hqb rfl
      have q3 := box_cell (i := 3) hqb rfl
      have r0 := box_cell (i := 0) hmore rfl
      have r1 := box_cell (i := 1) hmore rfl
      have r2 := box_cell (i := 2) hmore rfl
      have r3 := box_cell (i := 3) hmore rfl
      have HS2 := Hid.out (p := Hid _) (HSD.out _ _ _ ((H3.out.2 _ hb3w).2 (by first | trivial | rfl)) (H6.out.2 _ hb6w))
      have HW7 := Hid.out (p := Hid _) (HA2.out _ hb2).1
      clear hb7 hb57 hb6w hmore hb3 hb2 hb3w hqb HS1
      go_wp2_with fail
      refine Calls.mono HS2.out ?_
      rintro e w8 ⟨rfl, hb8⟩
      have HW8 := Hid.out (p := Hid _) (HW7.out.trans (hb8.mono HW7.out.size))
      clear hb8 q0 q1 q2 q3 r0 r1 r2 r3
      go_wp2_with fail
      go_ret
      exact ⟨rfl, HW8.out⟩
    · have hx' : (x != 0) = true := by simpa using hx
      go_wp2_with fail
      rw [HW4.out]
      clear n0 n1 n2 f0 f1 f2 g0 g1 g2 p0 p1 p2 p3 q0 q1 q2 q3 HW4
      refine Calls.mono ((H2.out.2 _ (HA2.out _ (HA3.out _ HB34.out).1).2.2.1).1 hx) ?_
      rintro e w5 ⟨rfl, hb5⟩
      have hb35 := HB34.out.trans (hb5.mono HB34.out.size)
      obtain ⟨hb25, hb3w5, hr, -⟩ := HA3.out w5 hb35
      have r0 := box_cell (i := 0) hr rfl
      have r1 := box_cell (i := 1) hr rfl
      have r2 := box_cell (i := 2) hr rfl
      have r3 := box_cell (i := 3) hr rfl
      have HN2 := Hid.out (p := Hid _) ((H3.out.2 _ hb3w5).1 hx)
      have HW5 := Hid.out (p := Hid _) (HA2.out _ hb25).1
      clear hb35 hb25 hb3w5 hr hb5
      go_wp2_with fail
      refine Calls.mono HN2.out ?_
      rintro e w6 ⟨rfl, hb6⟩
      have HW6 := Hid.out (p := Hid _) (HW5.out.trans (hb6.mono HW5.out.size))
      clear hb6 r0 r1 r2 r3
      go_wp2_with fail
      go_ret
      exact ⟨rfl, HW6.out⟩

end Go.Proofs.YtkailbdjilkneaaDoor
