/-
  LOCKS OF WORDS ARE LOCKS: the law, its walk.
-/
import Derived.Test.YtefnmbnakphhfadSLnk3
import Derived.Test.YtefnmbnakphhfadZOnce
import Derived.Test.YtefnmbnakphhfadZOnce2
import Derived.Test.YtefnmbnakphhfadZMake
import Derived.Test.YtefnmbnakphhfadCheckR3
import Derived.Test.YtefnmbnakphhfadOrder
import Derived.Test.YtefnmbnakphhfadWorkP
import Derived.Deep.RegionHeld3
import Derived.BigRegion
import Derived.BigQuiet
namespace Go.Proofs.Ytefnmbnakphhfad
open Go.RowKit

/-- What is known behind Link, where the program may be linked: the new one may be; what is told of both, and how that stands together. -/
structure SpinQ (w : World) (P Q : Value) (m : Nat) (L : Nat → Nat) (X : Nat → Nat → Nat → Int) (L' : Nat → Nat) (X' : Nat → Nat → Nat → Int) (s0 s1 : Sx) : Prop where
  chk : ∀ V, Below w.heap.size w V → Calls Try.prog 7 #[Q] V fun e w' => e = .returned (ints3 0 0 0) ∧ Below V.heap.size V w'
  old : ∀ V md, Below w.heap.size w V → Calls Try.prog 11 #[P, .bool md] V (MakeE V L X (if md then 1 else 0) s0)
  new : ∀ V md, Below w.heap.size w V → Calls Try.prog 11 #[Q, .bool md] V (MakeE V L' X' (if md then 1 else 0) s1)
  wa : ∀ mode : Int, mode = 0 ∨ mode = 1 → ∀ a, Told (nxX L X mode) (outsX L X mode) s0 4000 false a → ∀ o, o ∈ a → o.st = 0 → m ≤ o.ws.length
  wb : ∀ mode : Int, mode = 0 ∨ mode = 1 → ∀ a, Told (nxX L' X' mode) (outsX L' X' mode) s1 4000 false a → ∀ o, o ∈ a → o.st = 0 → m ≤ o.ws.length
  same : ∀ mode : Int, mode = 0 ∨ mode = 1 → ∀ a b c, Told (nxX L X 1) (outsX L X 1) s0 4000 false c → (∀ o, o ∈ c → o.st ≠ 1) → Told (nxX L X mode) (outsX L X mode) s0 4000 false a → Told (nxX L' X' mode) (outsX L' X' mode) s1 4000 false b → cutO m a = onceL (cutO m b)
/-- What Link says. -/
def LnkH (W : World) (cx cy cz : Int) (m : Nat) (lk rg : Int) (L : Nat → Nat) (X : Nat → Nat → Nat → Int) (L' : Nat → Nat) (X' : Nat → Nat → Nat → Int) (s0 s1 : Sx) (P q : Value) (fx fy fz : Int) (w' : World) : Prop :=
  Below W.heap.size W w' ∧ ((cx ≠ 0 ∧ fx = cx ∧ fy = cy ∧ fz = cz) ∨ (cx = 0 ∧ 6 < rg ∧ fx = 3) ∨ (cx = 0 ∧ rg ≤ 6 ∧ 64 < (m : Int) + lk ∧ fx = 1) ∨ (cx = 0 ∧ rg ≤ 6 ∧ (m : Int) + lk ≤ 64 ∧ fx = 1) ∨ (cx = 0 ∧ fx = 0 ∧ SpinQ w' P q m L X L' X' s0 s1))
set_option maxRecDepth 100000 in
set_option maxHeartbeats 12800000 in
theorem spinHolds_walk (w : World) (ca : Option Addr) (n cc : Nat) (wa : Option Addr) (m wc : Nat) (lk rg cx cy cz : Int) (L : Nat → Nat) (X : Nat → Nat → Nat → Int) (L' : Nat → Nat) (X' : Nat → Nat → Nat → Int) (s0 s1 : Sx) (hcb : cx = 0 → m ≤ 64 ∧ 0 ≤ lk ∧ lk ≤ 4)
    (HV : Hid (∀ W, Below w.heap.size w W → Calls Try.prog 5 #[prgV ca n cc wa m wc lk rg] W fun e w' => ∃ b, e = .returned (.bool b) ∧ Below W.heap.size W w'))
    (HFL : Hid (∀ W, Below w.heap.size w W → Calls Try.prog 6 #[prgV ca n cc wa m wc lk rg] W fun e w' => ∃ (va : Option Addr) (vn vc : Nat) (ua : Option Addr) (un uc : Nat) (ql qr fx fy fz : Int), e = .returned (.tuple #[.agg #[.slice va vn vc, .slice ua un uc, .int .i64 ql, .int .i64 qr], ints3 fx fy fz]) ∧ Hid (LnkH W cx cy cz m lk rg L X L' X' s0 s1 (prgV ca n cc wa m wc lk rg) (.agg #[.slice va vn vc, .slice ua un uc, .int .i64 ql, .int .i64 qr]) fx fy fz w')))
    (HCK : Hid (∀ W, Below w.heap.size w W → Calls Try.prog 7 #[prgV ca n cc wa m wc lk rg] W fun e w' => e = .returned (ints3 cx cy cz) ∧ Below W.heap.size W w')) :
    Calls Try.prog 4 #[prgV ca n cc wa m wc lk rg] w fun e w' => e = .returned (.bool true) ∧ Below w.heap.size w w' := by
  obtain ⟨PB, hPB⟩ : ∃ o : Obj, o = .cells #[.slice ca n cc, .slice wa m wc, .int .i64 lk, .int .i64 rg] 25 := ⟨_, rfl⟩
  have hb0 : Below w.heap.size w (w.alloc PB) := (Below.refl _ _).alloc (Nat.le_refl _) _
  have hp0 : (w.alloc PB).heap[w.heap.size]? = some PB := heap_alloc_new _ _
  obtain ⟨W0, hW0⟩ : ∃ V, w.alloc PB = V := ⟨_, rfl⟩
  have HW0 : Hid (w.alloc (.cells #[.slice ca n cc, .slice wa m wc, .int .i64 lk, .int .i64 rg] 25) = W0) := by rw [← hW0, hPB]; exact rfl
  rw [hW0] at hb0 hp0
  rw [hPB] at hp0
  have HB0 : Hid (Below w.heap.size w W0) := hb0
  have HAT : Hid (∀ V, Below W0.heap.size W0 V → Below w.heap.size w V ∧ V.heap[w.heap.size]? = some (.cells #[.slice ca n cc, .slice wa m wc, .int .i64 lk, .int .i64 rg] 25)) := fun V hb => ⟨hb0.trans (hb.mono hb0.size), (hb.block _ (box_lt hp0)).trans hp0⟩
  clear hPB hb0 hp0 hW0
  go_enter Try.func4, Try.ntmps4
  go_wp2_with fail
  rw [HW0.out]
  refine Calls.mono (HV.out _ HB0.out) ?_
  rintro e w1 ⟨b, rfl, hb1⟩
  obtain ⟨hw1, hp1⟩ := HAT.out w1 hb1
  have p0 := box_cell (i := 0) hp1 rfl
  have p1 := box_cell (i := 1) hp1 rfl
  have p2 := box_cell (i := 2) hp1 rfl
  have p3 := box_cell (i := 3) hp1 rfl
  have H1 := Hid.out (p := Hid _) (And.intro hb1 hw1)
  clear HV HW0 hb1 hw1 hp1
  cases b with
  | true =>
    go_wp2_with fail
    go_ret
    exact ⟨rfl, H1.out.2⟩
  | false =>
    go_wp2_with fail
    refine Calls.mono (HFL.out _ H1.out.2) ?_
    rintro e w2 ⟨va, vn, vc, ua, un, uc, ql, qr, fx, fy, fz, rfl, H2⟩
    obtain ⟨QB, hQB⟩ : ∃ o : Obj, o = .cells #[.slice va vn vc, .slice ua un uc, .int .i64 ql, .int .i64 qr] 25 := ⟨_, rfl⟩
    obtain ⟨FB, hFB⟩ : ∃ o : Obj, o = .cells #[.int .i64 fx, .int .i64 fy, .int .i64 fz] 29 := ⟨_, rfl⟩
    have hb02 : Below W0.heap.size W0 w2 := H1.out.1.trans (H2.out.1.mono H1.out.1.size)
    obtain ⟨W2, hW2⟩ : ∃ V, (w2.alloc QB).alloc FB = V := ⟨_, rfl⟩
    have hb22 : Below w2.heap.size w2 W2 := by rw [← hW2]; exact ((Below.refl _ _).alloc (Nat.le_refl _) _).alloc (by simp) _
    have hQ2 : W2.heap[w2.heap.size]? = some QB := by rw [← hW2]; exact box_later (heap_alloc_new _ _) _
    have hF2 : W2.heap[w2.heap.size + 1]? = some FB := by rw [← hW2]; have := heap_alloc_new (w2.alloc QB) FB; simpa using this
    have HW2 : Hid ((w2.alloc (.cells #[.slice va vn vc, .slice ua un uc, .int .i64 ql, .int .i64 qr] 25)).alloc (.cells #[.int .i64 fx, .int .i64 fy, .int .i64 fz] 29) = W2) := by rw [← hW2, hQB, hFB]; exact rfl
    rw [hQB] at hQ2
    rw [hFB] at hF2
    have HA2 : Hid (∀ V, Below W2.heap.size W2 V → Below W0.heap.size W0 V ∧ Below w2.heap.size w2 V ∧ V.heap[w2.heap.size]? = some (.cells #[.slice va vn vc, .slice ua un uc, .int .i64 ql, .int .i64 qr] 25) ∧ V.heap[w2.heap.size + 1]? = some (.cells #[.int .i64 fx, .int .i64 fy, .int .i64 fz] 29)) := fun V hV => ⟨(hb02.trans (hb22.mono hb02.size)).trans (hV.mono (hb02.trans (hb22.mono hb02.size)).size), hb22.trans (hV.mono hb22.size), (hV.block _ (box_lt hQ2)).trans hQ2, (hV.block _ (box_lt hF2)).trans hF2⟩
    have hp2 := (HAT.out w2 hb02).2
    clear p0 p1 p2 p3 hQB hFB hb02 hW2 hb22 hQ2 hF2 H1 HFL
    have p0 := fun o o' => cell_up (cell_up (box_cell (i := 0) hp2 rfl) o) o'
    have p1 := fun o o' => cell_up (cell_up (box_cell (i := 1) hp2 rfl) o) o'
    have p2 := fun o o' => cell_up (cell_up (box_cell (i := 2) hp2 rfl) o) o'
    have p3 := fun o o' => cell_up (cell_up (box_cell (i := 3) hp2 rfl) o) o'
    clear hp2
    go_wp2_with fail
    rw [HW2.out]
    refine Calls.mono (HCK.out _ (HAT.out _ (HA2.out _ (Below.refl _ _)).1).1) ?_
    rintro e w4 ⟨rfl, hb4⟩
    clear p0 p1 p2 p3 HW2 HCK
    obtain ⟨NB, hNB⟩ : ∃ o : Obj, o = .cells #[.int .i64 cx, .int .i64 cy, .int .i64 cz] 29 := ⟨_, rfl⟩
    obtain ⟨W4, hW4⟩ : ∃ V, w4.alloc NB = V := ⟨_, rfl⟩
    have hb44 : Below w4.heap.size w4 W4 := by rw [← hW4]; exact (Below.refl _ _).alloc (Nat.le_refl _) _
    have hN4 : W4.heap[w4.heap.size]? = some NB := by rw [← hW4]; exact heap_alloc_new _ _
    have HW4 : Hid (w4.alloc (.cells #[.int .i64 cx, .int .i64 cy, .int .i64 cz] 29) = W4) := by rw [← hW4, hNB]; exact rfl
    rw [hNB] at hN4
    have HA4 : Hid (∀ V, Below W4.heap.size W4 V → Below W2.heap.size W2 V ∧ V.heap[w4.heap.size]? = some (.cells #[.int .i64 cx, .int .i64 cy, .int .i64 cz] 29)) := fun V hV => ⟨(hb4.trans (hb44.mono hb4.size)).trans (hV.mono (hb4.trans (hb44.mono hb4.size)).size), (hV.block _ (box_lt hN4)).trans hN4⟩
    obtain ⟨hb04, _, hq4, hf4⟩ := HA2.out w4 hb4
    obtain ⟨hbw4, hp4⟩ := HAT.out w4 hb04
    have H4 := Hid.out (p := Hid _) (And.intro hb4 hbw4)
    clear hNB hb44 hW4 hN4 hb4 hbw4 hb04
    have p0 := box_cell (i := 0) hp4 rfl
    have p1 := box_cell (i := 1) hp4 rfl
    have p2 := box_cell (i := 2) hp4 rfl
    have p3 := box_cell (i := 3) hp4 rfl
    have pu0 := cell_up p0
    have pu1 := cell_up p1
    have pu2 := cell_up p2
    have pu3 := cell_up p3
    have q0 := box_cell (i := 0) hq4 rfl
    have q1 := box_cell (i := 1) hq4 rfl
    have q2 := box_cell (i := 2) hq4 rfl
    have q3 := box_cell (i := 3) hq4 rfl
    have f0 := box_cell (i := 0) hf4 rfl
    have f1 := box_cell (i := 1) hf4 rfl
    have f2 := box_cell (i := 2) hf4 rfl
    have qu0 := cell_up q0
    have qu1 := cell_up q1
    have qu2 := cell_up q2
    have qu3 := cell_up q3
    have fu0 := cell_up f0
    have fu1 := cell_up f1
    have fu2 := cell_up f2
    have hl4 : w2.heap.size + 1 < w4.heap.size := box_lt hf4
    have hlp : w.heap.size < w4.heap.size := box_lt hp4
    have HFN : Hid (∀ (a b c : Value) V, Below (w4.alloc (.cells #[a, b, c] 29)).heap.size (w4.alloc (.cells #[a, b, c] 29)) V → (Below W2.heap.size W2 V ∧ Below w.heap.size w V) ∧ (V.cell? ⟨w2.heap.size, 0, none⟩ = some (.slice va vn vc) ∧ V.cell? ⟨w2.heap.size, 1, none⟩ = some (.slice ua un uc) ∧ V.cell? ⟨w2.heap.size, 2, none⟩ = some (.int .i64 ql) ∧ V.cell? ⟨w2.heap.size, 3, none⟩ = some (.int .i64 qr)) ∧ (V.cell? ⟨w2.heap.size + 1, 0, none⟩ = some (.int .i64 fx) ∧ V.cell? ⟨w2.heap.size + 1, 1, none⟩ = some (.int .i64 fy) ∧ V.cell? ⟨w2.heap.size + 1, 2, none⟩ = some (.int .i64 fz)) ∧ V.heap[w4.heap.size]? = some (.cells #[a, b, c] 29)) := fun a b c V hV => by
      have h1 : Below w4.heap.size w4 V := ((Below.refl _ _).alloc (Nat.le_refl _) _).trans (hV.mono (by simp))
      have h2 : Below W2.heap.size W2 V := H4.out.1.trans (h1.mono H4.out.1.size)
      obtain ⟨h3, _, h4, h5⟩ := HA2.out V h2
      exact ⟨⟨h2, (HAT.out V h3).1⟩, ⟨box_cell h4 rfl, box_cell h4 rfl, box_cell h4 rfl, box_cell h4 rfl⟩, ⟨box_cell h5 rfl, box_cell h5 rfl, box_cell h5 rfl⟩, (hV.block _ (by simp)).trans (heap_alloc_new _ _)⟩
    clear hp4 hq4 hf4
    rcases H2.out.2 with ⟨hx, rfl, rfl, rfl⟩ | ⟨rfl, h6, rfl⟩ | ⟨rfl, h6, h64, rfl⟩ | ⟨rfl, h6, h64, rfl⟩ | ⟨rfl, rfl, hS⟩
    · have hx' : (fx != 0) = true := by simpa using hx
      have nb := heap_alloc_new w4 (.cells #[.int .i64 fx, .int .i64 fy, .int .i64 fz] 29)
      clear H2 HA4 HA2 HAT HFN
      go_wp2
      go_ret
      exact ⟨rfl, H4.out.2.alloc H4.out.2.size _⟩
    · clear H2 HA4 HA2 HAT HFN
      go_wp2
      go_ret
      exact ⟨rfl, H4.out.2.alloc H4.out.2.size _⟩
    · obtain ⟨hm64, hk0, hk4⟩ := hcb rfl
      clear H2 HA4 HA2 HAT HFN
      go_wp2
      go_ret
      exact ⟨rfl, H4.out.2.alloc H4.out.2.size _⟩
    · obtain ⟨hm64, hk0, hk4⟩ := hcb rfl
      clear H2 HA4 HA2 HAT HFN
      go_wp2
      go_ret
      exact ⟨rfl, H4.out.2.alloc H4.out.2.size _⟩
    · have HSQ := Hid.out (p := Hid _) hS
      clear hS H2
      have HPQ : Hid (∀ V, Below W2.heap.size W2 V → (Below w.heap.size w V ∧ Below w2.heap.size w2 V) ∧ (V.cell? ⟨w.heap.size, 0, none⟩ = some (.slice ca n cc) ∧ V.cell? ⟨w.heap.size, 1, none⟩ = some (.slice wa m wc) ∧ V.cell? ⟨w.heap.size, 2, none⟩ = some (.int .i64 lk) ∧ V.cell? ⟨w.heap.size, 3, none⟩ = some (.int .i64 rg)) ∧ V.cell? ⟨w2.heap.size, 0, none⟩ = some (.slice va vn vc) ∧ V.cell? ⟨w2.heap.size, 1, none⟩ = some (.slice ua un uc) ∧ V.cell? ⟨w2.heap.size, 2, none⟩ = some (.int .i64 ql) ∧ V.cell? ⟨w2.heap.size, 3, none⟩ = some (.int .i64 qr)) := fun V hV => by
        obtain ⟨h1, h2, h3, _⟩ := HA2.out V hV
        obtain ⟨h4, h5⟩ := HAT.out V h1
        exact ⟨⟨h4, h2⟩, ⟨box_cell h5 rfl, box_cell h5 rfl, box_cell h5 rfl, box_cell h5 rfl⟩, box_cell h3 rfl, box_cell h3 rfl, box_cell h3 rfl, box_cell h3 rfl⟩
      have hb4o : ∀ o, Below W2.heap.size W2 (w4.alloc o) := fun o => H4.out.1.alloc H4.out.1.size _
      clear HFN HA2 HA4 HAT HW4
      go_wp2_with fail
      refine Calls.mono (HSQ.out.chk _ (HPQ.out _ (hb4o _)).1.2) ?_
      rintro e w5 ⟨rfl, hb5⟩
      have hb25 : Below W2.heap.size W2 w5 := (hb4o _).trans (hb5.mono (hb4o _).size)
      obtain ⟨W6, hW6⟩ : ∃ V, w5.alloc (.cells #[.int .i64 0, .int .i64 0, .int .i64 0] 29) = V := ⟨_, rfl⟩
      have HB6 : Hid (Below W2.heap.size W2 W6) := by show Below _ _ _; rw [← hW6]; exact hb25.alloc hb25.size _
      have HW6 := Hid.out (p := Hid _) hW6
      clear hb5 hb25 hb4o hW6 H4 p0 p1 p2 p3 pu0 pu1 pu2 pu3 q0 q1 q2 q3 qu0 qu1 qu2 qu3 f0 f1 f2 fu0 fu1 fu2
      go_wp2_with fail
      rw [HW6.out]
      go_loopw [7] (fun i wr => ∃ k : Nat, k ≤ 2 ∧ i = .int .i64 k ∧ Below W2.heap.size W2 wr) (fun i _ => 2 - (intOf i).toNat)
      case atStart => exact ⟨0, by omega, rfl, HB6.out⟩
      case round =>
        obtain ⟨k, hk, rfl, hbwr⟩ := hrel
        clear HB6 HW6
        obtain rfl | rfl | rfl : k = 0 ∨ k = 1 ∨ k = 2 := by omega
        · skip
          obtain ⟨_, ⟨p0, p1, p2, p3⟩, q0, q1, q2, q3⟩ := HPQ.out wr hbwr
          go_wp2_with fail
          refine Calls.mono (HSQ.out.old wr true (HPQ.out _ hbwr).1.2) ?_
          rintro e w6 ⟨zp, zf, za, zc, zs, rfl, zt, z4, z5, zE, zo, zl, hb'⟩
          have zt' : Told (nxX L X 1) (outsX L X 1) s0 4000 zf (zs.map En.o) := zt
          have hbw6 : Below W2.heap.size W2 w6 := hbwr.trans (hb'.mono hbwr.size)
          clear zt zt' z4 z5 zE zo zl hb' p0 p1 p2 p3 q0 q1 q2 q3
          obtain ⟨_, ⟨p0, p1, p2, p3⟩, q0, q1, q2, q3⟩ := HPQ.out w6 hbw6
          go_wp2_with fail
          refine Calls.mono (HSQ.out.old w6 false (HPQ.out _ hbw6).1.2) ?_
          rintro e w7 ⟨xp, xf, xa, xc, xs, rfl, xt, x4, x5, xE, xo, xl, hb'⟩
          have xt' : Told (nxX L X 0) (outsX L X 0) s0 4000 xf (xs.map En.o) := xt
          have hbw7 : Below W2.heap.size W2 w7 := hbw6.trans (hb'.mono hbw6.size)
          have HXA : Hid (Told (nxX L X 0) (outsX L X 0) s0 4000 xf (xs.map En.o) ∧ EIn w7 xa xs ∧ (∀ x, x ∈ xs → EnOk w7 x ∧ x.o.ws.length ≤ x.wc) ∧ xs.length ≤ 100000 ∧ w7.cell? ⟨xp, 4, none⟩ = some (.slice xa xs.length xc) ∧ w7.cell? ⟨xp, 5, none⟩ = some (.bool xf)) := ⟨xt', xE, xo, xl, x4, x5⟩
          clear xt xt' x4 x5 xE xo xl hb' p0 p1 p2 p3 q0 q1 q2 q3
          obtain ⟨_, ⟨p0, p1, p2, p3⟩, q0, q1, q2, q3⟩ := HPQ.out w7 hbw7
          go_wp2_with fail
          refine Calls.mono (HSQ.out.old w7 true (HPQ.out _ hbw7).1.2) ?_
          rintro e w8 ⟨yp, yf, ya, yc, ys, rfl, yt, y4, y5, yE, yo, yl, hb'⟩
          have yt' : Told (nxX L X 1) (outsX L X 1) s0 4000 yf (ys.map En.o) := yt
          have hbw8 : Below W2.heap.size W2 w8 := hbw7.trans (hb'.mono hbw7.size)
          have HYA : Hid (Told (nxX L X 1) (outsX L X 1) s0 4000 yf (ys.map En.o) ∧ EIn w8 ya ys ∧ ys.length ≤ 100000 ∧ w8.cell? ⟨yp, 4, none⟩ = some (.slice ya ys.length yc) ∧ w8.cell? ⟨yp, 5, none⟩ = some (.bool yf) ∧ Below w7.heap.size w7 w8) := ⟨yt', yE, yl, y4, y5, hb'⟩
          clear yt yt' y4 y5 yE yo yl hb' p0 p1 p2 p3 q0 q1 q2 q3
          obtain ⟨_, ⟨p0, p1, p2, p3⟩, q0, q1, q2, q3⟩ := HPQ.out w8 hbw8
          go_wp2_with fail
          refine Calls.mono (HSQ.out.new w8 false (HPQ.out _ hbw8).1.2) ?_
          rintro e w9 ⟨vp, vf, vA, vC, vs, rfl, vt, v4, v5, vE, vo, vl, hb'⟩
          have vt' : Told (nxX L' X' 0) (outsX L' X' 0) s1 4000 vf (vs.map En.o) := vt
          have hbw9 : Below W2.heap.size W2 w9 := hbw8.trans (hb'.mono hbw8.size)
          have HVA : Hid (Told (nxX L' X' 0) (outsX L' X' 0) s1 4000 vf (vs.map En.o) ∧ EIn w9 vA vs ∧ (∀ x, x ∈ vs → EnOk w9 x ∧ x.o.ws.length ≤ x.wc) ∧ vs.length ≤ 100000 ∧ w9.cell? ⟨vp, 4, none⟩ = some (.slice vA vs.length vC) ∧ w9.cell? ⟨vp, 5, none⟩ = some (.bool vf) ∧ Below w8.heap.size w8 w9) := ⟨vt', vE, vo, vl, v4, v5, hb'⟩
          clear vt vt' v4 v5 vE vo vl hb' p0 p1 p2 p3 q0 q1 q2 q3
          have h79 : Below w7.heap.size w7 w9 := HYA.out.2.2.2.2.2.trans (HVA.out.2.2.2.2.2.2.mono HYA.out.2.2.2.2.2.size)
          have a5 := (h79.cell (lt_of_cell HXA.out.2.2.2.2.2)).trans HXA.out.2.2.2.2.2
          have c5 := (HVA.out.2.2.2.2.2.2.cell (lt_of_cell HYA.out.2.2.2.2.1)).trans HYA.out.2.2.2.2.1
          have b5 := HVA.out.2.2.2.2.2.1
          have HB9 := Hid.out (p := Hid _) hbw9
          have H79 := Hid.out (p := Hid _) h79
          clear h79
          by_cases hful : xf = true ∨ vf = true ∨ yf = true
          · have hg : Hid (Below W2.heap.size W2 w9) := HB9
            clear HXA HYA HVA
            cases xf <;> cases vf <;> cases yf <;> first | exact absurd hful (by decide) | skip
            all_goals clear hful
            all_goals go_wp2
            all_goals exact ⟨⟨1, by omega, rfl, hg.out⟩, by simp [intOf]⟩
          · have hxf : xf = false := by cases xf <;> simp_all
            have hvf : vf = false := by cases vf <;> simp_all
            have hyf : yf = false := by cases yf <;> simp_all
            subst hxf hvf hyf
            clear hful
            go_wp2_with fail
            clear a5 b5 c5
            obtain ⟨ny, hny⟩ : ∃ k, ys.length = k := ⟨_, rfl⟩
            have HNY := Hid.out (p := Hid _) hny
            have hyl : ny ≤ 100000 := by rw [← hny]; exact HYA.out.2.2.1
            have HYC : Hid (∀ V, Below w9.heap.size w9 V → V.cell? ⟨yp, 4, none⟩ = some (.slice ya ny yc) ∧ EIn V ya ys) := fun V hV => by
              have h89 := HVA.out.2.2.2.2.2.2
              have h := h89.trans (hV.mono h89.size)
              rw [← hny]
              exact ⟨(h.cell (lt_of_cell HYA.out.2.2.2.1)).trans HYA.out.2.2.2.1, EIn.below HYA.out.2.1 h⟩
            clear hny
            go_loopw [11] (fun i wi => ∃ j : Nat, j ≤ ny ∧ i = .int .i64 j ∧ Hid (∀ o, o ∈ (ys.map En.o).take j → o.st ≠ 1) ∧ Below w9.heap.size w9 wi) (fun i _ => ny - (intOf i).toNat)
            case atStart => exact ⟨0, Nat.zero_le _, rfl, fun o ho => (by cases ho), Below.refl _ _⟩
            case round =>
              obtain ⟨j, hj, rfl, HT, hbi⟩ := hrel
              obtain ⟨c4, hEy⟩ := HYC.out _ hbi
              by_cases hjl : j < ny
              · have hjy : j < ys.length := by rw [HNY.out]; exact hjl
                obtain ⟨gb, go, rfl, y0, _, _⟩ := hEy j hjy
                have HTK : Hid ((ys.map En.o).take (j + 1) = (ys.map En.o).take j ++ [(ys.getD j default).o]) := by
                  show _ = _
                  rw [take_next (by rw [List.length_map]; exact hjy), map_getD hjy]
                obtain ⟨st, hst⟩ : ∃ x, (ys.getD j default).o.st = x := ⟨_, rfl⟩
                rw [hst] at y0
                have HST := Hid.out (p := Hid _) hst
                clear hst hEy
                have HWI : Hid (Below w.heap.size w wr) := (HPQ.out wr (HB9.out.trans (hbi.mono HB9.out.size))).1.1
                by_cases h1 : st = 1
                · subst h1
                  clear HTK HST HT
                  go_wp2
                  go_ret
                  exact ⟨rfl, HWI.out⟩
                · have h1' : (st == 1) = false := by simpa using h1
                  have HT2 : Hid (∀ o, o ∈ (ys.map En.o).take (j + 1) → o.st ≠ 1) := fun o ho => by
                    rw [HTK.out] at ho
                    rcases List.mem_append.mp ho with ho | ho
                    · exact HT.out o ho
                    · rw [List.mem_singleton.mp ho, HST.out]; exact h1
                  clear HTK HST HT h1
                  go_wp2
                  go_roundw
                  case rel => exact ⟨j + 1, by omega, by go_num, HT2, hbi⟩
                  case measure => simp [intOf]; omega
              · obtain rfl : j = ny := by omega
                have HNF : Hid (∀ o, o ∈ ys.map En.o → o.st ≠ 1) := fun o ho => HT.out o (by rw [List.take_of_length_le (by rw [List.length_map, HNY.out]; exact Nat.le_refl _)]; exact ho)
                have HSM : Hid (cutO m (xs.map En.o) = onceL (cutO m (vs.map En.o))) := HSQ.out.same 0 (by omega) _ _ _ HYA.out.1 HNF.out HXA.out.1 HVA.out.1
                have hb0 : Below W2.heap.size W2 wr := HB9.out.trans (hbi.mono HB9.out.size)
                obtain ⟨_, ⟨p0, p1, p2, p3⟩, _⟩ := HPQ.out wr hb0
                have h7i : Below w7.heap.size w7 wr := H79.out.trans (hbi.mono H79.out.size)
                have a4 := (h7i.cell (lt_of_cell HXA.out.2.2.2.2.1)).trans HXA.out.2.2.2.2.1
                have HCX : Hid (∀ V, Below wr.heap.size wr V → Calls Try.prog 12 #[.slice xa xs.length xc, .int .i64 m] V fun e w' => ∃ b d, e = .returned (.slice b (cutEs m xs).length d) ∧ EIn w' b (cutEs m xs) ∧ Below V.heap.size V w') := fun V hV => by
                  have h := h7i.trans (hV.mono h7i.size)
                  exact cutEs_any V xa xs xc m (EIn.below HXA.out.2.1 h) (fun x hx => ⟨(HXA.out.2.2.1 x hx).1.below h, (HXA.out.2.2.1 x hx).2⟩) HXA.out.2.2.2.1 (fun x hx h0 => HSQ.out.wa 0 (by omega) _ HXA.out.1 x.o (List.mem_map.mpr ⟨x, hx, rfl⟩) h0)
                have HXO : Hid (∀ V, Below wr.heap.size wr V → ∀ x, x ∈ cutEs m xs → EnOk V x) := fun V hV x hx => by
                  obtain ⟨e, he, _, rfl⟩ := cut_mem hx
                  exact cut_ok ((HXA.out.2.2.1 e he).1.below (h7i.trans (hV.mono h7i.size)))
                have HXL : Hid ((cutEs m xs).length ≤ 100000 ∧ (cutEs m vs).length ≤ 100000) := ⟨Nat.le_trans (cut_len m xs) HXA.out.2.2.2.1, Nat.le_trans (cut_len m vs) HVA.out.2.2.2.1⟩
                have HCV : Hid (∀ V, Below wr.heap.size wr V → V.cell? ⟨vp, 4, none⟩ = some (.slice vA vs.length vC) ∧ Calls Try.prog 12 #[.slice vA vs.length vC, .int .i64 m] V fun e w' => ∃ b d, e = .returned (.slice b (cutEs m vs).length d) ∧ EIn w' b (cutEs m vs) ∧ Below V.heap.size V w') := fun V hV => by
                  have h := hbi.trans (hV.mono hbi.size)
                  exact ⟨(h.cell (lt_of_cell HVA.out.2.2.2.2.1)).trans HVA.out.2.2.2.2.1, cutEs_any V vA vs vC m (EIn.below HVA.out.2.1 h) (fun x hx => ⟨(HVA.out.2.2.1 x hx).1.below h, (HVA.out.2.2.1 x hx).2⟩) HVA.out.2.2.2.1 (fun x hx h0 => HSQ.out.wb 0 (by omega) _ HVA.out.1 x.o (List.mem_map.mpr ⟨x, hx, rfl⟩) h0)⟩
                have HVO : Hid (∀ V, Below wr.heap.size wr V → ∀ x, x ∈ cutEs m vs → EnOk V x) := fun V hV x hx => by
                  obtain ⟨e, he, _, rfl⟩ := cut_mem hx
                  exact cut_ok ((HVA.out.2.2.1 e he).1.below (hbi.trans (hV.mono hbi.size)))
                have HB0 := Hid.out (p := Hid _) hb0
                clear HT HYC HNF hb0 h7i HYA HXA HVA HNY
                go_wp2_with fail
                refine region_tail 7 (by kernel_rfl) (by kernel_rfl) ?_
                simp only [List.take_succ_cons, List.take_zero, List.drop_succ_cons, List.drop_zero]
                repeat still_step
                refine wpStill_nil ?_
                go_wp2_with fail
                refine Calls.mono (HCX.out _ (Below.refl _ _).drew) ?_
                rintro e w10 ⟨xb, xd, rfl, hEx, hb10⟩
                have hr10 : Below wr.heap.size wr w10 := (Below.refl _ _).drew.trans hb10
                obtain ⟨_, ⟨_, r1, _, _⟩, _⟩ := HPQ.out w10 (HB0.out.trans (hr10.mono HB0.out.size))
                obtain ⟨b4, hcv⟩ := HCV.out w10 hr10
                have HEX : Hid (EIn w10 xb (cutEs m xs) ∧ Below wr.heap.size wr w10) := ⟨hEx, hr10⟩
                clear hEx hb10 hcv p0 p1 p2 p3 a4 c4 HCX
                go_wp2_with fail
                refine region_tail 7 (by kernel_rfl) (by kernel_rfl) ?_
                simp only [List.take_succ_cons, List.take_zero, List.drop_succ_cons, List.drop_zero]
                repeat still_step
                refine wpStill_nil ?_
                go_wp2_with fail
                refine Calls.mono (HCV.out _ hr10.drew).2 ?_
                rintro e w11 ⟨vb, vd, rfl, hEv, hb11⟩
                have h1011 : Below w10.heap.size w10 w11 := (Below.refl _ _).drew.trans hb11
                have HEV : Hid (EIn w11 vb (cutEs m vs) ∧ Below w10.heap.size w10 w11) := ⟨hEv, h1011⟩
                have HON : Hid (Calls Try.prog 13 #[.slice vb (cutEs m vs).length vd] w11 fun e w' => ∃ b d fs, e = .returned (.slice b fs.length d) ∧ EIn w' b fs ∧ (∀ x, x ∈ fs → x ∈ cutEs m vs) ∧ fs.map En.o = onceL ((cutEs m vs).map En.o) ∧ fs.length ≤ (cutEs m vs).length ∧ Below w11.heap.size w11 w') := once_any w11 vb (cutEs m vs) vd hEv (fun x hx => HVO.out w11 (hr10.trans (h1011.mono hr10.size)) x hx) HXL.out.2
                clear hEv hb11 h1011 hr10 r1 b4 HCV
                go_wp2_with fail
                refine Calls.mono HON.out ?_
                rintro e w12 ⟨ob, od, fs, rfl, hEf, hfs, hfo, hfl, hb12⟩
                have HRS : Hid (Calls Try.prog 14 #[.slice xb (cutEs m xs).length xd, .slice ob fs.length od] w12 fun e w' => e = .returned (.bool true) ∧ Below w12.heap.size w12 w') := by
                  have h1012 := HEV.out.2.trans (hb12.mono HEV.out.2.size)
                  have hr12 := HEX.out.2.trans (h1012.mono HEX.out.2.size)
                  have okx := HXO.out w12 hr12
                  have okf : ∀ x, x ∈ fs → EnOk w12 x := fun x hx => HVO.out w12 hr12 x (hfs x hx)
                  have h := rsame_any xb ob ((cutEs m xs).map En.o) (fs.map En.o) xd od (ens_obd (w := w12) HXL.out.1 okx) (ens_obd (w := w12) (Nat.le_trans hfl HXL.out.2) okf) w12 (ens_osin (EIn.below HEX.out.1 h1012) okx) (ens_osin hEf okf)
                  have e : (cutEs m xs).map En.o = fs.map En.o := by rw [hfo, cut_map, cut_map]; exact HSM.out
                  rw [List.length_map, List.length_map, decide_eq_true e] at h
                  exact h
                have HB12 : Hid (Below W2.heap.size W2 w12) := by
                  have h1012 := HEV.out.2.trans (hb12.mono HEV.out.2.size)
                  have hr12 := HEX.out.2.trans (h1012.mono HEX.out.2.size)
                  exact HB0.out.trans (hr12.mono HB0.out.size)
                clear hEf hfs hfo hfl hb12 HON HVO HXO HXL HSM
                go_wp2_with fail
                refine Calls.mono HRS.out ?_
                rintro e w13 ⟨rfl, hb13⟩
                have HB13 : Hid (Below W2.heap.size W2 w13) := HB12.out.trans (hb13.mono HB12.out.size)
                clear hb13 HRS
                go_wp2
                exact ⟨⟨1, by omega, rfl, HB13.out⟩, by simp [intOf]⟩
        · skip
          obtain ⟨_, ⟨p0, p1, p2, p3⟩, q0, q1, q2, q3⟩ := HPQ.out wr hbwr
          go_wp2_with fail
          refine Calls.mono (HSQ.out.old wr true (HPQ.out _ hbwr).1.2) ?_
          rintro e w7 ⟨xp, xf, xa, xc, xs, rfl, xt, x4, x5, xE, xo, xl, hb'⟩
          have xt' : Told (nxX L X 1) (outsX L X 1) s0 4000 xf (xs.map En.o) := xt
          have hbw7 : Below W2.heap.size W2 w7 := hbwr.trans (hb'.mono hbwr.size)
          have HXA : Hid (Told (nxX L X 1) (outsX L X 1) s0 4000 xf (xs.map En.o) ∧ EIn w7 xa xs ∧ (∀ x, x ∈ xs → EnOk w7 x ∧ x.o.ws.length ≤ x.wc) ∧ xs.length ≤ 100000 ∧ w7.cell? ⟨xp, 4, none⟩ = some (.slice xa xs.length xc) ∧ w7.cell? ⟨xp, 5, none⟩ = some (.bool xf)) := ⟨xt', xE, xo, xl, x4, x5⟩
          clear xt xt' x4 x5 xE xo xl hb' p0 p1 p2 p3 q0 q1 q2 q3
          obtain ⟨_, ⟨p0, p1, p2, p3⟩, q0, q1, q2, q3⟩ := HPQ.out w7 hbw7
          go_wp2_with fail
          refine Calls.mono (HSQ.out.old w7 true (HPQ.out _ hbw7).1.2) ?_
          rintro e w8 ⟨yp, yf, ya, yc, ys, rfl, yt, y4, y5, yE, yo, yl, hb'⟩
          have yt' : Told (nxX L X 1) (outsX L X 1) s0 4000 yf (ys.map En.o) := yt
          have hbw8 : Below W2.heap.size W2 w8 := hbw7.trans (hb'.mono hbw7.size)
          have HYA : Hid (Told (nxX L X 1) (outsX L X 1) s0 4000 yf (ys.map En.o) ∧ EIn w8 ya ys ∧ ys.length ≤ 100000 ∧ w8.cell? ⟨yp, 4, none⟩ = some (.slice ya ys.length yc) ∧ w8.cell? ⟨yp, 5, none⟩ = some (.bool yf) ∧ Below w7.heap.size w7 w8) := ⟨yt', yE, yl, y4, y5, hb'⟩
          clear yt yt' y4 y5 yE yo yl hb' p0 p1 p2 p3 q0 q1 q2 q3
          obtain ⟨_, ⟨p0, p1, p2, p3⟩, q0, q1, q2, q3⟩ := HPQ.out w8 hbw8
          go_wp2_with fail
          refine Calls.mono (HSQ.out.new w8 true (HPQ.out _ hbw8).1.2) ?_
          rintro e w9 ⟨vp, vf, vA, vC, vs, rfl, vt, v4, v5, vE, vo, vl, hb'⟩
          have vt' : Told (nxX L' X' 1) (outsX L' X' 1) s1 4000 vf (vs.map En.o) := vt
          have hbw9 : Below W2.heap.size W2 w9 := hbw8.trans (hb'.mono hbw8.size)
          have HVA : Hid (Told (nxX L' X' 1) (outsX L' X' 1) s1 4000 vf (vs.map En.o) ∧ EIn w9 vA vs ∧ (∀ x, x ∈ vs → EnOk w9 x ∧ x.o.ws.length ≤ x.wc) ∧ vs.length ≤ 100000 ∧ w9.cell? ⟨vp, 4, none⟩ = some (.slice vA vs.length vC) ∧ w9.cell? ⟨vp, 5, none⟩ = some (.bool vf) ∧ Below w8.heap.size w8 w9) := ⟨vt', vE, vo, vl, v4, v5, hb'⟩
          clear vt vt' v4 v5 vE vo vl hb' p0 p1 p2 p3 q0 q1 q2 q3
          have h79 : Below w7.heap.size w7 w9 := HYA.out.2.2.2.2.2.trans (HVA.out.2.2.2.2.2.2.mono HYA.out.2.2.2.2.2.size)
          have a5 := (h79.cell (lt_of_cell HXA.out.2.2.2.2.2)).trans HXA.out.2.2.2.2.2
          have c5 := (HVA.out.2.2.2.2.2.2.cell (lt_of_cell HYA.out.2.2.2.2.1)).trans HYA.out.2.2.2.2.1
          have b5 := HVA.out.2.2.2.2.2.1
          have HB9 := Hid.out (p := Hid _) hbw9
          have H79 := Hid.out (p := Hid _) h79
          clear h79
          by_cases hful : xf = true ∨ vf = true ∨ yf = true
          · have hg : Hid (Below W2.heap.size W2 w9) := HB9
            clear HXA HYA HVA
            cases xf <;> cases vf <;> cases yf <;> first | exact absurd hful (by decide) | skip
            all_goals clear hful
            all_goals go_wp2
            all_goals exact ⟨⟨2, by omega, rfl, hg.out⟩, by simp [intOf]⟩
          · have hxf : xf = false := by cases xf <;> simp_all
            have hvf : vf = false := by cases vf <;> simp_all
            have hyf : yf = false := by cases yf <;> simp_all
            subst hxf hvf hyf
            clear hful
            go_wp2_with fail
            clear a5 b5 c5
            obtain ⟨ny, hny⟩ : ∃ k, ys.length = k := ⟨_, rfl⟩
            have HNY := Hid.out (p := Hid _) hny
            have hyl : ny ≤ 100000 := by rw [← hny]; exact HYA.out.2.2.1
            have HYC : Hid (∀ V, Below w9.heap.size w9 V → V.cell? ⟨yp, 4, none⟩ = some (.slice ya ny yc) ∧ EIn V ya ys) := fun V hV => by
              have h89 := HVA.out.2.2.2.2.2.2
              have h := h89.trans (hV.mono h89.size)
              rw [← hny]
              exact ⟨(h.cell (lt_of_cell HYA.out.2.2.2.1)).trans HYA.out.2.2.2.1, EIn.below HYA.out.2.1 h⟩
            clear hny
            go_loopw [11] (fun i wi => ∃ j : Nat, j ≤ ny ∧ i = .int .i64 j ∧ Hid (∀ o, o ∈ (ys.map En.o).take j → o.st ≠ 1) ∧ Below w9.heap.size w9 wi) (fun i _ => ny - (intOf i).toNat)
            case atStart => exact ⟨0, Nat.zero_le _, rfl, fun o ho => (by cases ho), Below.refl _ _⟩
            case round =>
              obtain ⟨j, hj, rfl, HT, hbi⟩ := hrel
              obtain ⟨c4, hEy⟩ := HYC.out _ hbi
              by_cases hjl : j < ny
              · have hjy : j < ys.length := by rw [HNY.out]; exact hjl
                obtain ⟨gb, go, rfl, y0, _, _⟩ := hEy j hjy
                have HTK : Hid ((ys.map En.o).take (j + 1) = (ys.map En.o).take j ++ [(ys.getD j default).o]) := by
                  show _ = _
                  rw [take_next (by rw [List.length_map]; exact hjy), map_getD hjy]
                obtain ⟨st, hst⟩ : ∃ x, (ys.getD j default).o.st = x := ⟨_, rfl⟩
                rw [hst] at y0
                have HST := Hid.out (p := Hid _) hst
                clear hst hEy
                have HWI : Hid (Below w.heap.size w wr) := (HPQ.out wr (HB9.out.trans (hbi.mono HB9.out.size))).1.1
                by_cases h1 : st = 1
                · subst h1
                  clear HTK HST HT
                  go_wp2
                  go_ret
                  exact ⟨rfl, HWI.out⟩
                · have h1' : (st == 1) = false := by simpa using h1
                  have HT2 : Hid (∀ o, o ∈ (ys.map En.o).take (j + 1) → o.st ≠ 1) := fun o ho => by
                    rw [HTK.out] at ho
                    rcases List.mem_append.mp ho with ho | ho
                    · exact HT.out o ho
                    · rw [List.mem_singleton.mp ho, HST.out]; exact h1
                  clear HTK HST HT h1
                  go_wp2
                  go_roundw
                  case rel => exact ⟨j + 1, by omega, by go_num, HT2, hbi⟩
                  case measure => simp [intOf]; omega
              · obtain rfl : j = ny := by omega
                have HNF : Hid (∀ o, o ∈ ys.map En.o → o.st ≠ 1) := fun o ho => HT.out o (by rw [List.take_of_length_le (by rw [List.length_map, HNY.out]; exact Nat.le_refl _)]; exact ho)
                have HSM : Hid (cutO m (xs.map En.o) = onceL (cutO m (vs.map En.o))) := HSQ.out.same 1 (by omega) _ _ _ HYA.out.1 HNF.out HXA.out.1 HVA.out.1
                have hb0 : Below W2.heap.size W2 wr := HB9.out.trans (hbi.mono HB9.out.size)
                obtain ⟨_, ⟨p0, p1, p2, p3⟩, _⟩ := HPQ.out wr hb0
                have h7i : Below w7.heap.size w7 wr := H79.out.trans (hbi.mono H79.out.size)
                have a4 := (h7i.cell (lt_of_cell HXA.out.2.2.2.2.1)).trans HXA.out.2.2.2.2.1
                have HCX : Hid (∀ V, Below wr.heap.size wr V → Calls Try.prog 12 #[.slice xa xs.length xc, .int .i64 m] V fun e w' => ∃ b d, e = .returned (.slice b (cutEs m xs).length d) ∧ EIn w' b (cutEs m xs) ∧ Below V.heap.size V w') := fun V hV => by
                  have h := h7i.trans (hV.mono h7i.size)
                  exact cutEs_any V xa xs xc m (EIn.below HXA.out.2.1 h) (fun x hx => ⟨(HXA.out.2.2.1 x hx).1.below h, (HXA.out.2.2.1 x hx).2⟩) HXA.out.2.2.2.1 (fun x hx h0 => HSQ.out.wa 1 (by omega) _ HXA.out.1 x.o (List.mem_map.mpr ⟨x, hx, rfl⟩) h0)
                have HXO : Hid (∀ V, Below wr.heap.size wr V → ∀ x, x ∈ cutEs m xs → EnOk V x) := fun V hV x hx => by
                  obtain ⟨e, he, _, rfl⟩ := cut_mem hx
                  exact cut_ok ((HXA.out.2.2.1 e he).1.below (h7i.trans (hV.mono h7i.size)))
                have HXL : Hid ((cutEs m xs).length ≤ 100000 ∧ (cutEs m vs).length ≤ 100000) := ⟨Nat.le_trans (cut_len m xs) HXA.out.2.2.2.1, Nat.le_trans (cut_len m vs) HVA.out.2.2.2.1⟩
                have HCV : Hid (∀ V, Below wr.heap.size wr V → V.cell? ⟨vp, 4, none⟩ = some (.slice vA vs.length vC) ∧ Calls Try.prog 12 #[.slice vA vs.length vC, .int .i64 m] V fun e w' => ∃ b d, e = .returned (.slice b (cutEs m vs).length d) ∧ EIn w' b (cutEs m vs) ∧ Below V.heap.size V w') := fun V hV => by
                  have h := hbi.trans (hV.mono hbi.size)
                  exact ⟨(h.cell (lt_of_cell HVA.out.2.2.2.2.1)).trans HVA.out.2.2.2.2.1, cutEs_any V vA vs vC m (EIn.below HVA.out.2.1 h) (fun x hx => ⟨(HVA.out.2.2.1 x hx).1.below h, (HVA.out.2.2.1 x hx).2⟩) HVA.out.2.2.2.1 (fun x hx h0 => HSQ.out.wb 1 (by omega) _ HVA.out.1 x.o (List.mem_map.mpr ⟨x, hx, rfl⟩) h0)⟩
                have HVO : Hid (∀ V, Below wr.heap.size wr V → ∀ x, x ∈ cutEs m vs → EnOk V x) := fun V hV x hx => by
                  obtain ⟨e, he, _, rfl⟩ := cut_mem hx
                  exact cut_ok ((HVA.out.2.2.1 e he).1.below (hbi.trans (hV.mono hbi.size)))
                have HB0 := Hid.out (p := Hid _) hb0
                clear HT HYC HNF hb0 h7i HYA HXA HVA HNY
                go_wp2_with fail
                refine region_tail 7 (by kernel_rfl) (by kernel_rfl) ?_
                simp only [List.take_succ_cons, List.take_zero, List.drop_succ_cons, List.drop_zero]
                repeat still_step
                refine wpStill_nil ?_
                go_wp2_with fail
                refine Calls.mono (HCX.out _ (Below.refl _ _).drew) ?_
                rintro e w10 ⟨xb, xd, rfl, hEx, hb10⟩
                have hr10 : Below wr.heap.size wr w10 := (Below.refl _ _).drew.trans hb10
                obtain ⟨_, ⟨_, r1, _, _⟩, _⟩ := HPQ.out w10 (HB0.out.trans (hr10.mono HB0.out.size))
                obtain ⟨b4, hcv⟩ := HCV.out w10 hr10
                have HEX : Hid (EIn w10 xb (cutEs m xs) ∧ Below wr.heap.size wr w10) := ⟨hEx, hr10⟩
                clear hEx hb10 hcv p0 p1 p2 p3 a4 c4 HCX
                go_wp2_with fail
                refine region_tail 7 (by kernel_rfl) (by kernel_rfl) ?_
                simp only [List.take_succ_cons, List.take_zero, List.drop_succ_cons, List.drop_zero]
                repeat still_step
                refine wpStill_nil ?_
                go_wp2_with fail
                refine Calls.mono (HCV.out _ hr10.drew).2 ?_
                rintro e w11 ⟨vb, vd, rfl, hEv, hb11⟩
                have h1011 : Below w10.heap.size w10 w11 := (Below.refl _ _).drew.trans hb11
                have HEV : Hid (EIn w11 vb (cutEs m vs) ∧ Below w10.heap.size w10 w11) := ⟨hEv, h1011⟩
                have HON : Hid (Calls Try.prog 13 #[.slice vb (cutEs m vs).length vd] w11 fun e w' => ∃ b d fs, e = .returned (.slice b fs.length d) ∧ EIn w' b fs ∧ (∀ x, x ∈ fs → x ∈ cutEs m vs) ∧ fs.map En.o = onceL ((cutEs m vs).map En.o) ∧ fs.length ≤ (cutEs m vs).length ∧ Below w11.heap.size w11 w') := once_any w11 vb (cutEs m vs) vd hEv (fun x hx => HVO.out w11 (hr10.trans (h1011.mono hr10.size)) x hx) HXL.out.2
                clear hEv hb11 h1011 hr10 r1 b4 HCV
                go_wp2_with fail
                refine Calls.mono HON.out ?_
                rintro e w12 ⟨ob, od, fs, rfl, hEf, hfs, hfo, hfl, hb12⟩
                have HRS : Hid (Calls Try.prog 14 #[.slice xb (cutEs m xs).length xd, .slice ob fs.length od] w12 fun e w' => e = .returned (.bool true) ∧ Below w12.heap.size w12 w') := by
                  have h1012 := HEV.out.2.trans (hb12.mono HEV.out.2.size)
                  have hr12 := HEX.out.2.trans (h1012.mono HEX.out.2.size)
                  have okx := HXO.out w12 hr12
                  have okf : ∀ x, x ∈ fs → EnOk w12 x := fun x hx => HVO.out w12 hr12 x (hfs x hx)
                  have h := rsame_any xb ob ((cutEs m xs).map En.o) (fs.map En.o) xd od (ens_obd (w := w12) HXL.out.1 okx) (ens_obd (w := w12) (Nat.le_trans hfl HXL.out.2) okf) w12 (ens_osin (EIn.below HEX.out.1 h1012) okx) (ens_osin hEf okf)
                  have e : (cutEs m xs).map En.o = fs.map En.o := by rw [hfo, cut_map, cut_map]; exact HSM.out
                  rw [List.length_map, List.length_map, decide_eq_true e] at h
                  exact h
                have HB12 : Hid (Below W2.heap.size W2 w12) := by
                  have h1012 := HEV.out.2.trans (hb12.mono HEV.out.2.size)
                  have hr12 := HEX.out.2.trans (h1012.mono HEX.out.2.size)
                  exact HB0.out.trans (hr12.mono HB0.out.size)
                clear hEf hfs hfo hfl hb12 HON HVO HXO HXL HSM
                go_wp2_with fail
                refine Calls.mono HRS.out ?_
                rintro e w13 ⟨rfl, hb13⟩
                have HB13 : Hid (Below W2.heap.size W2 w13) := HB12.out.trans (hb13.mono HB12.out.size)
                clear hb13 HRS
                go_wp2
                exact ⟨⟨2, by omega, rfl, HB13.out⟩, by simp [intOf]⟩
        · have hw := (HPQ.out _ hbwr).1.1
          have HW := Hid.out (p := Hid _) hw
          clear hw
          go_wp2
          go_ret
          exact ⟨rfl, HW.out⟩

end Go.Proofs.Ytefnmbnakphhfad
