/-
  The law of programs with words in place of their locks: the walk.
-/
import Derived.Test.YtefnmbnakphhfadSLnk3
import Derived.Test.YtefnmbnakphhfadZSP3
import Derived.Test.YtefnmbnakphhfadNewM
import Derived.Test.YtefnmbnakphhfadCheckR3
import Derived.Test.YtefnmbnakphhfadVast
import Derived.Test.YtefnmbnakphhfadPChk
import Derived.Deep.RegionHeld3
namespace Go.Proofs.Ytefnmbnakphhfad
open Go.RowKit

/-- What Link says. -/
def LnkR (W : World) (cx cy cz lng : Int) (n m l2 : Nat) (lk rg : Int) (MF : World → Option Addr → Option Addr → Prop) (q : Value) (fx fy fz : Int) (w' : World) : Prop :=
  Below W.heap.size W w' ∧ ((cx ≠ 0 ∧ fx = cx ∧ fy = cy ∧ fz = cz ∧ ∀ V, Calls Try.prog 10 #[q] V fun e w'' => e = .returned (.bool true) ∧ Below V.heap.size V w'') ∨
    (cx = 0 ∧ 6 < rg ∧ fx = 3 ∧ fy = 0 ∧ fz = 0 ∧ ∀ V, Calls Try.prog 10 #[q] V fun e w'' => e = .returned (.bool true) ∧ Below V.heap.size V w'') ∨
    (cx = 0 ∧ rg ≤ 6 ∧ 64 < (m : Int) + lk ∧ fx = 1 ∧ fy = 0 ∧ fz = 0 ∧ ∀ V, Calls Try.prog 10 #[q] V fun e w'' => e = .returned (.bool true) ∧ Below V.heap.size V w'') ∨
    (cx = 0 ∧ rg ≤ 6 ∧ (m : Int) + lk ≤ 64 ∧ 0 ≤ lng ∧ fx = 1 ∧ fy = lng ∧ fz = 0 ∧ ∀ V, Calls Try.prog 10 #[q] V fun e w'' => e = .returned (.bool true) ∧ Below V.heap.size V w'') ∨
    (cx = 0 ∧ rg ≤ 6 ∧ (m : Int) + lk ≤ 64 ∧ lng < 0 ∧ fx = 0 ∧ ∀ V va vc ua uc, Below w'.heap.size w' V → MF V va ua → Calls Try.prog 9 #[q, .agg #[.slice va n vc, .slice ua l2 uc, .int .i64 0, .int .i64 8]] V fun e w'' => e = .returned (.bool true) ∧ Below V.heap.size V w''))
set_option maxRecDepth 100000 in
set_option maxHeartbeats 6400000 in
theorem spinLinks_walk (w : World) (ca : Option Addr) (n cc : Nat) (wa : Option Addr) (m wc : Nat) (lk rg cx cy cz lng : Int) (l2 : Nat) (MF : World → Option Addr → Option Addr → Prop) (hcb : cx = 0 → m ≤ 64 ∧ 0 ≤ lk ∧ lk ≤ 4)
    (HV : Hid (∀ W, Below w.heap.size w W → Calls Try.prog 5 #[prgV ca n cc wa m wc lk rg] W fun e w' => ∃ b, e = .returned (.bool b) ∧ Below W.heap.size W w'))
    (HFL : Hid (∀ W, Below w.heap.size w W → Calls Try.prog 6 #[prgV ca n cc wa m wc lk rg] W fun e w' => ∃ (va : Option Addr) (vn vc : Nat) (ua : Option Addr) (un uc : Nat) (ql qr fx fy fz : Int), e = .returned (.tuple #[.agg #[.slice va vn vc, .slice ua un uc, .int .i64 ql, .int .i64 qr], ints3 fx fy fz]) ∧ Hid (LnkR W cx cy cz lng n m l2 lk rg MF (.agg #[.slice va vn vc, .slice ua un uc, .int .i64 ql, .int .i64 qr]) fx fy fz w')))
    (HCK : Hid (∀ W, Below w.heap.size w W → Calls Try.prog 7 #[prgV ca n cc wa m wc lk rg] W fun e w' => e = .returned (ints3 cx cy cz) ∧ Below W.heap.size W w'))
    (HRL : Hid (cx = 0 → rg ≤ 6 → (m : Int) + lk ≤ 64 → ∀ W, Below w.heap.size w W → Calls Try.prog 8 #[prgV ca n cc wa m wc lk rg] W fun e w' => ∃ (va : Option Addr) (vc : Nat) (ua : Option Addr) (uc : Nat), e = .returned (.tuple #[.agg #[.slice va n vc, .slice ua l2 uc, .int .i64 0, .int .i64 8], .int .i64 lng]) ∧ Hid (∀ V, Below w'.heap.size w' V → MF V va ua) ∧ Below W.heap.size W w')) :
    Calls Try.prog 3 #[prgV ca n cc wa m wc lk rg] w fun e w' => e = .returned (.bool true) ∧ Below w.heap.size w w' := by
  obtain ⟨PB, hPB⟩ : ∃ o : Obj, o = .cells #[.slice ca n cc, .slice wa m wc, .int .i64 lk, .int .i64 rg] 25 := ⟨_, rfl⟩
  have hb0 : Below w.heap.size w (w.alloc PB) := (Below.refl _ _).alloc (Nat.le_refl _) _
  have hp0 : (w.alloc PB).heap[w.heap.size]? = some PB := heap_alloc_new _ _
  obtain ⟨W0, hW0⟩ : ∃ V, w.alloc PB = V := ⟨_, rfl⟩
  have HW0 : Hid (w.alloc (.cells #[.slice ca n cc, .slice wa m wc, .int .i64 lk, .int .i64 rg] 25) = W0) := by rw [← hW0, hPB]; exact rfl
  rw [hW0] at hb0 hp0
  rw [hPB] at hp0
  have HB0 : Hid (Below w.heap.size w W0) := hb0
  have HAT : Hid (∀ V, Below W0.heap.size W0 V → Below w.heap.size w V ∧ V.heap[w.heap.size]? = some (.cells #[.slice ca n cc, .slice wa m wc, .int .i64 lk, .int .i64 rg] 25)) := fun V hb => ⟨hb0.trans (hb.mono hb0.size), (hb.block _ (box_lt hp0)).trans hp0⟩
  clear hPB hb0 hp0 hW0
  go_enter Try.func3, Try.ntmps3
  go_wp2_with fail
  rw [HW0.out]
  refine Calls.mono (HV.out _ HB0.out) ?_
  rintro e w1 ⟨b, rfl, hb1⟩
  obtain ⟨hw1, hp1⟩ := HAT.out w1 hb1
  have p0 := box_cell (i := 0) hp1 rfl
  have p1 := box_cell (i := 1) hp1 rfl
  have p2 := box_cell (i := 2) hp1 rfl
  have p3 := box_cell (i := 3) hp1 rfl
  have H1 := Hid.out (p := Hid _) (And.intro hb1 hw1)
  clear HV HW0 hb1 hw1 hp1
  cases b with
  | true =>
    go_wp2_with fail
    go_ret
    exact ⟨rfl, H1.out.2⟩
  | false =>
    go_wp2_with fail
    refine Calls.mono (HFL.out _ H1.out.2) ?_
    rintro e w2 ⟨va, vn, vc, ua, un, uc, ql, qr, fx, fy, fz, rfl, H2⟩
    obtain ⟨QB, hQB⟩ : ∃ o : Obj, o = .cells #[.slice va vn vc, .slice ua un uc, .int .i64 ql, .int .i64 qr] 25 := ⟨_, rfl⟩
    obtain ⟨FB, hFB⟩ : ∃ o : Obj, o = .cells #[.int .i64 fx, .int .i64 fy, .int .i64 fz] 29 := ⟨_, rfl⟩
    have hb02 : Below W0.heap.size W0 w2 := H1.out.1.trans (H2.out.1.mono H1.out.1.size)
    obtain ⟨W2, hW2⟩ : ∃ V, (w2.alloc QB).alloc FB = V := ⟨_, rfl⟩
    have hb22 : Below w2.heap.size w2 W2 := by rw [← hW2]; exact ((Below.refl _ _).alloc (Nat.le_refl _) _).alloc (by simp) _
    have hQ2 : W2.heap[w2.heap.size]? = some QB := by rw [← hW2]; exact box_later (heap_alloc_new _ _) _
    have hF2 : W2.heap[w2.heap.size + 1]? = some FB := by rw [← hW2]; have := heap_alloc_new (w2.alloc QB) FB; simpa using this
    have HW2 : Hid ((w2.alloc (.cells #[.slice va vn vc, .slice ua un uc, .int .i64 ql, .int .i64 qr] 25)).alloc (.cells #[.int .i64 fx, .int .i64 fy, .int .i64 fz] 29) = W2) := by rw [← hW2, hQB, hFB]; exact rfl
    rw [hQB] at hQ2
    rw [hFB] at hF2
    have HA2 : Hid (∀ V, Below W2.heap.size W2 V → Below W0.heap.size W0 V ∧ Below w2.heap.size w2 V ∧ V.heap[w2.heap.size]? = some (.cells #[.slice va vn vc, .slice ua un uc, .int .i64 ql, .int .i64 qr] 25) ∧ V.heap[w2.heap.size + 1]? = some (.cells #[.int .i64 fx, .int .i64 fy, .int .i64 fz] 29)) := fun V hV => ⟨(hb02.trans (hb22.mono hb02.size)).trans (hV.mono (hb02.trans (hb22.mono hb02.size)).size), hb22.trans (hV.mono hb22.size), (hV.block _ (box_lt hQ2)).trans hQ2, (hV.block _ (box_lt hF2)).trans hF2⟩
    have hp2 := (HAT.out w2 hb02).2
    clear p0 p1 p2 p3 hQB hFB hb02 hW2 hb22 hQ2 hF2 H1 HFL
    have p0 := fun o o' => cell_up (cell_up (box_cell (i := 0) hp2 rfl) o) o'
    have p1 := fun o o' => cell_up (cell_up (box_cell (i := 1) hp2 rfl) o) o'
    have p2 := fun o o' => cell_up (cell_up (box_cell (i := 2) hp2 rfl) o) o'
    have p3 := fun o o' => cell_up (cell_up (box_cell (i := 3) hp2 rfl) o) o'
    clear hp2
    go_wp2_with fail
    rw [HW2.out]
    refine Calls.mono (HCK.out _ (HAT.out _ (HA2.out _ (Below.refl _ _)).1).1) ?_
    rintro e w4 ⟨rfl, hb4⟩
    clear p0 p1 p2 p3 HW2 HCK
    obtain ⟨NB, hNB⟩ : ∃ o : Obj, o = .cells #[.int .i64 cx, .int .i64 cy, .int .i64 cz] 29 := ⟨_, rfl⟩
    obtain ⟨W4, hW4⟩ : ∃ V, w4.alloc NB = V := ⟨_, rfl⟩
    have hb44 : Below w4.heap.size w4 W4 := by rw [← hW4]; exact (Below.refl _ _).alloc (Nat.le_refl _) _
    have hN4 : W4.heap[w4.heap.size]? = some NB := by rw [← hW4]; exact heap_alloc_new _ _
    have HW4 : Hid (w4.alloc (.cells #[.int .i64 cx, .int .i64 cy, .int .i64 cz] 29) = W4) := by rw [← hW4, hNB]; exact rfl
    rw [hNB] at hN4
    have HA4 : Hid (∀ V, Below W4.heap.size W4 V → Below W2.heap.size W2 V ∧ V.heap[w4.heap.size]? = some (.cells #[.int .i64 cx, .int .i64 cy, .int .i64 cz] 29)) := fun V hV => ⟨(hb4.trans (hb44.mono hb4.size)).trans (hV.mono (hb4.trans (hb44.mono hb4.size)).size), (hV.block _ (box_lt hN4)).trans hN4⟩
    obtain ⟨hb04, _, hq4, hf4⟩ := HA2.out w4 hb4
    obtain ⟨hbw4, hp4⟩ := HAT.out w4 hb04
    have H4 := Hid.out (p := Hid _) (And.intro hb4 hbw4)
    clear hNB hb44 hW4 hN4 hb4 hbw4 hb04
    have p0 := box_cell (i := 0) hp4 rfl
    have p1 := box_cell (i := 1) hp4 rfl
    have p2 := box_cell (i := 2) hp4 rfl
    have p3 := box_cell (i := 3) hp4 rfl
    have pu0 := cell_up p0
    have pu1 := cell_up p1
    have pu2 := cell_up p2
    have pu3 := cell_up p3
    have q0 := box_cell (i := 0) hq4 rfl
    have q1 := box_cell (i := 1) hq4 rfl
    have q2 := box_cell (i := 2) hq4 rfl
    have q3 := box_cell (i := 3) hq4 rfl
    have f0 := box_cell (i := 0) hf4 rfl
    have f1 := box_cell (i := 1) hf4 rfl
    have f2 := box_cell (i := 2) hf4 rfl
    have qu0 := cell_up q0
    have qu1 := cell_up q1
    have qu2 := cell_up q2
    have qu3 := cell_up q3
    have fu0 := cell_up f0
    have fu1 := cell_up f1
    have fu2 := cell_up f2
    have hl4 : w2.heap.size + 1 < w4.heap.size := box_lt hf4
    have hlp : w.heap.size < w4.heap.size := box_lt hp4
    have HFN : Hid (∀ (a b c : Value) V, Below (w4.alloc (.cells #[a, b, c] 29)).heap.size (w4.alloc (.cells #[a, b, c] 29)) V → (Below W2.heap.size W2 V ∧ Below w.heap.size w V) ∧ (V.cell? ⟨w2.heap.size, 0, none⟩ = some (.slice va vn vc) ∧ V.cell? ⟨w2.heap.size, 1, none⟩ = some (.slice ua un uc) ∧ V.cell? ⟨w2.heap.size, 2, none⟩ = some (.int .i64 ql) ∧ V.cell? ⟨w2.heap.size, 3, none⟩ = some (.int .i64 qr)) ∧ (V.cell? ⟨w2.heap.size + 1, 0, none⟩ = some (.int .i64 fx) ∧ V.cell? ⟨w2.heap.size + 1, 1, none⟩ = some (.int .i64 fy) ∧ V.cell? ⟨w2.heap.size + 1, 2, none⟩ = some (.int .i64 fz)) ∧ V.heap[w4.heap.size]? = some (.cells #[a, b, c] 29)) := fun a b c V hV => by
      have h1 : Below w4.heap.size w4 V := ((Below.refl _ _).alloc (Nat.le_refl _) _).trans (hV.mono (by simp))
      have h2 : Below W2.heap.size W2 V := H4.out.1.trans (h1.mono H4.out.1.size)
      obtain ⟨h3, _, h4, h5⟩ := HA2.out V h2
      exact ⟨⟨h2, (HAT.out V h3).1⟩, ⟨box_cell h4 rfl, box_cell h4 rfl, box_cell h4 rfl, box_cell h4 rfl⟩, ⟨box_cell h5 rfl, box_cell h5 rfl, box_cell h5 rfl⟩, (hV.block _ (by simp)).trans (heap_alloc_new _ _)⟩
    clear hp4 hq4 hf4
    rcases H2.out.2 with ⟨hx, rfl, rfl, rfl, hN⟩ | ⟨rfl, h6, rfl, rfl, rfl, hN⟩ | ⟨rfl, h6, h64, rfl, rfl, rfl, hN⟩ | ⟨rfl, h6, h64, hl, rfl, rfl, rfl, hN⟩ | ⟨rfl, h6, h64, hl, rfl, hS⟩
    · have hx' : (fx == 0) = false := by simpa using hx
      have HN := Hid.out (p := Hid _) hN
      clear hN H2 HRL HA4 HA2 HAT
      go_wp2_with fail
      refine Calls.mono (HN.out _) ?_
      rintro e w5 ⟨rfl, hb5⟩
      obtain ⟨hbw5, _, ⟨g0, g1, g2⟩, hn5⟩ := HFN.out _ _ _ w5 hb5
      have n0 := box_cell (i := 0) hn5 rfl
      have n1 := box_cell (i := 1) hn5 rfl
      have n2 := box_cell (i := 2) hn5 rfl
      have H5 := Hid.out (p := Hid _) hbw5
      clear hb5 hn5 hbw5 HFN HN
      go_wp2
      go_ret
      exact ⟨rfl, H5.out.2⟩
    · have HN := Hid.out (p := Hid _) hN
      obtain ⟨h64, hk0, hk4⟩ := hcb rfl
      clear hN H2 HRL HA4 HA2 HAT
      go_wp2_with fail
      refine Calls.mono (HN.out _) ?_
      rintro e w5 ⟨rfl, hb5⟩
      obtain ⟨hbw5, _, ⟨g0, g1, g2⟩, hn5⟩ := HFN.out _ _ _ w5 hb5
      have n0 := box_cell (i := 0) hn5 rfl
      have n1 := box_cell (i := 1) hn5 rfl
      have n2 := box_cell (i := 2) hn5 rfl
      have H5 := Hid.out (p := Hid _) hbw5
      clear hb5 hn5 hbw5 HFN HN
      go_wp2
      go_ret
      exact ⟨rfl, H5.out.2⟩
    · have HN := Hid.out (p := Hid _) hN
      obtain ⟨hm64, hk0, hk4⟩ := hcb rfl
      clear hN H2 HRL HA4 HA2 HAT
      go_wp2_with fail
      refine Calls.mono (HN.out _) ?_
      rintro e w5 ⟨rfl, hb5⟩
      obtain ⟨hbw5, _, ⟨g0, g1, g2⟩, hn5⟩ := HFN.out _ _ _ w5 hb5
      have n0 := box_cell (i := 0) hn5 rfl
      have n1 := box_cell (i := 1) hn5 rfl
      have n2 := box_cell (i := 2) hn5 rfl
      have H5 := Hid.out (p := Hid _) hbw5
      clear hb5 hn5 hbw5 HFN HN
      go_wp2
      go_ret
      exact ⟨rfl, H5.out.2⟩
    · have HN := Hid.out (p := Hid _) hN
      obtain ⟨hm64, hk0, hk4⟩ := hcb rfl
      have HR := HRL.out rfl h6 h64
      have HR := Hid.out (p := Hid _) HR
      clear hN H2 HRL HA4 HA2 HAT
      go_wp2_with fail
      refine Calls.mono (HR.out _ (H4.out.2.alloc H4.out.2.size _)) ?_
      rintro e w6 ⟨wva, wvc, wua, wuc, rfl, _, hb6⟩
      obtain ⟨hbw6, ⟨k0, k1, k2, k3⟩, ⟨g0, g1, g2⟩, hn6⟩ := HFN.out _ _ _ w6 hb6
      have H6 := Hid.out (p := Hid _) hbw6
      have n0 := box_cell (i := 0) hn6 rfl
      have n1 := box_cell (i := 1) hn6 rfl
      have n2 := box_cell (i := 2) hn6 rfl
      have nf : ∀ i, w6.frozen? ⟨w4.heap.size, i, none⟩ = false := fun i => box_free hn6
      have hl6 : w4.heap.size < w6.heap.size := box_lt hn6
      have hl' : ¬ fy < 0 := by omega
      have e1 : w2.heap.size ≠ w4.heap.size := by omega
      have e2 : w2.heap.size + 1 ≠ w4.heap.size := by omega
      have e3 : w4.heap.size ≠ w2.heap.size := by omega
      have e4 : w4.heap.size ≠ w2.heap.size + 1 := by omega
      obtain ⟨W7, hW7⟩ : ∃ V, ((w6.setCell ⟨w4.heap.size, 0, none⟩ (.int .i64 1)).setCell ⟨w4.heap.size, 1, none⟩ (.int .i64 fy)).setCell ⟨w4.heap.size, 2, none⟩ (.int .i64 0) = V := ⟨_, rfl⟩
      have ku0 : ∀ o, ((((w6.setCell ⟨w4.heap.size, 0, none⟩ (.int .i64 1)).setCell ⟨w4.heap.size, 1, none⟩ (.int .i64 fy)).setCell ⟨w4.heap.size, 2, none⟩ (.int .i64 0)).alloc o).cell? ⟨w2.heap.size, 0, none⟩ = some (.slice va vn vc) := fun o => cell_up (cell_far4 (cell_far4 (cell_far4 k0 e1) e1) e1) o
      have ku1 : ∀ o, ((((w6.setCell ⟨w4.heap.size, 0, none⟩ (.int .i64 1)).setCell ⟨w4.heap.size, 1, none⟩ (.int .i64 fy)).setCell ⟨w4.heap.size, 2, none⟩ (.int .i64 0)).alloc o).cell? ⟨w2.heap.size, 1, none⟩ = some (.slice ua un uc) := fun o => cell_up (cell_far4 (cell_far4 (cell_far4 k1 e1) e1) e1) o
      have ku2 : ∀ o, ((((w6.setCell ⟨w4.heap.size, 0, none⟩ (.int .i64 1)).setCell ⟨w4.heap.size, 1, none⟩ (.int .i64 fy)).setCell ⟨w4.heap.size, 2, none⟩ (.int .i64 0)).alloc o).cell? ⟨w2.heap.size, 2, none⟩ = some (.int .i64 ql) := fun o => cell_up (cell_far4 (cell_far4 (cell_far4 k2 e1) e1) e1) o
      have ku3 : ∀ o, ((((w6.setCell ⟨w4.heap.size, 0, none⟩ (.int .i64 1)).setCell ⟨w4.heap.size, 1, none⟩ (.int .i64 fy)).setCell ⟨w4.heap.size, 2, none⟩ (.int .i64 0)).alloc o).cell? ⟨w2.heap.size, 3, none⟩ = some (.int .i64 qr) := fun o => cell_up (cell_far4 (cell_far4 (cell_far4 k3 e1) e1) e1) o
      have hgu0 := cell_far4 (o' := 2) (u := .int .i64 0) (cell_far4 (o' := 1) (u := .int .i64 fy) (cell_far4 (o' := 0) (u := .int .i64 1) g0 e2) e2) e2
      have hgu1 := cell_far4 (o' := 2) (u := .int .i64 0) (cell_far4 (o' := 1) (u := .int .i64 fy) (cell_far4 (o' := 0) (u := .int .i64 1) g1 e2) e2) e2
      have hgu2 := cell_far4 (o' := 2) (u := .int .i64 0) (cell_far4 (o' := 1) (u := .int .i64 fy) (cell_far4 (o' := 0) (u := .int .i64 1) g2 e2) e2) e2
      have hn7 : W7.heap[w4.heap.size]? = some (.cells #[.int .i64 1, .int .i64 fy, .int .i64 0] 29) := by
        rw [← hW7, heap_set_same (heap_set_same (heap_set_same hn6))]
        rfl
      have hle : w.heap.size ≤ w4.heap.size := by omega
      have hbw7 : Below w.heap.size w W7 := by rw [← hW7]; exact ((hbw6.2.setCell hle _).setCell hle _).setCell hle _
      rw [hW7] at hgu0 hgu1 hgu2
      have HF7 : Hid (∀ (o : Obj) V, Below (W7.alloc o).heap.size (W7.alloc o) V → Below w.heap.size w V ∧ (V.cell? ⟨w2.heap.size + 1, 0, none⟩ = some (.int .i64 1) ∧ V.cell? ⟨w2.heap.size + 1, 1, none⟩ = some (.int .i64 fy) ∧ V.cell? ⟨w2.heap.size + 1, 2, none⟩ = some (.int .i64 0)) ∧ V.heap[w4.heap.size]? = some (.cells #[.int .i64 1, .int .i64 fy, .int .i64 0] 29)) := fun o V hV => by
        have h1 : Below W7.heap.size W7 V := ((Below.refl _ _).alloc (Nat.le_refl _) _).trans (hV.mono (by simp))
        exact ⟨hbw7.trans (h1.mono hbw7.size), ⟨(h1.cell (lt_of_cell hgu0)).trans hgu0, (h1.cell (lt_of_cell hgu1)).trans hgu1, (h1.cell (lt_of_cell hgu2)).trans hgu2⟩, (h1.block _ (box_lt hn7)).trans hn7⟩
      have HW7 := Hid.out (p := Hid _) hW7
      clear hb6 hbw6 HFN HR p0 p1 p2 p3 pu0 pu1 pu2 pu3 q0 q1 q2 q3 qu0 qu1 qu2 qu3 f0 f1 f2 fu0 fu1 fu2 hn6 hgu0 hgu1 hgu2 hn7 hbw7 hW7 k0 k1 k2 k3 g0 g1 g2
      go_wp2_with fail
      rw [HW7.out]
      refine Calls.mono (HN.out _) ?_
      rintro e w8 ⟨rfl, hb8⟩
      obtain ⟨hbw8, ⟨g0, g1, g2⟩, hn8⟩ := HF7.out _ w8 hb8
      have n0 := box_cell (i := 0) hn8 rfl
      have n1 := box_cell (i := 1) hn8 rfl
      have n2 := box_cell (i := 2) hn8 rfl
      have H8 := Hid.out (p := Hid _) hbw8
      clear hb8 hn8 hbw8 HF7 HN ku0 ku1 ku2 ku3 nf
      go_wp2
      go_ret
      exact ⟨rfl, H8.out⟩
    · have HS := Hid.out (p := Hid _) hS
      obtain ⟨hm64, hk0, hk4⟩ := hcb rfl
      have HR := HRL.out rfl h6 h64
      have HR := Hid.out (p := Hid _) HR
      clear hS HRL
      go_wp2_with fail
      refine Calls.mono (HR.out _ (H4.out.2.alloc H4.out.2.size _)) ?_
      rintro e w6 ⟨wva, wvc, wua, wuc, rfl, HM, hb6⟩
      obtain ⟨hbw6, ⟨k0, k1, k2, k3⟩, ⟨g0, g1, g2⟩, hn6⟩ := HFN.out _ _ _ w6 hb6
      have hw26 := (HA2.out w6 hbw6.1).2.1
      have H6 := Hid.out (p := Hid _) (And.intro hbw6.2 hw26)
      have ku0 := cell_up k0
      have ku1 := cell_up k1
      have ku2 := cell_up k2
      have ku3 := cell_up k3
      have hg := fun (V : World) (hV : Below w6.heap.size w6 V) => (hV.cell (lt_of_cell g0)).trans g0
      have HG := Hid.out (p := Hid _) hg
      clear hg hb6 hbw6 hw26 HFN HR hn6 HA2 HA4 HAT p0 p1 p2 p3 pu0 pu1 pu2 pu3 q0 q1 q2 q3 qu0 qu1 qu2 qu3 f0 f1 f2 fu0 fu1 fu2 g0 g1 g2
      go_wp2_with fail
      have hbB : ∀ o, Below w6.heap.size w6 (w6.alloc o) := fun o => (Below.refl _ _).alloc (Nat.le_refl _) _
      refine Calls.mono (HS.out _ wva wvc wua wuc (H6.out.2.alloc H6.out.2.size _) (HM.out _ (hbB _))) ?_
      rintro e w7 ⟨rfl, hb7⟩
      have g0 := HG.out w7 ((hbB _).trans (hb7.mono (by simp)))
      have H7 := Hid.out (p := Hid _) (H6.out.1.trans (((hbB _).trans (hb7.mono (by simp))).mono H6.out.1.size))
      clear hb7 hbB HS HM HG
      go_wp2
      go_ret
      exact ⟨rfl, H7.out⟩

end Go.Proofs.Ytefnmbnakphhfad
