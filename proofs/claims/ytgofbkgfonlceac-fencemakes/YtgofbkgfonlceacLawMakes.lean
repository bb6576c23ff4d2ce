/-
  The law of fences that are put and taken away: the walk.
-/
import Derived.Test.YtgofbkgfonlceacVast
import Derived.Test.YtgofbkgfonlceacZF8
namespace Go.Proofs.Ytgofbkgfonlceac
open Go.RowKit

set_option maxRecDepth 100000 in
set_option maxHeartbeats 800000 in
theorem none_some (w : World) (va : Option Addr) (vn vc : Nat) (ua : Option Addr) (un uc : Nat) (ql qr : Int) (h0 : 0 < vn) (h4 : vn ≤ 4) (h6 : un ≤ 64) : Calls Try.prog 10 #[.agg #[.slice va vn vc, .slice ua un uc, .int .i64 ql, .int .i64 qr]] w fun e w' => e = .returned (.bool false) ∧ Below w.heap.size w w' := by
  have hne : ¬ ((vn : Int) + (un : Int) = 0) := by omega
  have hne' : ((vn : Int) + (un : Int) == 0) = false := by simpa using hne
  go_enter Try.func10, Try.ntmps10
  go_wp2
  go_ret
  exact ⟨rfl, (Below.refl _ _).alloc (Nat.le_refl _) _⟩
/-- What Full says. -/
def FulR (W : World) (cx cy cz lng : Int) (n m : Nat) (lk rg : Int) (MF : World → Option Addr → Option Addr → Prop) (q : Value) (fx fy fz : Int) (w' : World) : Prop :=
  Below W.heap.size W w' ∧ (∀ V, Below w'.heap.size w' V → Calls Try.prog 10 #[q] V fun e w'' => ∃ b, e = .returned (.bool b) ∧ (cx ≠ 0 ∨ 0 ≤ lng → b = true) ∧ Below V.heap.size V w'') ∧
    ((cx ≠ 0 ∧ fx = cx ∧ fy = cy ∧ fz = cz) ∨ (cx = 0 ∧ 0 ≤ lng ∧ fx = 1 ∧ fy = lng ∧ fz = 0) ∨ (cx = 0 ∧ lng = -1 ∧ fx = 0 ∧ ∀ V va vc ua uc, Below w'.heap.size w' V → MF V va ua → Calls Try.prog 12 #[q, .agg #[.slice va n vc, .slice ua m uc, .int .i64 lk, .int .i64 rg]] V fun e w'' => e = .returned (.bool true) ∧ Below V.heap.size V w''))
/-- What Drop says. -/
def DrpR (W : World) (cx cy cz : Int) (n m : Nat) (lk rg : Int) (MD : World → Option Addr → Option Addr → Prop) (r : Value) (gx gy gz : Int) (w' : World) : Prop :=
  Below W.heap.size W w' ∧ (∀ V, Below w'.heap.size w' V → Calls Try.prog 10 #[r] V fun e w'' => ∃ b, e = .returned (.bool b) ∧ (cx ≠ 0 → b = true) ∧ Below V.heap.size V w'') ∧
    ((cx ≠ 0 ∧ gx = cx ∧ gy = cy ∧ gz = cz) ∨ (cx = 0 ∧ gx = 0 ∧ ∀ V va vc ua uc, Below w'.heap.size w' V → MD V va ua → Calls Try.prog 12 #[r, .agg #[.slice va n vc, .slice ua m uc, .int .i64 lk, .int .i64 rg]] V fun e w'' => e = .returned (.bool true) ∧ Below V.heap.size V w''))
set_option maxRecDepth 100000 in
set_option maxHeartbeats 6400000 in
theorem fenceMakes_walk (w : World) (ca : Option Addr) (n cc : Nat) (wa : Option Addr) (m wc : Nat) (lk rg cx cy cz lng : Int) (MF MD : World → Option Addr → Option Addr → Prop) (HS : World → Value → Prop)
    (HV : Hid (∀ W, Below w.heap.size w W → Calls Try.prog 6 #[prgV ca n cc wa m wc lk rg] W fun e w' => ∃ b, e = .returned (.bool b) ∧ Below W.heap.size W w'))
    (HFL : Hid (∀ W, Below w.heap.size w W → Calls Try.prog 7 #[prgV ca n cc wa m wc lk rg] W fun e w' => ∃ (va : Option Addr) (vn vc : Nat) (ua : Option Addr) (un uc : Nat) (ql qr fx fy fz : Int), e = .returned (.tuple #[.agg #[.slice va vn vc, .slice ua un uc, .int .i64 ql, .int .i64 qr], ints3 fx fy fz]) ∧ Hid (FulR W cx cy cz lng n m lk rg MF (.agg #[.slice va vn vc, .slice ua un uc, .int .i64 ql, .int .i64 qr]) fx fy fz w')))
    (HDR : Hid (∀ W, Below w.heap.size w W → Calls Try.prog 8 #[prgV ca n cc wa m wc lk rg] W fun e w' => ∃ (va : Option Addr) (vn vc : Nat) (ua : Option Addr) (un uc : Nat) (ql qr fx fy fz : Int), e = .returned (.tuple #[.agg #[.slice va vn vc, .slice ua un uc, .int .i64 ql, .int .i64 qr], ints3 fx fy fz]) ∧ Hid (DrpR W cx cy cz n m lk rg MD (.agg #[.slice va vn vc, .slice ua un uc, .int .i64 ql, .int .i64 qr]) fx fy fz w')))
    (HCK : Hid (∀ W, Below w.heap.size w W → Calls Try.prog 9 #[prgV ca n cc wa m wc lk rg] W fun e w' => e = .returned (ints3 cx cy cz) ∧ Below W.heap.size W w'))
    (HRD : Hid (cx = 0 → ∀ W, Below w.heap.size w W → Calls Try.prog 11 #[prgV ca n cc wa m wc lk rg] W fun e w' => ∃ (va : Option Addr) (vc : Nat) (ua : Option Addr) (uc : Nat), e = .returned (.agg #[.slice va n vc, .slice ua m uc, .int .i64 lk, .int .i64 rg]) ∧ Hid (∀ V, Below w'.heap.size w' V → MD V va ua) ∧ Below W.heap.size W w'))
    (HST : Hid (cx = 0 → ∀ W, Below w.heap.size w W → Calls Try.prog 13 #[prgV ca n cc wa m wc lk rg] W fun e w' => ∃ (oa : Option Addr) (on oc : Nat), e = .returned (.slice oa on oc) ∧ HS w' (.slice oa on oc) ∧ Below W.heap.size W w'))
    (HWI : Hid (cx = 0 → ∀ W hv, Below w.heap.size w W → HS W hv → Calls Try.prog 14 #[prgV ca n cc wa m wc lk rg, hv] W fun e w' => ∃ (va : Option Addr) (vc : Nat) (ua : Option Addr) (uc : Nat), e = .returned (.agg #[.slice va n vc, .slice ua m uc, .int .i64 lk, .int .i64 rg]) ∧ Hid (∀ gb a b c d V, gb < W.heap.size → Below w'.heap.size ((((w'.setCell ⟨gb, 0, none⟩ a).setCell ⟨gb, 1, none⟩ b).setCell ⟨gb, 2, none⟩ c).setCell ⟨gb, 3, none⟩ d) V → MF V va ua) ∧ Below W.heap.size W w'))
    (HLO : Hid (cx = 0 → ∀ V va vc ua uc, MF V va ua → Calls Try.prog 15 #[.agg #[.slice va n vc, .slice ua m uc, .int .i64 lk, .int .i64 rg]] V fun e w' => e = .returned (.int .i64 lng) ∧ Below V.heap.size V w')) :
    Calls Try.prog 3 #[prgV ca n cc wa m wc lk rg] w fun e w' => e = .returned (.bool true) ∧ Below w.heap.size w w' := by
  obtain ⟨PB, hPB⟩ : ∃ o : Obj, o = .cells #[.slice ca n cc, .slice wa m wc, .int .i64 lk, .int .i64 rg] 25 := ⟨_, rfl⟩
  have hb0 : Below w.heap.size w (w.alloc PB) := (Below.refl _ _).alloc (Nat.le_refl _) _
  have hp0 : (w.alloc PB).heap[w.heap.size]? = some PB := heap_alloc_new _ _
  obtain ⟨W0, hW0⟩ : ∃ V, w.alloc PB = V := ⟨_, rfl⟩
  have HW0 : Hid (w.alloc (.cells #[.slice ca n cc, .slice wa m wc, .int .i64 lk, .int .i64 rg] 25) = W0) := by rw [← hW0, hPB]; exact rfl
  rw [hW0] at hb0 hp0
  rw [hPB] at hp0
  have HB0 : Hid (Below w.heap.size w W0) := hb0
  have HAT : Hid (∀ V, Below W0.heap.size W0 V → Below w.heap.size w V ∧ V.heap[w.heap.size]? = some (.cells #[.slice ca n cc, .slice wa m wc, .int .i64 lk, .int .i64 rg] 25)) := fun V hb => ⟨hb0.trans (hb.mono hb0.size), (hb.block _ (box_lt hp0)).trans hp0⟩
  clear hPB hb0 hp0 hW0
  go_enter Try.func3, Try.ntmps3
  go_wp2_with fail
  rw [HW0.out]
  refine Calls.mono (HV.out _ HB0.out) ?_
  rintro e w1 ⟨b, rfl, hb1⟩
  obtain ⟨hw1, hp1⟩ := HAT.out w1 hb1
  have p0 := box_cell (i := 0) hp1 rfl
  have p1 := box_cell (i := 1) hp1 rfl
  have p2 := box_cell (i := 2) hp1 rfl
  have p3 := box_cell (i := 3) hp1 rfl
  have H1 := Hid.out (p := Hid _) (And.intro hb1 hw1)
  clear HV HW0 hb1 hw1 hp1
  cases b with
  | true =>
    go_wp2_with fail
    go_ret
    exact ⟨rfl, H1.out.2⟩
  | false =>
    go_wp2_with fail
    refine Calls.mono (HFL.out _ H1.out.2) ?_
    rintro e w2 ⟨va, vn, vc, ua, un, uc, ql, qr, fx, fy, fz, rfl, H2⟩
    obtain ⟨QB, hQB⟩ : ∃ o : Obj, o = .cells #[.slice va vn vc, .slice ua un uc, .int .i64 ql, .int .i64 qr] 25 := ⟨_, rfl⟩
    obtain ⟨FB, hFB⟩ : ∃ o : Obj, o = .cells #[.int .i64 fx, .int .i64 fy, .int .i64 fz] 29 := ⟨_, rfl⟩
    have hb02 : Below W0.heap.size W0 w2 := H1.out.1.trans (H2.out.1.mono H1.out.1.size)
    obtain ⟨W2, hW2⟩ : ∃ V, (w2.alloc QB).alloc FB = V := ⟨_, rfl⟩
    have hb22 : Below w2.heap.size w2 W2 := by rw [← hW2]; exact ((Below.refl _ _).alloc (Nat.le_refl _) _).alloc (by simp) _
    have hQ2 : W2.heap[w2.heap.size]? = some QB := by rw [← hW2]; exact box_later (heap_alloc_new _ _) _
    have hF2 : W2.heap[w2.heap.size + 1]? = some FB := by rw [← hW2]; have := heap_alloc_new (w2.alloc QB) FB; simpa using this
    have HW2 : Hid ((w2.alloc (.cells #[.slice va vn vc, .slice ua un uc, .int .i64 ql, .int .i64 qr] 25)).alloc (.cells #[.int .i64 fx, .int .i64 fy, .int .i64 fz] 29) = W2) := by rw [← hW2, hQB, hFB]; exact rfl
    rw [hQB] at hQ2
    rw [hFB] at hF2
    have HA2 : Hid (∀ V, Below W2.heap.size W2 V → Below W0.heap.size W0 V ∧ Below w2.heap.size w2 V ∧ V.heap[w2.heap.size]? = some (.cells #[.slice va vn vc, .slice ua un uc, .int .i64 ql, .int .i64 qr] 25) ∧ V.heap[w2.heap.size + 1]? = some (.cells #[.int .i64 fx, .int .i64 fy, .int .i64 fz] 29)) := fun V hV => ⟨(hb02.trans (hb22.mono hb02.size)).trans (hV.mono (hb02.trans (hb22.mono hb02.size)).size), hb22.trans (hV.mono hb22.size), (hV.block _ (box_lt hQ2)).trans hQ2, (hV.block _ (box_lt hF2)).trans hF2⟩
    have hp2 := (HAT.out w2 hb02).2
    clear p0 p1 p2 p3 hQB hFB hb02 hW2 hb22 hQ2 hF2 H1 HFL
    have p0 := fun o o' => cell_up (cell_up (box_cell (i := 0) hp2 rfl) o) o'
    have p1 := fun o o' => cell_up (cell_up (box_cell (i := 1) hp2 rfl) o) o'
    have p2 := fun o o' => cell_up (cell_up (box_cell (i := 2) hp2 rfl) o) o'
    have p3 := fun o o' => cell_up (cell_up (box_cell (i := 3) hp2 rfl) o) o'
    clear hp2
    go_wp2_with fail
    rw [HW2.out]
    refine Calls.mono (HDR.out _ (HAT.out _ (HA2.out _ (Below.refl _ _)).1).1) ?_
    rintro e w3 ⟨ra, rn, rc, sa, sn, sc, rl, rr, gx, gy, gz, rfl, H3⟩
    clear p0 p1 p2 p3 HW2 HDR
    obtain ⟨RB, hRB⟩ : ∃ o : Obj, o = .cells #[.slice ra rn rc, .slice sa sn sc, .int .i64 rl, .int .i64 rr] 25 := ⟨_, rfl⟩
    obtain ⟨GB, hGB⟩ : ∃ o : Obj, o = .cells #[.int .i64 gx, .int .i64 gy, .int .i64 gz] 29 := ⟨_, rfl⟩
    have hb23 := H3.out.1
    obtain ⟨W3, hW3⟩ : ∃ V, (w3.alloc RB).alloc GB = V := ⟨_, rfl⟩
    have hb33 : Below w3.heap.size w3 W3 := by rw [← hW3]; exact ((Below.refl _ _).alloc (Nat.le_refl _) _).alloc (by simp) _
    have hR3 : W3.heap[w3.heap.size]? = some RB := by rw [← hW3]; exact box_later (heap_alloc_new _ _) _
    have hG3 : W3.heap[w3.heap.size + 1]? = some GB := by rw [← hW3]; have := heap_alloc_new (w3.alloc RB) GB; simpa using this
    have HW3 : Hid ((w3.alloc (.cells #[.slice ra rn rc, .slice sa sn sc, .int .i64 rl, .int .i64 rr] 25)).alloc (.cells #[.int .i64 gx, .int .i64 gy, .int .i64 gz] 29) = W3) := by rw [← hW3, hRB, hGB]; exact rfl
    rw [hRB] at hR3
    rw [hGB] at hG3
    have HA3 : Hid (∀ V, Below W3.heap.size W3 V → Below W2.heap.size W2 V ∧ Below w3.heap.size w3 V ∧ V.heap[w3.heap.size]? = some (.cells #[.slice ra rn rc, .slice sa sn sc, .int .i64 rl, .int .i64 rr] 25) ∧ V.heap[w3.heap.size + 1]? = some (.cells #[.int .i64 gx, .int .i64 gy, .int .i64 gz] 29)) := fun V hV => ⟨(hb23.trans (hb33.mono hb23.size)).trans (hV.mono (hb23.trans (hb33.mono hb23.size)).size), hb33.trans (hV.mono hb33.size), (hV.block _ (box_lt hR3)).trans hR3, (hV.block _ (box_lt hG3)).trans hG3⟩
    have hp3 := (HAT.out w3 (HA2.out w3 hb23).1).2
    clear hRB hGB hb23 hW3 hb33 hR3 hG3
    have p0 := fun o o' => cell_up (cell_up (box_cell (i := 0) hp3 rfl) o) o'
    have p1 := fun o o' => cell_up (cell_up (box_cell (i := 1) hp3 rfl) o) o'
    have p2 := fun o o' => cell_up (cell_up (box_cell (i := 2) hp3 rfl) o) o'
    have p3 := fun o o' => cell_up (cell_up (box_cell (i := 3) hp3 rfl) o) o'
    clear hp3
    go_wp2_with fail
    rw [HW3.out]
    refine Calls.mono (HCK.out _ (HAT.out _ (HA2.out _ (HA3.out _ (Below.refl _ _)).1).1).1) ?_
    rintro e w4 ⟨rfl, hb4⟩
    clear p0 p1 p2 p3 HW3 HCK
    obtain ⟨NB, hNB⟩ : ∃ o : Obj, o = .cells #[.int .i64 cx, .int .i64 cy, .int .i64 cz] 29 := ⟨_, rfl⟩
    obtain ⟨W4, hW4⟩ : ∃ V, w4.alloc NB = V := ⟨_, rfl⟩
    have hb44 : Below w4.heap.size w4 W4 := by rw [← hW4]; exact (Below.refl _ _).alloc (Nat.le_refl _) _
    have hN4 : W4.heap[w4.heap.size]? = some NB := by rw [← hW4]; exact heap_alloc_new _ _
    have HW4 : Hid (w4.alloc (.cells #[.int .i64 cx, .int .i64 cy, .int .i64 cz] 29) = W4) := by rw [← hW4, hNB]; exact rfl
    rw [hNB] at hN4
    have HA4 : Hid (∀ V, Below W4.heap.size W4 V → Below W3.heap.size W3 V ∧ V.heap[w4.heap.size]? = some (.cells #[.int .i64 cx, .int .i64 cy, .int .i64 cz] 29)) := fun V hV => ⟨(hb4.trans (hb44.mono hb4.size)).trans (hV.mono (hb4.trans (hb44.mono hb4.size)).size), (hV.block _ (box_lt hN4)).trans hN4⟩
    have hr4 := (HA3.out w4 hb4).2.2.1
    clear hNB hb4 hW4 hb44 hN4
    have p0 := fun o => cell_up (box_cell (i := 0) hr4 rfl) o
    have p1 := fun o => cell_up (box_cell (i := 1) hr4 rfl) o
    have p2 := fun o => cell_up (box_cell (i := 2) hr4 rfl) o
    have p3 := fun o => cell_up (box_cell (i := 3) hr4 rfl) o
    clear hr4
    go_wp2_with fail
    rw [HW4.out]
    refine Calls.mono (H3.out.2.1 _ (HA3.out _ (HA4.out _ (Below.refl _ _)).1).2.1) ?_
    rintro e w5 ⟨bn, rfl, hbn, hb5⟩
    clear p0 p1 p2 p3 HW4
    obtain ⟨hb35, hn5⟩ := HA4.out w5 hb5
    obtain ⟨hb25, hb3w5, hr5, hg5⟩ := HA3.out w5 hb35
    obtain ⟨hb05, hb2w5, hq5, hf5⟩ := HA2.out w5 hb25
    obtain ⟨hbw5, hp5⟩ := HAT.out w5 hb05
    have H5 := Hid.out (p := Hid _) (And.intro hb5 (And.intro hb2w5 hbw5))
    rcases H3.out.2.2 with ⟨hcx, rfl, rfl, rfl⟩ | ⟨hcx, rfl, HSD⟩
    · obtain rfl := hbn hcx
      have hcx' : (gx != 0) = true := by simpa using hcx
      have hcx2 : (gx == 0) = false := by simpa using hcx
      have n0 := box_cell (i := 0) hn5 rfl
      have q0 := box_cell (i := 0) hq5 rfl
      have q1 := box_cell (i := 1) hq5 rfl
      have q2 := box_cell (i := 2) hq5 rfl
      have q3 := box_cell (i := 3) hq5 rfl
      clear hb35 hb25 hb3w5 hb05 hb2w5 hbw5 hp5 hn5 hr5 hg5 hq5 hf5
      go_wp2_with fail
      refine Calls.mono (H2.out.2.1 _ H5.out.2.1) ?_
      rintro e w6 ⟨be, rfl, hbe, hb6⟩
      obtain rfl := hbe (.inl hcx)
      rcases H2.out.2.2 with ⟨_, rfl, rfl, rfl⟩ | ⟨h, _⟩ | ⟨h, _⟩
      · obtain ⟨hb36, hn6⟩ := HA4.out w6 (H5.out.1.trans (hb6.mono H5.out.1.size))
        obtain ⟨hb26, _, hr6, hg6⟩ := HA3.out w6 hb36
        obtain ⟨hb06, _, hq6, hf6⟩ := HA2.out w6 hb26
        have hbw6 := (HAT.out w6 hb06).1
        have H6 := Hid.out (p := Hid _) hbw6
        clear n0 q0 q1 q2 q3
        have n0 := box_cell (i := 0) hn6 rfl
        have n1 := box_cell (i := 1) hn6 rfl
        have n2 := box_cell (i := 2) hn6 rfl
        have f0 := box_cell (i := 0) hf6 rfl
        have f1 := box_cell (i := 1) hf6 rfl
        have f2 := box_cell (i := 2) hf6 rfl
        have g0 := box_cell (i := 0) hg6 rfl
        have g1 := box_cell (i := 1) hg6 rfl
        have g2 := box_cell (i := 2) hg6 rfl
        clear hb36 hn6 hb26 hr6 hg6 hb06 hq6 hf6 hbw6 hb6 hb5
        go_wp2_with fail
        go_ret
        exact ⟨rfl, H6.out⟩
      · exact absurd h hcx
      · exact absurd h hcx
    · subst hcx
      have n0 := box_cell (i := 0) hn5 rfl
      have p0 := box_cell (i := 0) hp5 rfl
      have p1 := box_cell (i := 1) hp5 rfl
      have p2 := box_cell (i := 2) hp5 rfl
      have p3 := box_cell (i := 3) hp5 rfl
      clear hb35 hb25 hb3w5 hb05 hb2w5 hbw5 hp5 hn5 hr5 hg5 hq5 hf5
      go_wp2_with fail
      refine Calls.mono (HRD.out (by trivial) _ H5.out.2.2) ?_
      rintro e w6 ⟨da, dc, ea, ec, rfl, HD, hb6⟩
      clear n0 p0 p1 p2 p3 HRD
      obtain ⟨DB, hDB⟩ : ∃ o : Obj, o = .cells #[.slice da n dc, .slice ea m ec, .int .i64 lk, .int .i64 rg] 25 := ⟨_, rfl⟩
      have hb46 := H5.out.1.trans (hb6.mono H5.out.1.size)
      obtain ⟨W6, hW6⟩ : ∃ V, w6.alloc DB = V := ⟨_, rfl⟩
      have hb66 : Below w6.heap.size w6 W6 := by rw [← hW6]; exact (Below.refl _ _).alloc (Nat.le_refl _) _
      have hD6 : W6.heap[w6.heap.size]? = some DB := by rw [← hW6]; exact heap_alloc_new _ _
      have HW6 : Hid (w6.alloc (.cells #[.slice da n dc, .slice ea m ec, .int .i64 lk, .int .i64 rg] 25) = W6) := by rw [← hW6, hDB]; exact rfl
      rw [hDB] at hD6
      have HA6 : Hid (∀ V, Below W6.heap.size W6 V → Below W4.heap.size W4 V ∧ V.heap[w6.heap.size]? = some (.cells #[.slice da n dc, .slice ea m ec, .int .i64 lk, .int .i64 rg] 25)) := fun V hV => ⟨(hb46.trans (hb66.mono hb46.size)).trans (hV.mono (hb46.trans (hb66.mono hb46.size)).size), (hV.block _ (box_lt hD6)).trans hD6⟩
      have HB66 := Hid.out (p := Hid _) hb66
      have HL6 : Hid (Below W4.heap.size W4 w6) := hb46
      have hr6 := (HA3.out w6 (HA4.out w6 hb46).1).2.2.1
      clear hDB hb46 hW6 hb66 hD6 hb5 hb6
      have p0 := fun o => cell_up (box_cell (i := 0) hr6 rfl) o
      have p1 := fun o => cell_up (box_cell (i := 1) hr6 rfl) o
      have p2 := fun o => cell_up (box_cell (i := 2) hr6 rfl) o
      have p3 := fun o => cell_up (box_cell (i := 3) hr6 rfl) o
      clear hr6
      go_wp2_with fail
      rw [HW6.out]
      refine Calls.mono (HSD W6 da dc ea ec (HA3.out _ (HA4.out _ (HA6.out _ (Below.refl _ _)).1).1).2.1 (HD.out _ HB66.out)) ?_
      rintro e w7 ⟨rfl, hb7⟩
      clear p0 p1 p2 p3 HW6 HSD HD HB66
      obtain ⟨hb47, hd7⟩ := HA6.out w7 hb7
      obtain ⟨hb37, hn7⟩ := HA4.out w7 hb47
      obtain ⟨hb27, _, hr7, hg7⟩ := HA3.out w7 hb37
      obtain ⟨hb07, _, hq7, hf7⟩ := HA2.out w7 hb27
      obtain ⟨hbw7, hp7⟩ := HAT.out w7 hb07
      have H7 := Hid.out (p := Hid _) (And.intro hb7 hbw7)
      have g0 := box_cell (i := 0) hg7 rfl
      have p0 := box_cell (i := 0) hp7 rfl
      have p1 := box_cell (i := 1) hp7 rfl
      have p2 := box_cell (i := 2) hp7 rfl
      have p3 := box_cell (i := 3) hp7 rfl
      clear hb47 hd7 hb37 hn7 hb27 hr7 hg7 hb07 hq7 hf7 hbw7 hp7 hb7
      go_wp2_with fail
      refine Calls.mono (HST.out (by trivial) _ H7.out.2) ?_
      rintro e w8 ⟨oa, on, oc, rfl, hs8, hb8⟩
      clear g0 p0 p1 p2 p3 HST
      have hb68 := H7.out.1.trans (hb8.mono H7.out.1.size)
      obtain ⟨hb48, hd8⟩ := HA6.out w8 hb68
      obtain ⟨hb38, _⟩ := HA4.out w8 hb48
      obtain ⟨hb28, _⟩ := HA3.out w8 hb38
      obtain ⟨hb08, _⟩ := HA2.out w8 hb28
      obtain ⟨hbw8, hp8⟩ := HAT.out w8 hb08
      have H8 := Hid.out (p := Hid _) (And.intro hb68 (And.intro hbw8 (box_lt hd8)))
      have p0 := box_cell (i := 0) hp8 rfl
      have p1 := box_cell (i := 1) hp8 rfl
      have p2 := box_cell (i := 2) hp8 rfl
      have p3 := box_cell (i := 3) hp8 rfl
      have HS8 := Hid.out (p := Hid _) hs8
      clear hb68 hb48 hd8 hb38 hb28 hb08 hbw8 hp8 hb8 hs8
      go_wp2_with fail
      refine Calls.mono (HWI.out (by trivial) _ _ H8.out.2.1 HS8.out) ?_
      rintro e w9 ⟨ia, ic, ja, jc, rfl, HF, hb9⟩
      clear p0 p1 p2 p3 HWI
      have hb69 := H8.out.1.trans (hb9.mono H8.out.1.size)
      have hd9 := (HA6.out w9 hb69).2
      have d0 := box_cell (i := 0) hd9 rfl
      have d1 := box_cell (i := 1) hd9 rfl
      have d2 := box_cell (i := 2) hd9 rfl
      have d3 := box_cell (i := 3) hd9 rfl
      have df : ∀ i, w9.frozen? ⟨w6.heap.size, i, none⟩ = false := fun i => box_free hd9
      obtain ⟨W9, hW9⟩ : ∃ V, (((w9.setCell ⟨w6.heap.size, 0, none⟩ (.slice ia n ic)).setCell ⟨w6.heap.size, 1, none⟩ (.slice ja m jc)).setCell ⟨w6.heap.size, 2, none⟩ (.int .i64 lk)).setCell ⟨w6.heap.size, 3, none⟩ (.int .i64 rg) = V := ⟨_, rfl⟩
      have hD9 : W9.heap[w6.heap.size]? = some (.cells #[.slice ia n ic, .slice ja m jc, .int .i64 lk, .int .i64 rg] 25) := by
        rw [← hW9, heap_set_same (heap_set_same (heap_set_same (heap_set_same hd9)))]
        rfl
      have hle : w6.heap.size ≤ w6.heap.size := Nat.le_refl _
      have hb49 : Below W4.heap.size W4 W9 := by
        have h1 := HL6.out.size
        rw [← hW9]
        exact ((((HA6.out w9 hb69).1.setCell h1 _).setCell h1 _).setCell h1 _).setCell h1 _
      have HMF : Hid (∀ V, Below W9.heap.size W9 V → MF V ia ja) := fun V hV => HF.out w6.heap.size _ _ _ _ V H8.out.2.2 (by rw [hW9]; exact hV.mono (by rw [← hW9]; simp))
      have HW9 := Hid.out (p := Hid _) hW9
      have HA9 : Hid (∀ V, Below W9.heap.size W9 V → Below W4.heap.size W4 V ∧ V.heap[w6.heap.size]? = some (.cells #[.slice ia n ic, .slice ja m jc, .int .i64 lk, .int .i64 rg] 25)) := fun V hV => ⟨hb49.trans (hV.mono hb49.size), (hV.block _ (box_lt hD9)).trans hD9⟩
      clear hD9 hW9 hle hb49 hb69 hd9 hb9 HF HA6 HL6 H8 H7
      go_wp2_with fail
      rw [HW9.out]
      refine Calls.mono (HLO.out (by trivial) _ _ _ _ _ (HMF.out _ (Below.refl _ _))) ?_
      rintro e w10 ⟨rfl, hb10⟩
      clear d0 d1 d2 d3 df HW9 HLO
      obtain ⟨hb4a, hd10⟩ := HA9.out w10 hb10
      obtain ⟨hb3a, _⟩ := HA4.out w10 hb4a
      obtain ⟨hb2a, _⟩ := HA3.out w10 hb3a
      obtain ⟨hb0a, hb2w, hq10, hf10⟩ := HA2.out w10 hb2a
      have H10 := Hid.out (p := Hid _) (And.intro hb10 hb2w)
      have q0 := box_cell (i := 0) hq10 rfl
      have q1 := box_cell (i := 1) hq10 rfl
      have q2 := box_cell (i := 2) hq10 rfl
      have q3 := box_cell (i := 3) hq10 rfl
      have d0 := box_cell (i := 0) hd10 rfl
      have d1 := box_cell (i := 1) hd10 rfl
      have d2 := box_cell (i := 2) hd10 rfl
      have d3 := box_cell (i := 3) hd10 rfl
      have HMF2 : Hid (MF w10 ia ja) := HMF.out w10 hb10
      have HX : Hid (∀ V, Below w10.heap.size w10 V → Below w.heap.size w V ∧ V.heap[w2.heap.size + 1]? = some (.cells #[.int .i64 fx, .int .i64 fy, .int .i64 fz] 29)) := fun V hV => by
        have h1 := HA2.out V (hb2a.trans (hV.mono hb2a.size))
        exact ⟨(HAT.out V h1.1).1, h1.2.2.2⟩
      clear hb4a hd10 hb3a hb2a hb0a hb2w hq10 hf10 hb10 HA9 HA4 HA3 HA2 HAT HMF
      rcases H2.out.2.2 with ⟨h, _⟩ | ⟨_, hl0, rfl, rfl, rfl⟩ | ⟨_, rfl, rfl, HSF⟩
      · exact absurd rfl h
      · go_wp2_with fail
        refine Calls.mono (H2.out.2.1 _ H10.out.2) ?_
        rintro e w11 ⟨be, rfl, hbe, hb11⟩
        obtain rfl := hbe (.inr hl0)
        obtain ⟨hw11, hf11⟩ := HX.out w11 hb11
        have H11 := Hid.out (p := Hid _) hw11
        have f0 := box_cell (i := 0) hf11 rfl
        have f1 := box_cell (i := 1) hf11 rfl
        have f2 := box_cell (i := 2) hf11 rfl
        clear hw11 hf11 hb11 q0 q1 q2 q3 d0 d1 d2 d3
        go_wp2_with fail
        go_ret
        exact ⟨rfl, H11.out⟩
      · go_wp2_with fail
        refine Calls.mono (HSF _ _ _ _ _ H10.out.2 HMF2.out) ?_
        rintro e w11 ⟨rfl, hb11⟩
        obtain ⟨hw11, hf11⟩ := HX.out w11 hb11
        have H11 := Hid.out (p := Hid _) hw11
        have f0 := box_cell (i := 0) hf11 rfl
        clear hw11 hf11 hb11 q0 q1 q2 q3 d0 d1 d2 d3
        go_wp2_with fail
        go_ret
        exact ⟨rfl, H11.out⟩

end Go.Proofs.Ytgofbkgfonlceac
