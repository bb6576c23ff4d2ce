/-
  The law of fenced programs, by the program's own machines.
-/
import Derived.Test.YtgofbkgfonlceadGreatDoorVastF
import Derived.Deep.RegionHeld3
namespace Go.Proofs.YtgofbkgfonlceadGreatDoor
open Go.RowKit

set_option maxRecDepth 100000 in
set_option maxHeartbeats 6400000 in
theorem topFenced_walk (w : World) (ca : Option Addr) (n cc : Nat) (wa : Option Addr) (m wc : Nat) (lk rg : Int)
    (HV : Hid (∀ W, Below w.heap.size w W → Calls Tryz.prog 10 #[.agg #[.slice ca n cc, .slice wa m wc, .int .i64 lk, .int .i64 rg]] W fun e w' => ∃ b, e = .returned (.bool b) ∧ Below W.heap.size W w'))
    (HLIT : Hid (∀ V, Below w.heap.size w V → Calls Tryz.prog 9 #[.agg #[.slice (some ⟨V.heap.size + 1, 0, none⟩) 1 1, .slice (some ⟨V.heap.size + 1 + 1, 0, none⟩) 1 1, .int .i64 0, .int .i64 1]] (((V.alloc (.cells #[.int .i64 9, .int .i64 0, .int .i64 0, .int .i64 0] 37)).alloc (.cells #[.slice (some ⟨V.heap.size, 0, none⟩) 1 1] 35)).alloc (.cells #[.int .i64 0] 3)) fun e w' => ∃ vb vo vc ua uc ra rc, e = .returned (.tuple #[.agg #[.slice (some ⟨vb, vo, none⟩) 1 vc, .slice ua 1 uc, .int .i64 0, .int .i64 1], ints3 0 0 0]) ∧ w'.cell? ⟨vb, vo, none⟩ = some (.slice ra 2 rc) ∧ Below V.heap.size V w'))
    (HFP : Hid (∀ W, Below w.heap.size w W → Calls Tryz.prog 9 #[.agg #[.slice ca n cc, .slice wa m wc, .int .i64 lk, .int .i64 rg]] W fun e w' => ∃ (va : Option Addr) (vn vc : Nat) (ua : Option Addr) (un uc : Nat) (ql qr fx fy fz : Int), e = .returned (.tuple #[.agg #[.slice va vn vc, .slice ua un uc, .int .i64 ql, .int .i64 qr], ints3 fx fy fz]) ∧ Hid (Below W.heap.size W w' ∧ (fx = 0 → ∀ V, (∀ g, W.heap.size ≤ g → g < w'.heap.size → V.heap[g]? = w'.heap[g]?) → Below w.heap.size w V → w'.heap.size ≤ V.heap.size → Calls Tryz.prog 8 #[.agg #[.slice va vn vc, .slice ua un uc, .int .i64 ql, .int .i64 qr]] V fun e w'' => ∃ r x y z, e = .returned (.tuple #[.bool r, ints3 x y z]) ∧ (x = 0 → r = true) ∧ Below V.heap.size V w'')))) :
    Calls Tryz.prog 4 #[prgV ca n cc wa m wc lk rg] w fun e w' => e = .returned (.bool true) ∧ Below w.heap.size w w' := by
  obtain ⟨PB, hPB⟩ : ∃ o : Obj, o = .cells #[.slice ca n cc, .slice wa m wc, .int .i64 lk, .int .i64 rg] 25 := ⟨_, rfl⟩
  have hb0 : Below w.heap.size w (w.alloc PB) := (Below.refl _ _).alloc (Nat.le_refl _) _
  have hp0 : (w.alloc PB).heap[w.heap.size]? = some PB := heap_alloc_new _ _
  obtain ⟨W0, hW0⟩ : ∃ V, w.alloc PB = V := ⟨_, rfl⟩
  have HW0 : Hid (w.alloc (.cells #[.slice ca n cc, .slice wa m wc, .int .i64 lk, .int .i64 rg] 25) = W0) := by rw [← hW0, hPB]; exact rfl
  have hz0 : W0.heap.size = w.heap.size + 1 := by rw [← hW0]; simp
  rw [hW0] at hb0 hp0
  rw [hPB] at hp0
  have HAT : Hid (∀ V, Below W0.heap.size W0 V → Below w.heap.size w V ∧ V.heap[w.heap.size]? = some (.cells #[.slice ca n cc, .slice wa m wc, .int .i64 lk, .int .i64 rg] 25)) := fun V hb => ⟨hb0.trans (hb.mono hb0.size), (hb.block _ (box_lt hp0)).trans hp0⟩
  have HL0 := HLIT.out W0 hb0
  rw [hz0] at HL0
  have HL := Hid.out (p := Hid _) HL0
  clear hPB hb0 hp0 hW0 HL0 HLIT
  go_enter Tryz.func4, Tryz.ntmps4
  go_wp2_with fail
  rw [HW0.out]
  refine Calls.mono HL.out ?_
  rintro e w2 ⟨vb, vo, vc, ua, uc, ra, rc, rfl, hrow, hb2⟩
  have hb02 : Below W0.heap.size W0 w2 := by rw [hz0]; exact hb2
  obtain ⟨QB, hQB⟩ : ∃ o : Obj, o = .cells #[.slice (some ⟨vb, vo, none⟩) 1 vc, .slice ua 1 uc, .int .i64 0, .int .i64 1] 25 := ⟨_, rfl⟩
  obtain ⟨FB, hFB⟩ : ∃ o : Obj, o = .cells #[.int .i64 0, .int .i64 0, .int .i64 0] 29 := ⟨_, rfl⟩
  obtain ⟨W2, hW2⟩ : ∃ V, (w2.alloc QB).alloc FB = V := ⟨_, rfl⟩
  have hb22 : Below w2.heap.size w2 W2 := by rw [← hW2]; exact ((Below.refl _ _).alloc (Nat.le_refl _) _).alloc (by simp) _
  have hQ2 : W2.heap[w2.heap.size]? = some QB := by rw [← hW2]; exact box_later (heap_alloc_new _ _) _
  have hF2 : W2.heap[w2.heap.size + 1]? = some FB := by rw [← hW2]; have := heap_alloc_new (w2.alloc QB) FB; simpa using this
  have HW2 : Hid ((w2.alloc (.cells #[.slice (some ⟨vb, vo, none⟩) 1 vc, .slice ua 1 uc, .int .i64 0, .int .i64 1] 25)).alloc (.cells #[.int .i64 0, .int .i64 0, .int .i64 0] 29) = W2) := by rw [← hW2, hQB, hFB]; exact rfl
  rw [hQB] at hQ2
  rw [hFB] at hF2
  have hb0W := hb02.trans (hb22.mono hb02.size)
  have HA2 : Hid (∀ V, Below W2.heap.size W2 V → Below W0.heap.size W0 V ∧ V.heap[w2.heap.size]? = some (.cells #[.slice (some ⟨vb, vo, none⟩) 1 vc, .slice ua 1 uc, .int .i64 0, .int .i64 1] 25) ∧ V.heap[w2.heap.size + 1]? = some (.cells #[.int .i64 0, .int .i64 0, .int .i64 0] 29)) := fun V hV => ⟨hb0W.trans (hV.mono hb0W.size), (hV.block _ (box_lt hQ2)).trans hQ2, (hV.block _ (box_lt hF2)).trans hF2⟩
  have hp2 := (HAT.out w2 hb02).2
  have p0 := fun o o' => cell_up (cell_up (box_cell (i := 0) hp2 rfl) o) o'
  have p1 := fun o o' => cell_up (cell_up (box_cell (i := 1) hp2 rfl) o) o'
  have p2 := fun o o' => cell_up (cell_up (box_cell (i := 2) hp2 rfl) o) o'
  have p3 := fun o o' => cell_up (cell_up (box_cell (i := 3) hp2 rfl) o) o'
  have hrw := fun o o' => cell_up (cell_up hrow o) o'
  have hz2 : w.heap.size < w2.heap.size := box_lt hp2
  clear hQB hFB hW2 hb22 hQ2 hF2 hb02 hb0W hp2 hb2 hrow HL HW0
  go_wp2_with fail
  rw [HW2.out]
  refine Calls.mono (HV.out _ (HAT.out _ (HA2.out _ (Below.refl _ _)).1).1) ?_
  rintro e w3 ⟨b, rfl, hb3⟩
  clear p0 p1 p2 p3 hrw HW2 HV
  obtain ⟨hb03, hq3, hf3⟩ := HA2.out w3 hb3
  obtain ⟨hw3, hp3⟩ := HAT.out w3 hb03
  have p0 := box_cell (i := 0) hp3 rfl
  have p1 := box_cell (i := 1) hp3 rfl
  have p2 := box_cell (i := 2) hp3 rfl
  have p3 := box_cell (i := 3) hp3 rfl
  have hz3 : w2.heap.size + 1 < w3.heap.size := box_lt hf3
  have H3 := Hid.out (p := Hid _) (And.intro hw3 hb3)
  clear hb03 hq3 hf3 hw3 hp3 hb3
  cases b with
  | true =>
    go_wp2_with fail
    go_ret
    exact ⟨rfl, H3.out.1⟩
  | false =>
    go_wp2_with fail
    refine Calls.mono (HFP.out _ H3.out.1) ?_
    rintro e w4 ⟨qa, qn, qc, ta, tn, tc, ql, qr, fx, fy, fz, rfl, HF⟩
    clear p0 p1 p2 p3 HFP
    have hb24 := H3.out.2.trans (HF.out.1.mono H3.out.2.size)
    obtain ⟨hb04, hq4, hf4⟩ := HA2.out w4 hb24
    have hw4 := (HAT.out w4 hb04).1
    have q0 := box_cell (i := 0) hq4 rfl
    have q1 := box_cell (i := 1) hq4 rfl
    have q2 := box_cell (i := 2) hq4 rfl
    have q3 := box_cell (i := 3) hq4 rfl
    have qf : ∀ i, w4.frozen? ⟨w2.heap.size, i, none⟩ = false := fun i => box_free hq4
    have f0 := box_cell (i := 0) hf4 rfl
    have f1 := box_cell (i := 1) hf4 rfl
    have f2 := box_cell (i := 2) hf4 rfl
    have ff : ∀ i, w4.frozen? ⟨w2.heap.size + 1, i, none⟩ = false := fun i => box_free hf4
    have hle1 : w.heap.size ≤ w2.heap.size := Nat.le_of_lt hz2
    have hle2 : w.heap.size ≤ w2.heap.size + 1 := by omega
    obtain ⟨V, hV⟩ : ∃ V, ((((((w4.setCell ⟨w2.heap.size, 0, none⟩ (.slice qa qn qc)).setCell ⟨w2.heap.size, 1, none⟩ (.slice ta tn tc)).setCell ⟨w2.heap.size, 2, none⟩ (.int .i64 ql)).setCell ⟨w2.heap.size, 3, none⟩ (.int .i64 qr)).setCell ⟨w2.heap.size + 1, 0, none⟩ (.int .i64 fx)).setCell ⟨w2.heap.size + 1, 1, none⟩ (.int .i64 fy)).setCell ⟨w2.heap.size + 1, 2, none⟩ (.int .i64 fz) = V := ⟨_, rfl⟩
    have hwV : Below w.heap.size w V := by
      rw [← hV]
      exact ((((((hw4.setCell hle1 _).setCell hle1 _).setCell hle1 _).setCell hle1 _).setCell hle2 _).setCell hle2 _).setCell hle2 _
    have hkV : ∀ g, w3.heap.size ≤ g → g < w4.heap.size → V.heap[g]? = w4.heap[g]? := fun g h1 _ => by
      have n1 : g ≠ w2.heap.size := by omega
      have n2 : g ≠ w2.heap.size + 1 := by omega
      rw [← hV, Below.heap_setCell _ _ _ _ n2, Below.heap_setCell _ _ _ _ n2, Below.heap_setCell _ _ _ _ n2, Below.heap_setCell _ _ _ _ n1, Below.heap_setCell _ _ _ _ n1, Below.heap_setCell _ _ _ _ n1, Below.heap_setCell _ _ _ _ n1]
    have hsV : w4.heap.size ≤ V.heap.size := by rw [← hV]; simp
    have HVV := Hid.out (p := Hid _) (And.intro hV (And.intro hwV (And.intro hkV hsV)))
    clear hV hwV hkV hsV hq4 hf4 hw4 hb04 hb24 HA2 HAT H3
    by_cases hx : fx = 0
    · subst hx
      go_wp2_with fail
      rw [HVV.out.1]
      refine Calls.mono (HF.out.2 (by trivial) V HVV.out.2.2.1 HVV.out.2.1 HVV.out.2.2.2) ?_
      rintro e w5 ⟨r, x, y, z, rfl, hr, hb5⟩
      have hw5 := HVV.out.2.1.trans (hb5.mono HVV.out.2.1.size)
      have H5 := Hid.out (p := Hid _) hw5
      clear HF HVV hb5 hw5 q0 q1 q2 q3 qf f0 f1 f2 ff
      by_cases hx2 : x = 0
      · subst hx2
        obtain rfl := hr rfl
        go_wp2_with fail
        go_ret
        exact ⟨rfl, H5.out.alloc H5.out.size _⟩
      · have hx' : (x != 0) = true := by simpa using hx2
        go_wp2_with fail
        go_ret
        exact ⟨rfl, H5.out.alloc H5.out.size _⟩
    · have hx' : (fx != 0) = true := by simpa using hx
      go_wp2_with fail
      go_ret
      exact ⟨rfl, by rw [HVV.out.1]; exact HVV.out.2.1⟩

end Go.Proofs.YtgofbkgfonlceadGreatDoor
