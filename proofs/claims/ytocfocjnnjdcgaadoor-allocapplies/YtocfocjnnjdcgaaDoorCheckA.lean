/-
  What the program's Check does.
-/
import Derived.Test.YtocfocjnnjdcgaaDoorInProg
namespace Go.Proofs.YtocfocjnnjdcgaaDoor
open Go.RowKit

theorem ret3 {a b c x y z : Int} (h : (x, y, z) = (a, b, c)) : Ending.returned (ints3 a b c) = .returned (ints3 x y z) := by
  simp only [Prod.mk.injEq] at h
  obtain ⟨rfl, rfl, rfl⟩ := h
  rfl

set_option maxHeartbeats 1000000 in
theorem check_sizes (ca : Option Addr) (n cc : Nat) (wa : Option Addr) (m wc : Nat) (lk rg : Int) (s : Int) (HS : Hid (s = sizesE n m lk rg)) (h0 : (s != 0) = true) (w : World) :
    Calls Tryd.prog 41 #[prgV ca n cc wa m wc lk rg] w fun e w' => e = .returned (ints3 s 0 0) ∧ Below w.heap.size w w' := by
  go_enter Tryd.func41, Tryd.ntmps41
  go_wp2_with (first | (go_at_call 65; refine (checkSizes_any _ _ _ _ _ _ _ _ _).mono ?_; rintro e w1 ⟨rfl, hb1⟩; rw [← HS.out]; have hbx := (boxes_made w ca n cc wa m wc lk rg 25 30).below hb1; obtain ⟨hsz, p0, p1, p2, p3, r0, r1, r2, f0, f1, f2⟩ := hbx))
  exact bodyPost_ret (v := ints3 s 0 0) (by simp [results, Tryd.results41, go_sem, r0, r1, r2]) rfl
    ⟨rfl, ((((((Below.refl _ _).alloc (Nat.le_refl _) _).alloc (by simp) _).trans (hb1.mono (by simp; omega))).setCell (by simp) _).setCell (by simp) _).setCell (by simp) _⟩

theorem shapes_some (w : World) :
    Calls Tryd.prog 66 #[] w fun e w' => e = .returned (.map (some (w.heap.size + 1))) ∧ w'.heap[w.heap.size + 1]? = some (.map shapesArr 18) ∧ Below w.heap.size w w' := by
  refine (shapes_any w).mono ?_
  rintro e w' ⟨rfl, rfl⟩
  exact ⟨rfl, by simpa using (MapKept.heap_alloc (w.alloc (.cells #[.int .i64 1, .int .i64 1, .int .i64 1] 146)) (.map shapesArr 18)).1, ((Below.refl _ _).alloc (Nat.le_refl _) _).alloc (by simp) _⟩

set_option maxHeartbeats 1000000 in
theorem check_go (ca : Option Addr) (n cc : Nat) (wa : Option Addr) (m wc : Nat) (lk rg : Int) (A : Nat → Option Addr) (L C : Nat → Nat) (X : Nat → Nat → Nat → Int) (s x y z : Int) (HS : Hid (s = sizesE n m lk rg)) (h0 : (s != 0) = false)
    (HR : Hid (firstThread (thr rg m lk L X) n 0 = (x, y, z))) (w : World) (hp : PIn w ca n A L C X) :
    Calls Tryd.prog 41 #[prgV ca n cc wa m wc lk rg] w fun e w' => e = .returned (ints3 x y z) ∧ Below w.heap.size w w' := by
  go_enter Tryd.func41, Tryd.ntmps41
  go_wp2_with (first | (go_at_call 65; refine (checkSizes_any _ _ _ _ _ _ _ _ _).mono ?_; rintro e w1 ⟨rfl, hb1⟩; rw [← HS.out]; have hbx := (boxes_made w ca n cc wa m wc lk rg 25 30).below hb1) | (go_at_call 66; refine (shapes_some _).mono ?_; rintro e w2 ⟨rfl, hmap, hb2⟩; have hby := hbx.below hb2; obtain ⟨hsz, p0, p1, p2, p3, r0, r1, r2, f0, f1, f2⟩ := hby))
  have hp2 : PIn w2 ca n A L C X := hp.below ((((Below.refl _ _).alloc (Nat.le_refl _) _).alloc (by simp) _).trans ((hb1.mono (by simp; omega)).trans (hb2.mono (Nat.le_trans (by omega) hbx.size))))
  have HB2 : Below w.heap.size w w2 := ((((Below.refl _ _).alloc (Nat.le_refl _) _).alloc (by simp) _).trans ((hb1.mono (by simp; omega)).trans (hb2.mono (Nat.le_trans (by omega) hbx.size))))
  have hmb : w1.heap.size + 1 < w2.heap.size := by
    rcases Nat.lt_or_ge (w1.heap.size + 1) w2.heap.size with h1 | h1
    · exact h1
    · rw [Array.getElem?_eq_none h1] at hmap; cases hmap
  have hby := hbx.below hb2
  have hn := hp.num
  clear hp hb1 hb2 hbx hsz p0 p1 p2 p3 r0 r1 r2 f0 f1 f2
  have HM : Hid (w2.heap[w1.heap.size + 1]? = some (.map shapesArr 18)) := hmap
  clear hmap
  go_loopw [21] (fun i wr => ∃ k : Nat, k ≤ n ∧ i = .int .i64 k ∧ Below w2.heap.size w2 wr ∧ firstThread (thr rg m lk L X) (n - k) k = (x, y, z)) (fun i _ => n - (intOf i).toNat)
  case atStart => exact ⟨0, Nat.zero_le _, rfl, Below.refl _ _, HR.out⟩
  case round =>
    obtain ⟨k, hk, rfl, hbr, hr⟩ := hrel
    have HK : Hid (firstThread (thr rg m lk L X) (n - k) k = (x, y, z)) := hr
    clear hr
    by_cases hlt : k < n
    · obtain ⟨cb, co, rfl, hcell⟩ := (hp2.below hbr).code k hlt
      by_cases h400 : 400 < L k
      · have hend : (x, y, z) = (1, (k : Int), 0) := by rw [← HK.out, firstThread_hit hlt (by unfold thr; rw [if_pos h400])]
        obtain ⟨hsz, p0, p1, p2, p3, r0, r1, r2, f0, f1, f2⟩ := hby.below hbr
        have HE : Hid ((x, y, z) = (1, (k : Int), 0)) := hend
        clear hend
        go_wp2
        exact bodyPost_ret (v := ints3 1 k 0) (by simp [results, Tryd.results41, go_sem, r0, r1, r2]) rfl
          ⟨ret3 HE.out, (((HB2.trans (hbr.mono HB2.size)).setCell (by simp) _).setCell (by simp) _).setCell (by simp) _⟩
      · have hl : L k ≤ 400 := by omega
        rcases Nat.eq_zero_or_pos (L k) with hz | hpos
        · have HZ : Hid (L k = 0) := hz
          clear hz
          obtain ⟨hsz, p0, p1, p2, p3, r0, r1, r2, f0, f1, f2⟩ := hby.below hbr
          go_wp2_with (first | (go_at_call 67; refine (limitsOf_any _ _ _ _ _ _ _ _ _ _ _ hl _).mono ?_; rintro e w3 ⟨rfl, hb3⟩))
          have hb4 : Below wr.heap.size wr (w3.alloc (.cells #[.int .i64 1, .int .i64 rg, .int .i64 m, .int .i64 lk, .int .i64 (L k + 1), .int .i64 0] 117)) := hb3.alloc hb3.size _
          have hs3 := hb3.size
          clear hsz p0 p1 p2 p3 r0 r1 r2 f0 f1 f2 hcell
          go_loopw [36] (fun i wi => ∃ j : Nat, j ≤ L k ∧ i = .int .i64 j ∧ Below (w3.heap.size + 1) (w3.alloc (.cells #[.int .i64 1, .int .i64 rg, .int .i64 m, .int .i64 lk, .int .i64 (L k + 1), .int .i64 0] 117)) wi ∧ firstBad (fun i => ordE rg m lk (L k) (X k i 0) (X k i 1) (X k i 2) (X k i 3)) (L k - j) j = thr rg m lk L X k) (fun i _ => L k - (intOf i).toNat)
          case atStart => exact ⟨0, Nat.zero_le _, rfl, Below.refl _ _, by unfold thr; rw [if_neg h400]; rfl⟩
          case round =>
            obtain ⟨j, hj, rfl, hbi, hfj⟩ := hrel
            have HF : Hid (firstBad (fun i => ordE rg m lk (L k) (X k i 0) (X k i 1) (X k i 2) (X k i 3)) (L k - j) j = thr rg m lk L X k) := hfj
            clear hfj
            have hsi : w3.heap.size + 1 ≤ wr.heap.size := by have := hbi.size; simpa using this
            have hbri := hb4.trans (hbi.mono (by omega))
            have hb2i : Below w2.heap.size w2 wr := hbr.trans (hbri.mono hbr.size)
            by_cases hjl : j < L k
            · exact absurd hjl (by have := HZ.out; omega)
            · have hth : thr rg m lk L X k = none := by rw [← HF.out, firstBad_end (by omega)]
              have HK2 : Hid (firstThread (thr rg m lk L X) (n - (k + 1)) (k + 1) = (x, y, z)) := by rw [← firstThread_step hlt hth]; exact HK.out
              clear hth HK HF
              go_wp2
              go_roundw
              case rel => exact ⟨k + 1, by omega, by go_num, hb2i, HK2.out⟩
              case measure => simp [intOf]; omega
        · obtain ⟨ab, ao, hA⟩ : ∃ ab ao, A k = some ⟨ab, ao, none⟩ := let ⟨ab, ao, h, _⟩ := hp2.ord k 0 hlt hpos; ⟨ab, ao, h⟩
          rw [hA] at hcell
          obtain ⟨hsz, p0, p1, p2, p3, r0, r1, r2, f0, f1, f2⟩ := hby.below hbr
          go_wp2_with (first | (go_at_call 67; refine (limitsOf_any _ _ _ _ _ _ _ _ _ _ _ hl _).mono ?_; rintro e w3 ⟨rfl, hb3⟩))
          have hb4 : Below wr.heap.size wr (w3.alloc (.cells #[.int .i64 1, .int .i64 rg, .int .i64 m, .int .i64 lk, .int .i64 (L k + 1), .int .i64 0] 117)) := hb3.alloc hb3.size _
          have hs3 := hb3.size
          clear hsz p0 p1 p2 p3 r0 r1 r2 f0 f1 f2 hcell
          go_loopw [36] (fun i wi => ∃ j : Nat, j ≤ L k ∧ i = .int .i64 j ∧ Below (w3.heap.size + 1) (w3.alloc (.cells #[.int .i64 1, .int .i64 rg, .int .i64 m, .int .i64 lk, .int .i64 (L k + 1), .int .i64 0] 117)) wi ∧ firstBad (fun i => ordE rg m lk (L k) (X k i 0) (X k i 1) (X k i 2) (X k i 3)) (L k - j) j = thr rg m lk L X k) (fun i _ => L k - (intOf i).toNat)
          case atStart => exact ⟨0, Nat.zero_le _, rfl, Below.refl _ _, by unfold thr; rw [if_neg h400]; rfl⟩
          case round =>
            obtain ⟨j, hj, rfl, hbi, hfj⟩ := hrel
            have HF : Hid (firstBad (fun i => ordE rg m lk (L k) (X k i 0) (X k i 1) (X k i 2) (X k i 3)) (L k - j) j = thr rg m lk L X k) := hfj
            clear hfj
            have hsi : w3.heap.size + 1 ≤ wr.heap.size := by have := hbi.size; simpa using this
            have hbri := hb4.trans (hbi.mono (by omega))
            have hb2i : Below w2.heap.size w2 wr := hbr.trans (hbri.mono hbr.size)
            by_cases hjl : j < L k
            · obtain ⟨b', o', hA', c0, c1, c2, c3⟩ := (hp2.below hb2i).ord k j hlt hjl
              obtain ⟨rfl, rfl⟩ : b' = ab ∧ o' = ao := by rw [hA] at hA'; simpa [eq_comm] using hA'
              clear hA'
              have l0 : ∀ o, (wr.alloc o).cell? ⟨w3.heap.size, 0, none⟩ = some (.int .i64 1) := fun o => (World.cell?_alloc_lt wr o _ (by show w3.heap.size < _; omega)).trans ((hbi.cell (p := ⟨w3.heap.size, 0, none⟩) (by simp)).trans (by go_simp))
              have l1 : ∀ o, (wr.alloc o).cell? ⟨w3.heap.size, 1, none⟩ = some (.int .i64 rg) := fun o => (World.cell?_alloc_lt wr o _ (by show w3.heap.size < _; omega)).trans ((hbi.cell (p := ⟨w3.heap.size, 1, none⟩) (by simp)).trans (by go_simp))
              have l2 : ∀ o, (wr.alloc o).cell? ⟨w3.heap.size, 2, none⟩ = some (.int .i64 m) := fun o => (World.cell?_alloc_lt wr o _ (by show w3.heap.size < _; omega)).trans ((hbi.cell (p := ⟨w3.heap.size, 2, none⟩) (by simp)).trans (by go_simp))
              have l3 : ∀ o, (wr.alloc o).cell? ⟨w3.heap.size, 3, none⟩ = some (.int .i64 lk) := fun o => (World.cell?_alloc_lt wr o _ (by show w3.heap.size < _; omega)).trans ((hbi.cell (p := ⟨w3.heap.size, 3, none⟩) (by simp)).trans (by go_simp))
              have l4 : ∀ o, (wr.alloc o).cell? ⟨w3.heap.size, 4, none⟩ = some (.int .i64 (L k + 1)) := fun o => (World.cell?_alloc_lt wr o _ (by show w3.heap.size < _; omega)).trans ((hbi.cell (p := ⟨w3.heap.size, 4, none⟩) (by simp)).trans (by go_simp))
              have l5 : ∀ o, (wr.alloc o).cell? ⟨w3.heap.size, 5, none⟩ = some (.int .i64 0) := fun o => (World.cell?_alloc_lt wr o _ (by show w3.heap.size < _; omega)).trans ((hbi.cell (p := ⟨w3.heap.size, 5, none⟩) (by simp)).trans (by go_simp))
              have hmi : ∀ o, (wr.alloc o).heap[w1.heap.size + 1]? = some (.map shapesArr 18) := fun o => by
                rw [Below.heap_alloc _ _ _ (Nat.lt_of_lt_of_le hmb hb2i.size), hb2i.block _ hmb]; exact HM.out
              obtain ⟨ev, hev⟩ : ∃ ev, ordE rg m lk (L k) (X k j 0) (X k j 1) (X k j 2) (X k j 3) = ev := ⟨_, rfl⟩
              have HE : Hid (ordE rg m lk (L k) (X k j 0) (X k j 1) (X k j 2) (X k j 3) = ev) := hev
              clear hev
              by_cases hE : ev = 0
              · have hne : (ev != 0) = false := by simpa using hE
                have HF2 : Hid (firstBad (fun i => ordE rg m lk (L k) (X k i 0) (X k i 1) (X k i 2) (X k i 3)) (L k - (j + 1)) (j + 1) = thr rg m lk L X k) := by rw [← firstBad_step hjl (HE.out.trans hE)]; exact HF.out
                clear hE HF
                go_wp2_with (first | (go_at_call 68; refine (checkOrder_any _ _ _ _ _ _ _ _ _ _ (hmi _)).mono ?_; rintro e w5 ⟨rfl, hb5⟩; rw [HE.out]))
                go_roundw
                case rel => exact ⟨j + 1, by omega, by go_num, hbi.trans (((Below.refl _ _).alloc hsi _).trans (hb5.mono (by simp; omega))), HF2.out⟩
                case measure => simp [intOf]; omega
              · have hne : (ev != 0) = true := by simpa using hE
                have HE2 : Hid ((x, y, z) = (ev, (k : Int), (j : Int))) := by
                  have := firstBad_hit (E := fun i => ordE rg m lk (L k) (X k i 0) (X k i 1) (X k i 2) (X k i 3)) hjl (by rw [HE.out]; exact hE)
                  rw [HF.out, HE.out] at this
                  show (x, y, z) = _
                  rw [← HK.out, firstThread_hit hlt this]
                clear hE HF HK
                go_wp2_with (first | (go_at_call 68; refine (checkOrder_any _ _ _ _ _ _ _ _ _ _ (hmi _)).mono ?_; rintro e w5 ⟨rfl, hb5⟩; rw [HE.out]; have hbx6 := ((hby.below hb2i).below ((Below.refl _ _).alloc (Nat.le_refl _) _)).below hb5; obtain ⟨hsz, p0, p1, p2, p3, r0, r1, r2, f0, f1, f2⟩ := hbx6))
                exact bodyPost_ret (v := ints3 ev k j) (by simp [results, Tryd.results41, go_sem, r0, r1, r2]) rfl
                  ⟨ret3 HE2.out, ((((HB2.trans (hb2i.mono HB2.size)).trans (((Below.refl _ _).alloc (by have := HB2.size; have := hb2i.size; omega) _).trans (hb5.mono (by have := HB2.size; have := hb2i.size; simp; omega)))).setCell (by simp) _).setCell (by simp) _).setCell (by simp) _⟩
            · have hth : thr rg m lk L X k = none := by rw [← HF.out, firstBad_end (by omega)]
              have HK2 : Hid (firstThread (thr rg m lk L X) (n - (k + 1)) (k + 1) = (x, y, z)) := by rw [← firstThread_step hlt hth]; exact HK.out
              clear hth HK HF
              go_wp2
              go_roundw
              case rel => exact ⟨k + 1, by omega, by go_num, hb2i, HK2.out⟩
              case measure => simp [intOf]; omega
    · have hend : (x, y, z) = (0, 0, 0) := by rw [← HK.out, firstThread_end (by omega)]
      obtain ⟨hsz, p0, p1, p2, p3, r0, r1, r2, f0, f1, f2⟩ := hby.below hbr
      have HE : Hid ((x, y, z) = (0, 0, 0)) := hend
      clear hend
      go_wp2
      exact bodyPost_ret (v := ints3 0 0 0) (by simp [results, Tryd.results41, go_sem, r0, r1, r2]) rfl
        ⟨ret3 HE.out, (((HB2.trans (hbr.mono HB2.size)).setCell (by simp) _).setCell (by simp) _).setCell (by simp) _⟩

/-- Check, of every program that lies in memory: it answers the first thing that is wrong, and nothing that was there has changed. -/
theorem check_any (ca : Option Addr) (n cc : Nat) (wa : Option Addr) (m wc : Nat) (lk rg : Int) (A : Nat → Option Addr) (L C : Nat → Nat) (X : Nat → Nat → Nat → Int) (x y z : Int) (HR : Hid (chk n L X m lk rg = (x, y, z))) (w : World) (hp : PIn w ca n A L C X) :
    Calls Tryd.prog 41 #[prgV ca n cc wa m wc lk rg] w fun e w' => e = .returned (ints3 x y z) ∧ Below w.heap.size w w' := by
  have h := HR.out
  unfold chk at h
  by_cases h0 : sizesE n m lk rg = 0
  · rw [if_neg (by simpa using h0)] at h
    exact check_go ca n cc wa m wc lk rg A L C X _ x y z rfl (by simpa using h0) h w hp
  · rw [if_pos h0] at h
    simp only [Prod.mk.injEq] at h
    obtain ⟨h1, rfl, rfl⟩ := h
    exact check_sizes ca n cc wa m wc lk rg x h1.symm (by rw [← h1]; simpa using h0) w

end Go.Proofs.YtocfocjnnjdcgaaDoor
