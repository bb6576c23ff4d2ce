/-
  What the program's Check does.
  The fewest fences, as plain functions: places, sets of places in their order, what is told of them.
-/
import Derived.Test.YtelckcpjmekgcadGreatDoorInProg
import Derived.Test.YtelckcpjmekgcadGreatDoorPChk
import Derived.Test.YtelckcpjmekgcadGreatDoorRDoW
namespace Go.Proofs.YtelckcpjmekgcadGreatDoor
section
open Go.RowKit

theorem ret3 {a b c x y z : Int} (h : (x, y, z) = (a, b, c)) : Ending.returned (ints3 a b c) = .returned (ints3 x y z) := by
  simp only [Prod.mk.injEq] at h
  obtain ⟨rfl, rfl, rfl⟩ := h
  rfl

set_option maxHeartbeats 1000000 in
theorem check_sizes (ca : Option Addr) (n cc : Nat) (wa : Option Addr) (m wc : Nat) (lk rg : Int) (s : Int) (HS : Hid (s = sizesE n m lk rg)) (h0 : (s != 0) = true) (w : World) :
    Calls Tryz.prog 11 #[prgV ca n cc wa m wc lk rg] w fun e w' => e = .returned (ints3 s 0 0) ∧ Below w.heap.size w w' := by
  go_enter Tryz.func11, Tryz.ntmps11
  go_wp2_with (first | (go_at_call 22; refine (checkSizes_any _ _ _ _ _ _ _ _ _).mono ?_; rintro e w1 ⟨rfl, hb1⟩; rw [← HS.out]; have hbx := (boxes_made w ca n cc wa m wc lk rg 25 29).below hb1; obtain ⟨hsz, p0, p1, p2, p3, r0, r1, r2, f0, f1, f2⟩ := hbx))
  exact bodyPost_ret (v := ints3 s 0 0) (by simp [results, Tryz.results11, go_sem, r0, r1, r2]) rfl
    ⟨rfl, ((((((Below.refl _ _).alloc (Nat.le_refl _) _).alloc (by simp) _).trans (hb1.mono (by simp; omega))).setCell (by simp) _).setCell (by simp) _).setCell (by simp) _⟩

theorem shapes_some (w : World) :
    Calls Tryz.prog 23 #[] w fun e w' => e = .returned (.map (some (w.heap.size + 1))) ∧ w'.heap[w.heap.size + 1]? = some (.map shapesArr 18) ∧ Below w.heap.size w w' := by
  refine (shapes_any w).mono ?_
  rintro e w' ⟨rfl, rfl⟩
  exact ⟨rfl, by simpa using (MapKept.heap_alloc (w.alloc (.cells #[.int .i64 1, .int .i64 1, .int .i64 1] 78)) (.map shapesArr 18)).1, ((Below.refl _ _).alloc (Nat.le_refl _) _).alloc (by simp) _⟩

set_option maxHeartbeats 1000000 in
theorem check_go (ca : Option Addr) (n cc : Nat) (wa : Option Addr) (m wc : Nat) (lk rg : Int) (A : Nat → Option Addr) (L C : Nat → Nat) (X : Nat → Nat → Nat → Int) (s x y z : Int) (HS : Hid (s = sizesE n m lk rg)) (h0 : (s != 0) = false)
    (HR : Hid (firstThread (thr rg m lk L X) n 0 = (x, y, z))) (w : World) (hp : PIn w ca n A L C X) :
    Calls Tryz.prog 11 #[prgV ca n cc wa m wc lk rg] w fun e w' => e = .returned (ints3 x y z) ∧ Below w.heap.size w w' := by
  go_enter Tryz.func11, Tryz.ntmps11
  go_wp2_with (first | (go_at_call 22; refine (checkSizes_any _ _ _ _ _ _ _ _ _).mono ?_; rintro e w1 ⟨rfl, hb1⟩; rw [← HS.out]; have hbx := (boxes_made w ca n cc wa m wc lk rg 25 29).below hb1) | (go_at_call 23; refine (shapes_some _).mono ?_; rintro e w2 ⟨rfl, hmap, hb2⟩; have hby := hbx.below hb2; obtain ⟨hsz, p0, p1, p2, p3, r0, r1, r2, f0, f1, f2⟩ := hby))
  have hp2 : PIn w2 ca n A L C X := hp.below ((((Below.refl _ _).alloc (Nat.le_refl _) _).alloc (by simp) _).trans ((hb1.mono (by simp; omega)).trans (hb2.mono (Nat.le_trans (by omega) hbx.size))))
  have HB2 : Below w.heap.size w w2 := ((((Below.refl _ _).alloc (Nat.le_refl _) _).alloc (by simp) _).trans ((hb1.mono (by simp; omega)).trans (hb2.mono (Nat.le_trans (by omega) hbx.size))))
  have hmb : w1.heap.size + 1 < w2.heap.size := by
    rcases Nat.lt_or_ge (w1.heap.size + 1) w2.heap.size with h1 | h1
    · exact h1
    · rw [Array.getElem?_eq_none h1] at hmap; cases hmap
  have hby := hbx.below hb2
  have hn := hp.num
  clear hp hb1 hb2 hbx hsz p0 p1 p2 p3 r0 r1 r2 f0 f1 f2
  have HM : Hid (w2.heap[w1.heap.size + 1]? = some (.map shapesArr 18)) := hmap
  clear hmap
  go_loopw [21] (fun i wr => ∃ k : Nat, k ≤ n ∧ i = .int .i64 k ∧ Below w2.heap.size w2 wr ∧ firstThread (thr rg m lk L X) (n - k) k = (x, y, z)) (fun i _ => n - (intOf i).toNat)
  case atStart => exact ⟨0, Nat.zero_le _, rfl, Below.refl _ _, HR.out⟩
  case round =>
    obtain ⟨k, hk, rfl, hbr, hr⟩ := hrel
    have HK : Hid (firstThread (thr rg m lk L X) (n - k) k = (x, y, z)) := hr
    clear hr
    by_cases hlt : k < n
    · obtain ⟨cb, co, rfl, hcell⟩ := (hp2.below hbr).code k hlt
      by_cases h400 : 400 < L k
      · have hend : (x, y, z) = (1, (k : Int), 0) := by rw [← HK.out, firstThread_hit hlt (by unfold thr; rw [if_pos h400])]
        obtain ⟨hsz, p0, p1, p2, p3, r0, r1, r2, f0, f1, f2⟩ := hby.below hbr
        have HE : Hid ((x, y, z) = (1, (k : Int), 0)) := hend
        clear hend
        go_wp2
        exact bodyPost_ret (v := ints3 1 k 0) (by simp [results, Tryz.results11, go_sem, r0, r1, r2]) rfl
          ⟨ret3 HE.out, (((HB2.trans (hbr.mono HB2.size)).setCell (by simp) _).setCell (by simp) _).setCell (by simp) _⟩
      · have hl : L k ≤ 400 := by omega
        rcases Nat.eq_zero_or_pos (L k) with hz | hpos
        · have HZ : Hid (L k = 0) := hz
          clear hz
          obtain ⟨hsz, p0, p1, p2, p3, r0, r1, r2, f0, f1, f2⟩ := hby.below hbr
          go_wp2_with (first | (go_at_call 24; refine (limitsOf_any _ _ _ _ _ _ _ _ _ _ _ hl _).mono ?_; rintro e w3 ⟨rfl, hb3⟩))
          have hb4 : Below wr.heap.size wr (w3.alloc (.cells #[.int .i64 1, .int .i64 rg, .int .i64 m, .int .i64 lk, .int .i64 (L k + 1), .int .i64 0] 60)) := hb3.alloc hb3.size _
          have hs3 := hb3.size
          clear hsz p0 p1 p2 p3 r0 r1 r2 f0 f1 f2 hcell
          go_loopw [36] (fun i wi => ∃ j : Nat, j ≤ L k ∧ i = .int .i64 j ∧ Below (w3.heap.size + 1) (w3.alloc (.cells #[.int .i64 1, .int .i64 rg, .int .i64 m, .int .i64 lk, .int .i64 (L k + 1), .int .i64 0] 60)) wi ∧ firstBad (fun i => ordE rg m lk (L k) (X k i 0) (X k i 1) (X k i 2) (X k i 3)) (L k - j) j = thr rg m lk L X k) (fun i _ => L k - (intOf i).toNat)
          case atStart => exact ⟨0, Nat.zero_le _, rfl, Below.refl _ _, by unfold thr; rw [if_neg h400]; rfl⟩
          case round =>
            obtain ⟨j, hj, rfl, hbi, hfj⟩ := hrel
            have HF : Hid (firstBad (fun i => ordE rg m lk (L k) (X k i 0) (X k i 1) (X k i 2) (X k i 3)) (L k - j) j = thr rg m lk L X k) := hfj
            clear hfj
            have hsi : w3.heap.size + 1 ≤ wr.heap.size := by have := hbi.size; simpa using this
            have hbri := hb4.trans (hbi.mono (by omega))
            have hb2i : Below w2.heap.size w2 wr := hbr.trans (hbri.mono hbr.size)
            by_cases hjl : j < L k
            · exact absurd hjl (by have := HZ.out; omega)
            · have hth : thr rg m lk L X k = none := by rw [← HF.out, firstBad_end (by omega)]
              have HK2 : Hid (firstThread (thr rg m lk L X) (n - (k + 1)) (k + 1) = (x, y, z)) := by rw [← firstThread_step hlt hth]; exact HK.out
              clear hth HK HF
              go_wp2
              go_roundw
              case rel => exact ⟨k + 1, by omega, by go_num, hb2i, HK2.out⟩
              case measure => simp [intOf]; omega
        · obtain ⟨ab, ao, hA⟩ : ∃ ab ao, A k = some ⟨ab, ao, none⟩ := let ⟨ab, ao, h, _⟩ := hp2.ord k 0 hlt hpos; ⟨ab, ao, h⟩
          rw [hA] at hcell
          obtain ⟨hsz, p0, p1, p2, p3, r0, r1, r2, f0, f1, f2⟩ := hby.below hbr
          go_wp2_with (first | (go_at_call 24; refine (limitsOf_any _ _ _ _ _ _ _ _ _ _ _ hl _).mono ?_; rintro e w3 ⟨rfl, hb3⟩))
          have hb4 : Below wr.heap.size wr (w3.alloc (.cells #[.int .i64 1, .int .i64 rg, .int .i64 m, .int .i64 lk, .int .i64 (L k + 1), .int .i64 0] 60)) := hb3.alloc hb3.size _
          have hs3 := hb3.size
          clear hsz p0 p1 p2 p3 r0 r1 r2 f0 f1 f2 hcell
          go_loopw [36] (fun i wi => ∃ j : Nat, j ≤ L k ∧ i = .int .i64 j ∧ Below (w3.heap.size + 1) (w3.alloc (.cells #[.int .i64 1, .int .i64 rg, .int .i64 m, .int .i64 lk, .int .i64 (L k + 1), .int .i64 0] 60)) wi ∧ firstBad (fun i => ordE rg m lk (L k) (X k i 0) (X k i 1) (X k i 2) (X k i 3)) (L k - j) j = thr rg m lk L X k) (fun i _ => L k - (intOf i).toNat)
          case atStart => exact ⟨0, Nat.zero_le _, rfl, Below.refl _ _, by unfold thr; rw [if_neg h400]; rfl⟩
          case round =>
            obtain ⟨j, hj, rfl, hbi, hfj⟩ := hrel
            have HF : Hid (firstBad (fun i => ordE rg m lk (L k) (X k i 0) (X k i 1) (X k i 2) (X k i 3)) (L k - j) j = thr rg m lk L X k) := hfj
            clear hfj
            have hsi : w3.heap.size + 1 ≤ wr.heap.size := by have := hbi.size; simpa using this
            have hbri := hb4.trans (hbi.mono (by omega))
            have hb2i : Below w2.heap.size w2 wr := hbr.trans (hbri.mono hbr.size)
            by_cases hjl : j < L k
            · obtain ⟨b', o', hA', c0, c1, c2, c3⟩ := (hp2.below hb2i).ord k j hlt hjl
              obtain ⟨rfl, rfl⟩ : b' = ab ∧ o' = ao := by rw [hA] at hA'; simpa [eq_comm] using hA'
              clear hA'
              have l0 : ∀ o, (wr.alloc o).cell? ⟨w3.heap.size, 0, none⟩ = some (.int .i64 1) := fun o => (World.cell?_alloc_lt wr o _ (by show w3.heap.size < _; omega)).trans ((hbi.cell (p := ⟨w3.heap.size, 0, none⟩) (by simp)).trans (by go_simp))
              have l1 : ∀ o, (wr.alloc o).cell? ⟨w3.heap.size, 1, none⟩ = some (.int .i64 rg) := fun o => (World.cell?_alloc_lt wr o _ (by show w3.heap.size < _; omega)).trans ((hbi.cell (p := ⟨w3.heap.size, 1, none⟩) (by simp)).trans (by go_simp))
              have l2 : ∀ o, (wr.alloc o).cell? ⟨w3.heap.size, 2, none⟩ = some (.int .i64 m) := fun o => (World.cell?_alloc_lt wr o _ (by show w3.heap.size < _; omega)).trans ((hbi.cell (p := ⟨w3.heap.size, 2, none⟩) (by simp)).trans (by go_simp))
              have l3 : ∀ o, (wr.alloc o).cell? ⟨w3.heap.size, 3, none⟩ = some (.int .i64 lk) := fun o => (World.cell?_alloc_lt wr o _ (by show w3.heap.size < _; omega)).trans ((hbi.cell (p := ⟨w3.heap.size, 3, none⟩) (by simp)).trans (by go_simp))
              have l4 : ∀ o, (wr.alloc o).cell? ⟨w3.heap.size, 4, none⟩ = some (.int .i64 (L k + 1)) := fun o => (World.cell?_alloc_lt wr o _ (by show w3.heap.size < _; omega)).trans ((hbi.cell (p := ⟨w3.heap.size, 4, none⟩) (by simp)).trans (by go_simp))
              have l5 : ∀ o, (wr.alloc o).cell? ⟨w3.heap.size, 5, none⟩ = some (.int .i64 0) := fun o => (World.cell?_alloc_lt wr o _ (by show w3.heap.size < _; omega)).trans ((hbi.cell (p := ⟨w3.heap.size, 5, none⟩) (by simp)).trans (by go_simp))
              have hmi : ∀ o, (wr.alloc o).heap[w1.heap.size + 1]? = some (.map shapesArr 18) := fun o => by
                rw [Below.heap_alloc _ _ _ (Nat.lt_of_lt_of_le hmb hb2i.size), hb2i.block _ hmb]; exact HM.out
              obtain ⟨ev, hev⟩ : ∃ ev, ordE rg m lk (L k) (X k j 0) (X k j 1) (X k j 2) (X k j 3) = ev := ⟨_, rfl⟩
              have HE : Hid (ordE rg m lk (L k) (X k j 0) (X k j 1) (X k j 2) (X k j 3) = ev) := hev
              clear hev
              by_cases hE : ev = 0
              · have hne : (ev != 0) = false := by simpa using hE
                have HF2 : Hid (firstBad (fun i => ordE rg m lk (L k) (X k i 0) (X k i 1) (X k i 2) (X k i 3)) (L k - (j + 1)) (j + 1) = thr rg m lk L X k) := by rw [← firstBad_step hjl (HE.out.trans hE)]; exact HF.out
                clear hE HF
                go_wp2_with (first | (go_at_call 25; refine (checkOrder_any _ _ _ _ _ _ _ _ _ _ (hmi _)).mono ?_; rintro e w5 ⟨rfl, hb5⟩; rw [HE.out]))
                go_roundw
                case rel => exact ⟨j + 1, by omega, by go_num, hbi.trans (((Below.refl _ _).alloc hsi _).trans (hb5.mono (by simp; omega))), HF2.out⟩
                case measure => simp [intOf]; omega
              · have hne : (ev != 0) = true := by simpa using hE
                have HE2 : Hid ((x, y, z) = (ev, (k : Int), (j : Int))) := by
                  have := firstBad_hit (E := fun i => ordE rg m lk (L k) (X k i 0) (X k i 1) (X k i 2) (X k i 3)) hjl (by rw [HE.out]; exact hE)
                  rw [HF.out, HE.out] at this
                  show (x, y, z) = _
                  rw [← HK.out, firstThread_hit hlt this]
                clear hE HF HK
                go_wp2_with (first | (go_at_call 25; refine (checkOrder_any _ _ _ _ _ _ _ _ _ _ (hmi _)).mono ?_; rintro e w5 ⟨rfl, hb5⟩; rw [HE.out]; have hbx6 := ((hby.below hb2i).below ((Below.refl _ _).alloc (Nat.le_refl _) _)).below hb5; obtain ⟨hsz, p0, p1, p2, p3, r0, r1, r2, f0, f1, f2⟩ := hbx6))
                exact bodyPost_ret (v := ints3 ev k j) (by simp [results, Tryz.results11, go_sem, r0, r1, r2]) rfl
                  ⟨ret3 HE2.out, ((((HB2.trans (hb2i.mono HB2.size)).trans (((Below.refl _ _).alloc (by have := HB2.size; have := hb2i.size; omega) _).trans (hb5.mono (by have := HB2.size; have := hb2i.size; simp; omega)))).setCell (by simp) _).setCell (by simp) _).setCell (by simp) _⟩
            · have hth : thr rg m lk L X k = none := by rw [← HF.out, firstBad_end (by omega)]
              have HK2 : Hid (firstThread (thr rg m lk L X) (n - (k + 1)) (k + 1) = (x, y, z)) := by rw [← firstThread_step hlt hth]; exact HK.out
              clear hth HK HF
              go_wp2
              go_roundw
              case rel => exact ⟨k + 1, by omega, by go_num, hb2i, HK2.out⟩
              case measure => simp [intOf]; omega
    · have hend : (x, y, z) = (0, 0, 0) := by rw [← HK.out, firstThread_end (by omega)]
      obtain ⟨hsz, p0, p1, p2, p3, r0, r1, r2, f0, f1, f2⟩ := hby.below hbr
      have HE : Hid ((x, y, z) = (0, 0, 0)) := hend
      clear hend
      go_wp2
      exact bodyPost_ret (v := ints3 0 0 0) (by simp [results, Tryz.results11, go_sem, r0, r1, r2]) rfl
        ⟨ret3 HE.out, (((HB2.trans (hbr.mono HB2.size)).setCell (by simp) _).setCell (by simp) _).setCell (by simp) _⟩

/-- Check, of every program that lies in memory: it answers the first thing that is wrong, and nothing that was there has changed. -/
theorem check_any (ca : Option Addr) (n cc : Nat) (wa : Option Addr) (m wc : Nat) (lk rg : Int) (A : Nat → Option Addr) (L C : Nat → Nat) (X : Nat → Nat → Nat → Int) (x y z : Int) (HR : Hid (chk n L X m lk rg = (x, y, z))) (w : World) (hp : PIn w ca n A L C X) :
    Calls Tryz.prog 11 #[prgV ca n cc wa m wc lk rg] w fun e w' => e = .returned (ints3 x y z) ∧ Below w.heap.size w w' := by
  have h := HR.out
  unfold chk at h
  by_cases h0 : sizesE n m lk rg = 0
  · rw [if_neg (by simpa using h0)] at h
    exact check_go ca n cc wa m wc lk rg A L C X _ x y z rfl (by simpa using h0) h w hp
  · rw [if_pos h0] at h
    simp only [Prod.mk.injEq] at h
    obtain ⟨h1, rfl, rfl⟩ := h
    exact check_sizes ca n cc wa m wc lk rg x h1.symm (by rw [← h1]; simpa using h0) w
end

section
open Go.RowKit

abbrev Pl := Nat × Nat
/-- Places of orders that let something wait: of one thread, of all. -/
def plT (X : Nat → Nat → Nat → Int) (t : Nat) : Nat → List Pl
  | 0 => []
  | i + 1 => plT X t i ++ (if wtO (X t i 0) = true then [(t, i)] else [])
def plA (L : Nat → Nat) (X : Nat → Nat → Nat → Int) : Nat → List Pl
  | 0 => []
  | t + 1 => plA L X t ++ plT X t (L t)
theorem plT_mem {X : Nat → Nat → Nat → Int} {t u j : Nat} : ∀ {i : Nat}, (u, j) ∈ plT X t i ↔ u = t ∧ j < i ∧ wtO (X t j 0) = true
  | 0 => by simp [plT]
  | i + 1 => by
    rw [plT, List.mem_append, plT_mem]
    constructor
    · rintro (⟨h1, h2, h3⟩ | h)
      · exact ⟨h1, by omega, h3⟩
      · split at h
        · rename_i hw
          simp only [List.mem_singleton, Prod.mk.injEq] at h
          obtain ⟨rfl, rfl⟩ := h
          exact ⟨rfl, by omega, hw⟩
        · cases h
    · rintro ⟨rfl, h2, h3⟩
      by_cases e : j = i
      · subst e
        exact Or.inr (by rw [if_pos h3]; simp)
      · exact Or.inl ⟨rfl, by omega, h3⟩
theorem plA_mem {L : Nat → Nat} {X : Nat → Nat → Nat → Int} {u j : Nat} : ∀ {n : Nat}, (u, j) ∈ plA L X n ↔ u < n ∧ j < L u ∧ wtO (X u j 0) = true
  | 0 => by simp [plA]
  | n + 1 => by
    rw [plA, List.mem_append, plA_mem, plT_mem]
    constructor
    · rintro (⟨h1, h2, h3⟩ | ⟨rfl, h2, h3⟩)
      · exact ⟨by omega, h2, h3⟩
      · exact ⟨by omega, h2, h3⟩
    · rintro ⟨h1, h2, h3⟩
      by_cases e : u = n
      · subst e; exact Or.inr ⟨rfl, h2, h3⟩
      · exact Or.inl ⟨by omega, h2, h3⟩
/-- One place comes ahead of another. -/
def RiseP (a b : Pl) : Prop := a.1 < b.1 ∨ a.1 = b.1 ∧ a.2 < b.2
theorem plT_rise {X : Nat → Nat → Nat → Int} {t : Nat} : ∀ (i : Nat), (plT X t i).Pairwise RiseP
  | 0 => List.Pairwise.nil
  | i + 1 => by
    rw [plT]
    refine List.pairwise_append.2 ⟨plT_rise i, ?_, ?_⟩
    · split
      · exact List.pairwise_singleton _ _
      · exact List.Pairwise.nil
    · rintro ⟨u, j⟩ ha b hb
      have h1 := plT_mem.1 ha
      split at hb
      · rw [List.mem_singleton.1 hb]
        exact Or.inr ⟨h1.1, h1.2.1⟩
      · cases hb
theorem plA_rise {L : Nat → Nat} {X : Nat → Nat → Nat → Int} : ∀ (n : Nat), (plA L X n).Pairwise RiseP
  | 0 => List.Pairwise.nil
  | n + 1 => by
    rw [plA]
    refine List.pairwise_append.2 ⟨plA_rise n, plT_rise _, ?_⟩
    rintro ⟨u, j⟩ ha ⟨u', j'⟩ hb
    have h1 := plA_mem.1 ha
    have h2 := plT_mem.1 hb
    exact Or.inl (by show u < u'; omega)
theorem plT_le {X : Nat → Nat → Nat → Int} {t : Nat} : ∀ (i : Nat), (plT X t i).length ≤ i
  | 0 => Nat.le_refl _
  | i + 1 => by
    rw [plT, List.length_append]
    have := plT_le (X := X) (t := t) i
    split <;> simp <;> omega
theorem plA_le {L : Nat → Nat} {X : Nat → Nat → Nat → Int} {m : Nat} : ∀ (n : Nat), (∀ t, t < n → L t ≤ m) → (plA L X n).length ≤ n * m
  | 0, _ => by simp [plA]
  | n + 1, h => by
    rw [plA, List.length_append, Nat.succ_mul]
    have h1 := plA_le n (fun t ht => h t (by omega)) (X := X)
    have h2 := plT_le (X := X) (t := n) (L n)
    have h3 := h n (by omega)
    omega

/-- All sets of so many places, in their order. -/
def chooseL : Nat → List Pl → List (List Pl)
  | 0, _ => [[]]
  | _ + 1, [] => []
  | k + 1, x :: l => (chooseL k l).map (fun s => x :: s) ++ chooseL (k + 1) l
def setsF (l : List Pl) : Nat → Nat → List (List Pl)
  | 0, _ => []
  | f + 1, k => chooseL k l ++ setsF l f (k + 1)
def setsL (l : List Pl) : List (List Pl) := setsF l (l.length + 1) 0
theorem choose_sub : ∀ (k : Nat) (l : List Pl) (s : List Pl), s ∈ chooseL k l → s.Sublist l
  | 0, l, s, h => by
    rw [chooseL] at h
    have e : s = [] := List.mem_singleton.1 h
    rw [e]
    exact List.nil_sublist _
  | _ + 1, [], _, h => by cases h
  | k + 1, x :: l, s, h => by
    rcases List.mem_append.1 h with h | h
    · obtain ⟨s', h', rfl⟩ := List.mem_map.1 h
      exact (choose_sub k l s' h').cons_cons x
    · exact (choose_sub (k + 1) l s h).cons x
theorem sets_sub (l : List Pl) : ∀ (f k : Nat) (s : List Pl), s ∈ setsF l f k → s.Sublist l
  | 0, _, _, h => by cases h
  | f + 1, k, s, h => by
    rcases List.mem_append.1 h with h | h
    · exact choose_sub k l s h
    · exact sets_sub l f (k + 1) s h
theorem choose_all : ∀ (l : List Pl), l ∈ chooseL l.length l
  | [] => List.mem_singleton.2 rfl
  | _ :: l => List.mem_append.2 (Or.inl (List.mem_map.2 ⟨l, choose_all l, rfl⟩))
theorem sets_in (l : List Pl) {s : List Pl} {m : Nat} (hs : s ∈ chooseL m l) : ∀ (f k : Nat), k ≤ m → m < k + f → s ∈ setsF l f k
  | 0, k, h1, h2 => by omega
  | f + 1, k, h1, h2 => by
    rw [setsF]
    by_cases e : k = m
    · subst e
      exact List.mem_append.2 (Or.inl hs)
    · exact List.mem_append.2 (Or.inr (sets_in l hs f (k + 1) (by omega) (by omega)))
theorem sets_all (l : List Pl) : l ∈ setsL l := sets_in l (choose_all l) _ _ (Nat.zero_le _) (by omega)
theorem sets_nil (l : List Pl) : setsL l = [] :: setsF l l.length 1 := by
  unfold setsL
  rw [setsF, chooseL]
  rfl

/-- Is there a fence to be put behind an order? And what orders become. -/
def setB (S : List Pl) : Nat → Nat → Bool := fun t i => decide ((t, i) ∈ S)
def bSet (X : Nat → Nat → Nat → Int) (S : List Pl) : Nat → Nat → List I4 := fun t i => bWith (setB S t i) (ordAt X t i)
/-- What is told of the program with fences behind places, where stores wait. -/
def ToldS (n : Nat) (L : Nat → Nat) (X : Nat → Nat → Nat → Int) (words : List Int) (lk rg : Nat) (S : List Pl) (full : Bool) (l : List Oc) : Prop :=
  Told (nxX (lenR (bSet X S) L) (numR (bSet X S) L) 1) (outsX (lenR (bSet X S) L) (numR (bSet X S) L) 1) (beginX n words lk rg) 4000 full l
/-- The first set that is enough, of those that are left; or that one has too many states. -/
inductive FewR (T : List Pl → Bool → List Oc → Prop) (sc : List Oc) : List (List Pl) → List Pl → Int → Prop
  | done : FewR T sc [] [] 0
  | full {S : List Pl} {R : List (List Pl)} {l : List Oc} : T S true l → FewR T sc (S :: R) [] 10
  | hit {S : List Pl} {R : List (List Pl)} : T S false sc → FewR T sc (S :: R) S 0
  | next {S : List Pl} {R : List (List Pl)} {l : List Oc} {P : List Pl} {z : Int} : T S false l → l ≠ sc → FewR T sc R P z → FewR T sc (S :: R) P z
theorem FewR.same {T : List Pl → Bool → List Oc → Prop} (hT : ∀ S f1 f2 l1 l2, T S f1 l1 → T S f2 l2 → f1 = f2 ∧ (f1 = false → l1 = l2)) {sc : List Oc} : ∀ {Q : List (List Pl)} {P P' : List Pl} {z z' : Int}, FewR T sc Q P z → FewR T sc Q P' z' → P = P' ∧ z = z'
  | _, _, _, _, _, .done, h => by cases h; exact ⟨rfl, rfl⟩
  | _, _, _, _, _, .full h1, h => by
    cases h with
    | full _ => exact ⟨rfl, rfl⟩
    | hit h2 => exact absurd (hT _ _ _ _ _ h1 h2).1 (by decide)
    | next h2 _ _ => exact absurd (hT _ _ _ _ _ h1 h2).1 (by decide)
  | _, _, _, _, _, .hit h1, h => by
    cases h with
    | full h2 => exact absurd (hT _ _ _ _ _ h1 h2).1 (by decide)
    | hit h2 => exact ⟨rfl, rfl⟩
    | next h2 h3 _ => exact absurd ((hT _ _ _ _ _ h1 h2).2 rfl).symm h3
  | _, _, _, _, _, .next h1 h3 h4, h => by
    cases h with
    | full h2 => exact absurd (hT _ _ _ _ _ h1 h2).1 (by decide)
    | hit h2 => exact absurd ((hT _ _ _ _ _ h1 h2).2 rfl) h3
    | next _ _ h5 => exact h4.same hT h5
theorem toldS_same {n : Nat} {L : Nat → Nat} {X : Nat → Nat → Nat → Int} {words : List Int} {lk rg : Nat} : ∀ S f1 f2 l1 l2, ToldS n L X words lk rg S f1 l1 → ToldS n L X words lk rg S f2 l2 → f1 = f2 ∧ (f1 = false → l1 = l2) := fun _ _ _ _ _ h1 h2 => told_same h1 h2
/-- What Fewest tells. -/
def FewQ (n : Nat) (L : Nat → Nat) (X : Nat → Nat → Nat → Int) (words : List Int) (lk rg : Nat) (P : List Pl) (z : Int) : Prop :=
  (6 < (plA L X n).length ∧ P = [] ∧ z = 1) ∨ ((plA L X n).length ≤ 6 ∧ ((∃ l, Told (nxX L X 0) (outsX L X 0) (beginX n words lk rg) 4000 true l ∧ P = [] ∧ z = 10) ∨ ∃ sc, Told (nxX L X 0) (outsX L X 0) (beginX n words lk rg) 4000 false sc ∧ FewR (ToldS n L X words lk rg) sc (setsL (plA L X n)) P z))
theorem FewQ.same {n : Nat} {L : Nat → Nat} {X : Nat → Nat → Nat → Int} {words : List Int} {lk rg : Nat} {P P' : List Pl} {z z' : Int} (h : FewQ n L X words lk rg P z) (h' : FewQ n L X words lk rg P' z') : P = P' ∧ z = z' := by
  rcases h with ⟨h1, h2, h3⟩ | ⟨h1, h⟩ <;> rcases h' with ⟨h1', h2', h3'⟩ | ⟨h1', h'⟩
  · exact ⟨h2.trans h2'.symm, h3.trans h3'.symm⟩
  · omega
  · omega
  · rcases h with ⟨l, h2, h3, h4⟩ | ⟨sc, h2, h3⟩ <;> rcases h' with ⟨l', h2', h3', h4'⟩ | ⟨sc', h2', h3'⟩
    · exact ⟨h3.trans h3'.symm, h4.trans h4'.symm⟩
    · exact absurd (told_same h2 h2').1 (by decide)
    · exact absurd (told_same h2 h2').1 (by decide)
    · obtain rfl := (told_same h2 h2').2 rfl
      exact h3.same toldS_same h3'

/-- A program whose numbers behind its orders are settled. -/
def NormP (n : Nat) (L : Nat → Nat) (X : Nat → Nat → Nat → Int) : Prop := (∀ t, n ≤ t → L t = 0) ∧ (∀ t i q, L t ≤ i → X t i q = nth4 fenceI q) ∧ ∀ t i q, 4 ≤ q → X t i q = X t i 3
def normL (n : Nat) (L : Nat → Nat) : Nat → Nat := fun t => if t < n then L t else 0
def normX (n : Nat) (L : Nat → Nat) (X : Nat → Nat → Nat → Int) : Nat → Nat → Nat → Int := fun t i q => if i < normL n L t then nth4 (ordAt X t i) q else nth4 fenceI q
theorem norm_is (n : Nat) (L : Nat → Nat) (X : Nat → Nat → Nat → Int) : NormP n (normL n L) (normX n L X) := by
  refine ⟨fun t h => if_neg (by omega), fun t i q h => if_neg (by omega), fun t i q h => ?_⟩
  unfold normX
  have e : ∀ x, nth4 x q = nth4 x 3 := fun x => by
    unfold nth4
    rw [if_neg (by omega), if_neg (by omega), if_neg (by omega)]
    rfl
  rw [e, e]
theorem norm_at {n : Nat} {L : Nat → Nat} {X : Nat → Nat → Nat → Int} {t i : Nat} (ht : t < n) (hi : i < normL n L t) : normL n L t = L t ∧ normX n L X t i 0 = X t i 0 ∧ normX n L X t i 1 = X t i 1 ∧ normX n L X t i 2 = X t i 2 ∧ normX n L X t i 3 = X t i 3 :=
  ⟨if_pos ht, if_pos hi, if_pos hi, if_pos hi, if_pos hi⟩
/-- Without fences nothing changes. -/
theorem set_none {n : Nat} {L : Nat → Nat} {X : Nat → Nat → Nat → Int} {m lk rg : Nat} (hn : NormP n L X) (hc : COk n L X m lk rg) : lenR (bSet X []) L = L ∧ numR (bSet X []) L = X := by
  have hb : ∀ t i, bSet X [] t i = [ordAt X t i] := fun t i => rfl
  have hpl : ∀ t i, plR (bSet X [] t) i = i := fun t i => by
    induction i with
    | zero => rfl
    | succ i ih => rw [plR, ih, hb]; rfl
  have hl : lenR (bSet X []) L = L := by
    funext t
    unfold lenR
    rw [code_len, hpl]
  refine ⟨hl, ?_⟩
  funext t i q
  by_cases h : i < L t
  · have ht : t < n := by
      by_cases e : t < n
      · exact e
      · have := hn.1 t (by omega)
        omega
    have h0 := code_at (b := bSet X [] t) (i := i) (k := 0) (L := L t) (by rw [hb]; simp) h fenceI
    rw [hpl, Nat.add_zero, hb] at h0
    unfold numR
    rw [h0]
    have hx : ledO (plR (bSet X [] t)) (ordAt X t i) = ordAt X t i := by
      have ho := hc.ord t i ht h
      unfold ledO
      rw [hpl, hpl]
      have e1 : (if (ordAt X t i).1 = 14 then ((ordAt X t i).2.1.toNat : Int) else (ordAt X t i).2.1) = (ordAt X t i).2.1 := by
        split
        · rename_i e
          have e' : X t i 0 = 14 := e
          rw [e'] at ho
          exact Int.toNat_of_nonneg (ok_jump ho).1
        · rfl
      have e2 : (if (ordAt X t i).1 = 15 then ((ordAt X t i).2.2.1.toNat : Int) else (ordAt X t i).2.2.1) = (ordAt X t i).2.2.1 := by
        split
        · rename_i e
          have e' : X t i 0 = 15 := e
          rw [e'] at ho
          exact Int.toNat_of_nonneg (ok_zero ho).2.1
        · rfl
      rw [e1, e2]
    have e3 : ([ordAt X t i].getD 0 fenceI) = ordAt X t i := rfl
    rw [e3, hx]
    unfold nth4
    split
    · rename_i e; subst e; rfl
    · split
      · rename_i e; subst e; rfl
      · split
        · rename_i e; subst e; rfl
        · rename_i h1 h2 h3
          by_cases e : q = 3
          · subst e; rfl
          · rw [hn.2.2 t i q (by omega)]; rfl
  · unfold numR
    rw [List.getD_eq_getElem?_getD, List.getElem?_eq_none (by rw [code_len, hpl]; omega)]
    exact (hn.2.1 t i q (by omega)).symm
/-- With a fence behind each of all places the program is the fenced one. -/
theorem set_full {n : Nat} {L : Nat → Nat} {X : Nat → Nat → Nat → Int} (hn : NormP n L X) : bSet X (plA L X n) = bFull X := by
  funext t i
  unfold bSet bFull setB
  congr 1
  by_cases h : i < L t
  · have ht : t < n := by
      by_cases e : t < n
      · exact e
      · have := hn.1 t (by omega)
        omega
    rw [Bool.eq_iff_iff, decide_eq_true_iff, plA_mem]
    exact ⟨fun h => h.2.2, fun h' => ⟨ht, h, h'⟩⟩
  · rw [hn.2.1 t i 0 (by omega), decide_eq_false (fun h' => h (plA_mem.1 h').2.1)]
    rfl
theorem bSet_in (X : Nat → Nat → Nat → Int) (S : List Pl) (t i : Nat) (x : I4) (h : x ∈ bSet X S t i) : x = ordAt X t i ∨ x = fenceI := by
  unfold bSet bWith at h
  split at h
  · simpa using h
  · exact Or.inl (by simpa using h)
/-- How long threads become. -/
theorem set_len (L : Nat → Nat) (X : Nat → Nat → Nat → Int) (S : List Pl) (t : Nat) : lenR (bSet X S) L t ≤ 2 * L t := by
  unfold lenR
  rw [code_len]
  have : ∀ i, plR (bSet X S t) i ≤ 2 * i := fun i => by
    induction i with
    | zero => exact Nat.le_refl _
    | succ i ih =>
      rw [plR]
      have : (bSet X S t i).length ≤ 2 := by unfold bSet bWith; split <;> simp
      omega
  exact this _
theorem set_cok {n m lk rg : Nat} {L : Nat → Nat} {X : Nat → Nat → Nat → Int} (hc : COk n L X m lk rg) (h4 : ∀ t, t < n → L t ≤ 400) (S : List Pl) : COk n (lenR (bSet X S) L) (numR (bSet X S) L) m lk rg :=
  new_cok hc (bSet X S) (fun t i _ _ x hx => bSet_in X S t i x hx) (fun t ht => by have := set_len L X S t; have := h4 t ht; omega)
end

end Go.Proofs.YtelckcpjmekgcadGreatDoor
