/-
  What the document's Check does, thread by thread.
-/
import Derived.Test.YtocfocjnnjdcgaaDoorBox
namespace Go.Proofs.YtocfocjnnjdcgaaDoor
open Go.RowKit

theorem nm_in {op x y z : Int} (h : kd op = some (x, y, z)) : (nm op).toList.isEmpty = false := by
  rcases op_cases op with h1 | rfl | rfl | rfl | rfl | rfl | rfl | rfl | rfl | rfl | rfl | rfl | rfl | rfl | rfl | rfl | rfl | rfl | rfl
  · rw [kd_out h1] at h; cases h
  all_goals (rw [ByteArray.toList_eq]; rfl)

theorem order_names {op x y z : Int} (h : kd op = some (x, y, z)) : ∃ N K : ByteArray, nm op = N ∧ ks op = K ∧ N.toList.isEmpty = false ∧ K.size ≤ 3 ∧
    (∀ k (hk : k < K.size), (1 ≤ kj x y z k ∧ kj x y z k ≤ 5) ∧ (K[k].toNat : Int) = letter (kj x y z k)) ∧ ∀ k, K.size ≤ k → k < 3 → kj x y z k = 0 :=
  let ⟨h1, h2, h3⟩ := ks_spec h
  ⟨nm op, ks op, rfl, rfl, nm_in h, h1, h2, h3⟩

theorem bad_order {n k j : Nat} {rg wd lk x y z kx ky kz : Int} {L : Nat → Nat} {X : Nat → Nat → Nat → Int} (hlt : k < n) (hjl : j < L k) (h1 : firstThread (thr rg wd lk L X) (n - k) k = (x, y, z))
    (h2 : firstBad (fun i => ordE rg wd lk (L k) (X k i 0) (X k i 1) (X k i 2) (X k i 3)) (L k - j) j = thr rg wd lk L X k) (h3 : kd (X k j 0) = some (kx, ky, kz))
    (h4 : (okN rg wd lk (L k) kx (X k j 1) && okN rg wd lk (L k) ky (X k j 2) && okN rg wd lk (L k) kz (X k j 3)) = false) : (x, y, z) = (3, (k : Int), (j : Int)) := by
  have he : ordE rg wd lk (L k) (X k j 0) (X k j 1) (X k j 2) (X k j 3) = 3 := by simp [ordE, h3, h4]
  have := firstBad_hit (E := fun i => ordE rg wd lk (L k) (X k i 0) (X k i 1) (X k i 2) (X k i 3)) hjl (by rw [he]; decide)
  rw [h2, he] at this
  rw [← h1, firstThread_hit hlt this]
theorem good_order {k j : Nat} {rg wd lk kx ky kz : Int} {L : Nat → Nat} {X : Nat → Nat → Nat → Int} (hjl : j < L k)
    (h2 : firstBad (fun i => ordE rg wd lk (L k) (X k i 0) (X k i 1) (X k i 2) (X k i 3)) (L k - j) j = thr rg wd lk L X k) (h3 : kd (X k j 0) = some (kx, ky, kz))
    (h4 : (okN rg wd lk (L k) kx (X k j 1) && okN rg wd lk (L k) ky (X k j 2) && okN rg wd lk (L k) kz (X k j 3)) = true) :
    firstBad (fun i => ordE rg wd lk (L k) (X k i 0) (X k i 1) (X k i 2) (X k i 3)) (L k - (j + 1)) (j + 1) = thr rg wd lk L X k := by
  rw [← firstBad_step hjl (by simp [ordE, h3, h4])]
  exact h2

set_option maxRecDepth 20000 in
set_option maxHeartbeats 2000000 in
theorem rcheck_go (ca : Option Addr) (n cc : Nat) (wa : Option Addr) (m wc : Nat) (lk rg : Int) (A : Nat → Option Addr) (L C : Nat → Nat) (X : Nat → Nat → Nat → Int) (x y z : Int) (h1 : 1 ≤ (n : Int) ∧ (n : Int) ≤ 4) (h2 : (m : Int) ≤ 64) (h3 : 0 ≤ lk ∧ lk ≤ 4) (h4 : 1 ≤ rg ∧ rg ≤ 200)
    (HR : Hid (firstThread (thr rg m lk L X) n 0 = (x, y, z))) (w : World) (hp : PIn w ca n A L C X) :
    Calls Tryd.prog 10 #[prgV ca n cc wa m wc lk rg] w fun e w' => e = .returned (ints3 x y z) ∧ Below w.heap.size w w' := by
  have hby := boxes_made w ca n cc wa m wc lk rg 25 30
  go_enter Tryd.func10, Tryd.ntmps10
  go_wp2
  clear h1 h2 h3 h4
  have HB2 : Below w.heap.size w ((w.alloc (.cells #[.slice ca n cc, .slice wa m wc, .int .i64 lk, .int .i64 rg] 25)).alloc (.cells #[.int .i64 0, .int .i64 0, .int .i64 0] 30)) := ((Below.refl _ _).alloc (Nat.le_refl _) _).alloc (by simp) _
  have hp2 := hp.below HB2
  have hn := hp.num
  clear hp
  go_loopw [3] (fun i wr => ∃ k : Nat, k ≤ n ∧ i = .int .i64 k ∧ Below (w.heap.size + 2) ((w.alloc (.cells #[.slice ca n cc, .slice wa m wc, .int .i64 lk, .int .i64 rg] 25)).alloc (.cells #[.int .i64 0, .int .i64 0, .int .i64 0] 30)) wr ∧ firstThread (thr rg m lk L X) (n - k) k = (x, y, z)) (fun i _ => n - (intOf i).toNat)
  case atStart => exact ⟨0, Nat.zero_le _, rfl, Below.refl _ _, HR.out⟩
  case round =>
    obtain ⟨k, hk, rfl, hbr, hr⟩ := hrel
    have HK : Hid (firstThread (thr rg m lk L X) (n - k) k = (x, y, z)) := hr
    clear hr
    have hbr2 : Below w.heap.size w wr := HB2.trans (hbr.mono (by omega))
    by_cases hlt : k < n
    · obtain ⟨cb, co, rfl, hcell⟩ := (hp2.below (hbr.mono (by simp))).code k hlt
      have hbo := hby.below (hbr.mono (by simp))
      obtain ⟨hsz, p0, p1, p2, p3, r0, r1, r2, f0, f1, f2⟩ := hbo
      by_cases h400 : 400 < L k
      · have hend : (x, y, z) = (1, (k : Int), 0) := by rw [← HK.out, firstThread_hit hlt (by unfold thr; rw [if_pos h400])]
        have HE : Hid ((x, y, z) = (1, (k : Int), 0)) := hend
        clear hend
        go_wp2
        exact bodyPost_ret (v := ints3 1 k 0) (by simp [results, Tryd.results10, go_sem, r0, r1, r2]) rfl
          ⟨ret3 HE.out, ((hbr2.setCell (by simp) _).setCell (by simp) _).setCell (by simp) _⟩
      · have hl : L k ≤ 400 := by omega
        rcases Nat.eq_zero_or_pos (L k) with hz | hpos
        · have HZ : Hid (L k = 0) := hz
          clear hz
          go_wp2
          clear hsz p0 p1 p2 p3 r0 r1 r2 f0 f1 f2 hcell
          go_loopw [4] (fun i wi => ∃ j : Nat, j ≤ L k ∧ i = .int .i64 j ∧ Below wr.heap.size wr wi ∧ firstBad (fun i => ordE rg m lk (L k) (X k i 0) (X k i 1) (X k i 2) (X k i 3)) (L k - j) j = thr rg m lk L X k) (fun i _ => L k - (intOf i).toNat)
          case atStart => exact ⟨0, Nat.zero_le _, rfl, Below.refl _ _, by unfold thr; rw [if_neg h400]; rfl⟩
          case round =>
            obtain ⟨j, hj, rfl, hbi, hfj⟩ := hrel
            have HF : Hid (firstBad (fun i => ordE rg m lk (L k) (X k i 0) (X k i 1) (X k i 2) (X k i 3)) (L k - j) j = thr rg m lk L X k) := hfj
            clear hfj
            have hb0i := hbr.trans (hbi.mono (by have := hbr.size; simp at this; omega))
            have hb2i := hbr2.trans (hbi.mono hbr2.size)
            obtain ⟨cb', co', hcc, hcell⟩ := (hp2.below (hb0i.mono (by simp))).code k hlt
            obtain ⟨rfl, rfl⟩ : cb' = cb ∧ co' = co := by simpa [eq_comm] using hcc
            clear hcc
            have hbo := hby.below (hb0i.mono (by simp))
            obtain ⟨hsz, p0, p1, p2, p3, r0, r1, r2, f0, f1, f2⟩ := hbo
            have hz0 : w.heap.size < wr.heap.size := by omega
            have hz1 : w.heap.size + 1 < wr.heap.size := by omega
            by_cases hjl : j < L k
            · exact absurd hjl (by have := HZ.out; omega)
            · have hth : thr rg m lk L X k = none := by rw [← HF.out, firstBad_end (by omega)]
              have HK2 : Hid (firstThread (thr rg m lk L X) (n - (k + 1)) (k + 1) = (x, y, z)) := by rw [← firstThread_step hlt hth]; exact HK.out
              clear hth HK HF
              go_wp2
              go_roundw
              case rel => exact ⟨k + 1, by omega, by go_num, hb0i, HK2.out⟩
              case measure => simp [intOf]; omega
        · obtain ⟨ab, ao, hA⟩ : ∃ ab ao, A k = some ⟨ab, ao, none⟩ := let ⟨ab, ao, h, _⟩ := hp2.ord k 0 hlt hpos; ⟨ab, ao, h⟩
          rw [hA] at hcell
          go_wp2
          clear hsz p0 p1 p2 p3 r0 r1 r2 f0 f1 f2 hcell
          go_loopw [4] (fun i wi => ∃ j : Nat, j ≤ L k ∧ i = .int .i64 j ∧ Below wr.heap.size wr wi ∧ firstBad (fun i => ordE rg m lk (L k) (X k i 0) (X k i 1) (X k i 2) (X k i 3)) (L k - j) j = thr rg m lk L X k) (fun i _ => L k - (intOf i).toNat)
          case atStart => exact ⟨0, Nat.zero_le _, rfl, Below.refl _ _, by unfold thr; rw [if_neg h400]; rfl⟩
          case round =>
            obtain ⟨j, hj, rfl, hbi, hfj⟩ := hrel
            have HF : Hid (firstBad (fun i => ordE rg m lk (L k) (X k i 0) (X k i 1) (X k i 2) (X k i 3)) (L k - j) j = thr rg m lk L X k) := hfj
            clear hfj
            have hb0i := hbr.trans (hbi.mono (by have := hbr.size; simp at this; omega))
            have hb2i := hbr2.trans (hbi.mono hbr2.size)
            obtain ⟨cb', co', hcc, hcell⟩ := (hp2.below (hb0i.mono (by simp))).code k hlt
            obtain ⟨rfl, rfl⟩ : cb' = cb ∧ co' = co := by simpa [eq_comm] using hcc
            clear hcc
            rw [hA] at hcell
            have hbo := hby.below (hb0i.mono (by simp))
            obtain ⟨hsz, p0, p1, p2, p3, r0, r1, r2, f0, f1, f2⟩ := hbo
            have hz0 : w.heap.size < wr.heap.size := by omega
            have hz1 : w.heap.size + 1 < wr.heap.size := by omega
            by_cases hjl : j < L k
            · obtain ⟨b', o', hA', c0, c1, c2, c3⟩ := (hp2.below (hb0i.mono (by simp))).ord k j hlt hjl
              obtain ⟨rfl, rfl⟩ : b' = ab ∧ o' = ao := by rw [hA] at hA'; simpa [eq_comm] using hA'
              clear hA'
              by_cases ho : X k j 0 < 1 ∨ 18 < X k j 0
              · have HE2 : Hid ((x, y, z) = (2, (k : Int), (j : Int))) := by
                  have he : ordE rg m lk (L k) (X k j 0) (X k j 1) (X k j 2) (X k j 3) = 2 := by unfold ordE; rw [kd_out ho]
                  have := firstBad_hit (E := (fun i => ordE rg m lk (L k) (X k i 0) (X k i 1) (X k i 2) (X k i 3))) hjl (by rw [he]; decide)
                  rw [HF.out, he] at this
                  show (x, y, z) = _
                  rw [← HK.out, firstThread_hit hlt this]
                have hnm := nm_out ho
                have hks := ks_out ho
                have HO : Hid (X k j 0 < 1 ∨ 18 < X k j 0) := ho
                clear HF HK ho
                go_wp2_with (first | (go_at_call 31; refine (name_any _ _).mono ?_; rintro e w5 ⟨rfl, rfl⟩; rw [hnm, hks]))
                exact bodyPost_ret (v := ints3 2 k j) (by simp [results, Tryd.results10, go_sem, r0, r1, r2, hz1]) rfl
                  ⟨ret3 HE2.out, (((hb2i.setCell (by simp) _).setCell (by simp) _).setCell (by simp) _).alloc (by simp; omega) _⟩
              · obtain ⟨jj, kx, ky, kz, hkd, _⟩ := find_in (op := X k j 0) (by omega)
                obtain ⟨N, K, hnm, hks, hne, hs3, hin, hout⟩ := order_names hkd
                have HN : Hid (nm (X k j 0) = N) := hnm
                have HKS : Hid (ks (X k j 0) = K) := hks
                have HKD : Hid (kd (X k j 0) = some (kx, ky, kz)) := hkd
                have HIN := Hid.out (p := Hid _) hin
                have HOUT := Hid.out (p := Hid _) hout
                clear hnm hks hkd hin hout ho
                go_wp2_with (first | (go_at_call 31; refine (name_any _ _).mono ?_; rintro e w5 ⟨rfl, rfl⟩; rw [HN.out, HKS.out]) | (go_at_call 32; refine (numbers_some _ _ _ _ _).mono ?_; rintro e w6 ⟨lb, rfl, hlb, ⟨n0, n1, n2⟩, hb6⟩))
                clear hsz p0 p1 p2 p3 r0 r1 r2 f0 f1 f2 c0 c1 c2 c3 hne hcell
                have hb06 := hb0i.trans (((Below.refl _ _).alloc (by have := hb0i.size; simpa using this) _).trans (hb6.mono (by have := hb0i.size; simp at this; simp; omega)))
                go_loopw [9] (fun i wi => ∃ q : Int, (0 ≤ q ∧ q ≤ 3) ∧ i = .int .i64 q ∧ Below w6.heap.size w6 wi ∧ (0 < q → okN rg m lk (L k) kx (X k j 1) = true) ∧ (1 < q → okN rg m lk (L k) ky (X k j 2) = true) ∧ (2 < q → okN rg m lk (L k) kz (X k j 3) = true)) (fun i _ => 3 - (intOf i).toNat)
                case atStart => exact ⟨0, by omega, rfl, Below.refl _ _, by omega, by omega, by omega⟩
                case round =>
                  obtain ⟨q, hq, rfl, hbq, ha, hb', hc'⟩ := hrel
                  have hb0q := hb06.trans (hbq.mono (by have := hb06.size; simp at this; omega))
                  obtain ⟨cb2, co2, hcc, hcell⟩ := (hp2.below (hb0q.mono (by simp))).code k hlt
                  obtain ⟨rfl, rfl⟩ : cb2 = cb' ∧ co2 = co' := by simpa [eq_comm] using hcc
                  clear hcc
                  rw [hA] at hcell
                  have hbo := hby.below (hb0q.mono (by simp))
                  obtain ⟨hsz, p0, p1, p2, p3, r0, r1, r2, f0, f1, f2⟩ := hbo
                  rw [← hbq.cell (p := ⟨lb, _, none⟩) hlb] at n0 n1 n2
                  have hz0 : w.heap.size < wr.heap.size := by omega
                  have hz1 : w.heap.size + 1 < wr.heap.size := by omega
                  have hki : (k : Int) < (n : Int) := by omega
                  have hki0 : (0 : Int) ≤ (k : Int) := by omega
                  have hlb2 : lb < wr.heap.size := Nat.lt_of_lt_of_le hlb hbq.size
                  have hcb2 : cb2 < wr.heap.size := lt_of_cell hcell
                  have hb2q : Below w.heap.size w wr := HB2.trans (hb0q.mono (by omega))
                  rcases (by omega : q = 0 ∨ q = 1 ∨ q = 2 ∨ q = 3) with rfl | rfl | rfl | rfl
                  · by_cases hK : 0 < K.size
                    · obtain ⟨hkk, hlet⟩ := HIN.out 0 hK
                      have hkk : 1 ≤ kx ∧ kx ≤ 5 := hkk
                      have hlet : ((K[0]'hK).toNat : Int) = letter kx := hlet
                      have hKi : (0 : Int) < (K.size : Int) := by omega
                      by_cases hok : okN rg m lk (L k) kx (X k j 1) = true
                      · go_wp2
                        go_region_held3 (fun w' => w'.cell? ⟨w.heap.size, 0, none⟩ = some (.slice (some ⟨cb2, co2, none⟩) n cc) ∧ w'.cell? ⟨w.heap.size, 1, none⟩ = some (.slice wa m wc) ∧ w'.cell? ⟨w.heap.size, 2, none⟩ = some (.int .i64 lk) ∧ w'.cell? ⟨w.heap.size, 3, none⟩ = some (.int .i64 rg) ∧ w'.cell? ⟨cb2, co2 + k, none⟩ = some (.slice (some ⟨b', o', none⟩) (L k) (C k)) ∧ w'.cell? ⟨lb, 0, none⟩ = some (.int .i64 (X k j 1))) (go_keep)
                          (first | (go_at_call 33; refine (fits_any _ _ _ _ _ _ _ _ (L k) hl kx (X k j 1) hkk _).mono ?_; rintro e w7 ⟨rfl, hb7⟩; have hc7 := fun b o (h : b < wr.heap.size) => hb7.cell (p := ⟨b, o, none⟩) h))
                        go_wp2
                        go_roundw
                        case rel => exact ⟨1, by omega, by go_num, hbq.drew.trans (hb7.mono hbq.size), fun _ => hok, fun h => absurd h (by omega), fun h => absurd h (by omega)⟩
                        case measure => simp [intOf]
                      · have hno : okN rg m lk (L k) kx (X k j 1) = false := by simpa using hok
                        clear hok
                        have HE2 : Hid ((x, y, z) = (3, (k : Int), (j : Int))) := bad_order hlt hjl HK.out HF.out HKD.out (by simp [hno])
                        clear HF HK
                        go_wp2
                        go_region_held3 (fun w' => w'.cell? ⟨w.heap.size, 0, none⟩ = some (.slice (some ⟨cb2, co2, none⟩) n cc) ∧ w'.cell? ⟨w.heap.size, 1, none⟩ = some (.slice wa m wc) ∧ w'.cell? ⟨w.heap.size, 2, none⟩ = some (.int .i64 lk) ∧ w'.cell? ⟨w.heap.size, 3, none⟩ = some (.int .i64 rg) ∧ w'.cell? ⟨cb2, co2 + k, none⟩ = some (.slice (some ⟨b', o', none⟩) (L k) (C k)) ∧ w'.cell? ⟨lb, 0, none⟩ = some (.int .i64 (X k j 1))) (go_keep)
                          (first | (go_at_call 33; refine (fits_any _ _ _ _ _ _ _ _ (L k) hl kx (X k j 1) hkk _).mono ?_; rintro e w7 ⟨rfl, hb7⟩; have hc7 := fun b o (h : b < wr.heap.size) => hb7.cell (p := ⟨b, o, none⟩) h; have g0 := (hc7 (w.heap.size + 1) 0 hz1).trans r0; have e0 := (hb7.frozen (p := ⟨w.heap.size + 1, 0, none⟩) hz1).trans f0; have g1 := (hc7 (w.heap.size + 1) 1 hz1).trans r1; have e1 := (hb7.frozen (p := ⟨w.heap.size + 1, 1, none⟩) hz1).trans f1; have g2 := (hc7 (w.heap.size + 1) 2 hz1).trans r2; have e2 := (hb7.frozen (p := ⟨w.heap.size + 1, 2, none⟩) hz1).trans f2))
                        go_wp2
                        all_goals exact bodyPost_ret (v := ints3 3 k j) (by simp [results, Tryd.results10, go_sem, g0, g1, g2]) rfl ⟨ret3 HE2.out, (((hb2q.drew.trans (hb7.mono hb2q.size)).setCell (by simp) _).setCell (by simp) _).setCell (by simp) _⟩
                    · have hk0 : kx = 0 := HOUT.out 0 (by omega) (by omega)
                      have hKi : (K.size : Int) ≤ 0 := by omega
                      have HK0 : Hid (kx = 0) := hk0
                      clear hk0
                      by_cases hx : X k j 1 = 0
                      · have hok : okN rg m lk (L k) kx (X k j 1) = true := by rw [HK0.out, hx]; simp [okN, lim]
                        have hxb : (X k j 1 == 0) = true := by simpa using hx
                        clear hx
                        go_wp2
                        go_roundw
                        case rel => exact ⟨1, by omega, by go_num, hbq, fun _ => hok, fun h => absurd h (by omega), fun h => absurd h (by omega)⟩
                        case measure => simp [intOf]
                      · have hno : okN rg m lk (L k) kx (X k j 1) = false := by rw [HK0.out]; simp [okN, lim]; omega
                        have hxb : (X k j 1 == 0) = false := by simpa using hx
                        clear hx
                        have HE2 : Hid ((x, y, z) = (3, (k : Int), (j : Int))) := bad_order hlt hjl HK.out HF.out HKD.out (by simp [hno])
                        clear HF HK
                        go_wp2
                        all_goals exact bodyPost_ret (v := ints3 3 k j) (by simp [results, Tryd.results10, go_sem, r0, r1, r2]) rfl ⟨ret3 HE2.out, ((hb2q.setCell (by simp) _).setCell (by simp) _).setCell (by simp) _⟩
                  · by_cases hK : 1 < K.size
                    · obtain ⟨hkk, hlet⟩ := HIN.out 1 hK
                      have hkk : 1 ≤ ky ∧ ky ≤ 5 := hkk
                      have hlet : ((K[1]'hK).toNat : Int) = letter ky := hlet
                      have hKi : (1 : Int) < (K.size : Int) := by omega
                      by_cases hok : okN rg m lk (L k) ky (X k j 2) = true
                      · go_wp2
                        go_region_held3 (fun w' => w'.cell? ⟨w.heap.size, 0, none⟩ = some (.slice (some ⟨cb2, co2, none⟩) n cc) ∧ w'.cell? ⟨w.heap.size, 1, none⟩ = some (.slice wa m wc) ∧ w'.cell? ⟨w.heap.size, 2, none⟩ = some (.int .i64 lk) ∧ w'.cell? ⟨w.heap.size, 3, none⟩ = some (.int .i64 rg) ∧ w'.cell? ⟨cb2, co2 + k, none⟩ = some (.slice (some ⟨b', o', none⟩) (L k) (C k)) ∧ w'.cell? ⟨lb, 1, none⟩ = some (.int .i64 (X k j 2))) (go_keep)
                          (first | (go_at_call 33; refine (fits_any _ _ _ _ _ _ _ _ (L k) hl ky (X k j 2) hkk _).mono ?_; rintro e w7 ⟨rfl, hb7⟩; have hc7 := fun b o (h : b < wr.heap.size) => hb7.cell (p := ⟨b, o, none⟩) h))
                        go_wp2
                        go_roundw
                        case rel => exact ⟨2, by omega, by go_num, hbq.drew.trans (hb7.mono hbq.size), fun _ => ha (by omega), fun _ => hok, fun h => absurd h (by omega)⟩
                        case measure => simp [intOf]
                      · have hno : okN rg m lk (L k) ky (X k j 2) = false := by simpa using hok
                        clear hok
                        have HE2 : Hid ((x, y, z) = (3, (k : Int), (j : Int))) := bad_order hlt hjl HK.out HF.out HKD.out (by simp [hno])
                        clear HF HK
                        go_wp2
                        go_region_held3 (fun w' => w'.cell? ⟨w.heap.size, 0, none⟩ = some (.slice (some ⟨cb2, co2, none⟩) n cc) ∧ w'.cell? ⟨w.heap.size, 1, none⟩ = some (.slice wa m wc) ∧ w'.cell? ⟨w.heap.size, 2, none⟩ = some (.int .i64 lk) ∧ w'.cell? ⟨w.heap.size, 3, none⟩ = some (.int .i64 rg) ∧ w'.cell? ⟨cb2, co2 + k, none⟩ = some (.slice (some ⟨b', o', none⟩) (L k) (C k)) ∧ w'.cell? ⟨lb, 1, none⟩ = some (.int .i64 (X k j 2))) (go_keep)
                          (first | (go_at_call 33; refine (fits_any _ _ _ _ _ _ _ _ (L k) hl ky (X k j 2) hkk _).mono ?_; rintro e w7 ⟨rfl, hb7⟩; have hc7 := fun b o (h : b < wr.heap.size) => hb7.cell (p := ⟨b, o, none⟩) h; have g0 := (hc7 (w.heap.size + 1) 0 hz1).trans r0; have e0 := (hb7.frozen (p := ⟨w.heap.size + 1, 0, none⟩) hz1).trans f0; have g1 := (hc7 (w.heap.size + 1) 1 hz1).trans r1; have e1 := (hb7.frozen (p := ⟨w.heap.size + 1, 1, none⟩) hz1).trans f1; have g2 := (hc7 (w.heap.size + 1) 2 hz1).trans r2; have e2 := (hb7.frozen (p := ⟨w.heap.size + 1, 2, none⟩) hz1).trans f2))
                        go_wp2
                        all_goals exact bodyPost_ret (v := ints3 3 k j) (by simp [results, Tryd.results10, go_sem, g0, g1, g2]) rfl ⟨ret3 HE2.out, (((hb2q.drew.trans (hb7.mono hb2q.size)).setCell (by simp) _).setCell (by simp) _).setCell (by simp) _⟩
                    · have hk0 : ky = 0 := HOUT.out 1 (by omega) (by omega)
                      have hKi : (K.size : Int) ≤ 1 := by omega
                      have HK0 : Hid (ky = 0) := hk0
                      clear hk0
                      by_cases hx : X k j 2 = 0
                      · have hok : okN rg m lk (L k) ky (X k j 2) = true := by rw [HK0.out, hx]; simp [okN, lim]
                        have hxb : (X k j 2 == 0) = true := by simpa using hx
                        clear hx
                        go_wp2
                        go_roundw
                        case rel => exact ⟨2, by omega, by go_num, hbq, fun _ => ha (by omega), fun _ => hok, fun h => absurd h (by omega)⟩
                        case measure => simp [intOf]
                      · have hno : okN rg m lk (L k) ky (X k j 2) = false := by rw [HK0.out]; simp [okN, lim]; omega
                        have hxb : (X k j 2 == 0) = false := by simpa using hx
                        clear hx
                        have HE2 : Hid ((x, y, z) = (3, (k : Int), (j : Int))) := bad_order hlt hjl HK.out HF.out HKD.out (by simp [hno])
                        clear HF HK
                        go_wp2
                        all_goals exact bodyPost_ret (v := ints3 3 k j) (by simp [results, Tryd.results10, go_sem, r0, r1, r2]) rfl ⟨ret3 HE2.out, ((hb2q.setCell (by simp) _).setCell (by simp) _).setCell (by simp) _⟩
                  · by_cases hK : 2 < K.size
                    · obtain ⟨hkk, hlet⟩ := HIN.out 2 hK
                      have hkk : 1 ≤ kz ∧ kz ≤ 5 := hkk
                      have hlet : ((K[2]'hK).toNat : Int) = letter kz := hlet
                      have hKi : (2 : Int) < (K.size : Int) := by omega
                      by_cases hok : okN rg m lk (L k) kz (X k j 3) = true
                      · go_wp2
                        go_region_held3 (fun w' => w'.cell? ⟨w.heap.size, 0, none⟩ = some (.slice (some ⟨cb2, co2, none⟩) n cc) ∧ w'.cell? ⟨w.heap.size, 1, none⟩ = some (.slice wa m wc) ∧ w'.cell? ⟨w.heap.size, 2, none⟩ = some (.int .i64 lk) ∧ w'.cell? ⟨w.heap.size, 3, none⟩ = some (.int .i64 rg) ∧ w'.cell? ⟨cb2, co2 + k, none⟩ = some (.slice (some ⟨b', o', none⟩) (L k) (C k)) ∧ w'.cell? ⟨lb, 2, none⟩ = some (.int .i64 (X k j 3))) (go_keep)
                          (first | (go_at_call 33; refine (fits_any _ _ _ _ _ _ _ _ (L k) hl kz (X k j 3) hkk _).mono ?_; rintro e w7 ⟨rfl, hb7⟩; have hc7 := fun b o (h : b < wr.heap.size) => hb7.cell (p := ⟨b, o, none⟩) h))
                        go_wp2
                        go_roundw
                        case rel => exact ⟨3, by omega, by go_num, hbq.drew.trans (hb7.mono hbq.size), fun _ => ha (by omega), fun _ => hb' (by omega), fun _ => hok⟩
                        case measure => simp [intOf]
                      · have hno : okN rg m lk (L k) kz (X k j 3) = false := by simpa using hok
                        clear hok
                        have HE2 : Hid ((x, y, z) = (3, (k : Int), (j : Int))) := bad_order hlt hjl HK.out HF.out HKD.out (by simp [hno])
                        clear HF HK
                        go_wp2
                        go_region_held3 (fun w' => w'.cell? ⟨w.heap.size, 0, none⟩ = some (.slice (some ⟨cb2, co2, none⟩) n cc) ∧ w'.cell? ⟨w.heap.size, 1, none⟩ = some (.slice wa m wc) ∧ w'.cell? ⟨w.heap.size, 2, none⟩ = some (.int .i64 lk) ∧ w'.cell? ⟨w.heap.size, 3, none⟩ = some (.int .i64 rg) ∧ w'.cell? ⟨cb2, co2 + k, none⟩ = some (.slice (some ⟨b', o', none⟩) (L k) (C k)) ∧ w'.cell? ⟨lb, 2, none⟩ = some (.int .i64 (X k j 3))) (go_keep)
                          (first | (go_at_call 33; refine (fits_any _ _ _ _ _ _ _ _ (L k) hl kz (X k j 3) hkk _).mono ?_; rintro e w7 ⟨rfl, hb7⟩; have hc7 := fun b o (h : b < wr.heap.size) => hb7.cell (p := ⟨b, o, none⟩) h; have g0 := (hc7 (w.heap.size + 1) 0 hz1).trans r0; have e0 := (hb7.frozen (p := ⟨w.heap.size + 1, 0, none⟩) hz1).trans f0; have g1 := (hc7 (w.heap.size + 1) 1 hz1).trans r1; have e1 := (hb7.frozen (p := ⟨w.heap.size + 1, 1, none⟩) hz1).trans f1; have g2 := (hc7 (w.heap.size + 1) 2 hz1).trans r2; have e2 := (hb7.frozen (p := ⟨w.heap.size + 1, 2, none⟩) hz1).trans f2))
                        go_wp2
                        all_goals exact bodyPost_ret (v := ints3 3 k j) (by simp [results, Tryd.results10, go_sem, g0, g1, g2]) rfl ⟨ret3 HE2.out, (((hb2q.drew.trans (hb7.mono hb2q.size)).setCell (by simp) _).setCell (by simp) _).setCell (by simp) _⟩
                    · have hk0 : kz = 0 := HOUT.out 2 (by omega) (by omega)
                      have hKi : (K.size : Int) ≤ 2 := by omega
                      have HK0 : Hid (kz = 0) := hk0
                      clear hk0
                      by_cases hx : X k j 3 = 0
                      · have hok : okN rg m lk (L k) kz (X k j 3) = true := by rw [HK0.out, hx]; simp [okN, lim]
                        have hxb : (X k j 3 == 0) = true := by simpa using hx
                        clear hx
                        go_wp2
                        go_roundw
                        case rel => exact ⟨3, by omega, by go_num, hbq, fun _ => ha (by omega), fun _ => hb' (by omega), fun _ => hok⟩
                        case measure => simp [intOf]
                      · have hno : okN rg m lk (L k) kz (X k j 3) = false := by rw [HK0.out]; simp [okN, lim]; omega
                        have hxb : (X k j 3 == 0) = false := by simpa using hx
                        clear hx
                        have HE2 : Hid ((x, y, z) = (3, (k : Int), (j : Int))) := bad_order hlt hjl HK.out HF.out HKD.out (by simp [hno])
                        clear HF HK
                        go_wp2
                        all_goals exact bodyPost_ret (v := ints3 3 k j) (by simp [results, Tryd.results10, go_sem, r0, r1, r2]) rfl ⟨ret3 HE2.out, ((hb2q.setCell (by simp) _).setCell (by simp) _).setCell (by simp) _⟩
                  · have HF2 : Hid (firstBad (fun i => ordE rg m lk (L k) (X k i 0) (X k i 1) (X k i 2) (X k i 3)) (L k - (j + 1)) (j + 1) = thr rg m lk L X k) := good_order hjl HF.out HKD.out (by simp [ha (by omega), hb' (by omega), hc' (by omega)])
                    clear HF ha hb' hc'
                    go_wp2
                    go_roundw
                    case rel => exact ⟨j + 1, by omega, by go_num, hbi.trans (((Below.refl _ _).alloc hbi.size _).trans ((hb6.mono (by have := hbi.size; simp; omega)).trans (hbq.mono (by have := hbi.size; have := hb6.size; simp at this; omega)))), HF2.out⟩
                    case measure => simp [intOf]; omega
            · have hth : thr rg m lk L X k = none := by rw [← HF.out, firstBad_end (by omega)]
              have HK2 : Hid (firstThread (thr rg m lk L X) (n - (k + 1)) (k + 1) = (x, y, z)) := by rw [← firstThread_step hlt hth]; exact HK.out
              clear hth HK HF
              go_wp2
              go_roundw
              case rel => exact ⟨k + 1, by omega, by go_num, hb0i, HK2.out⟩
              case measure => simp [intOf]; omega
    · have hend : (x, y, z) = (0, 0, 0) := by rw [← HK.out, firstThread_end (by omega)]
      obtain ⟨hsz, p0, p1, p2, p3, r0, r1, r2, f0, f1, f2⟩ := hby.below (hbr.mono (by simp))
      have HE : Hid ((x, y, z) = (0, 0, 0)) := hend
      clear hend
      go_wp2
      exact bodyPost_ret (v := ints3 0 0 0) (by simp [results, Tryd.results10, go_sem, r0, r1, r2]) rfl
        ⟨ret3 HE.out, ((hbr2.setCell (by simp) _).setCell (by simp) _).setCell (by simp) _⟩

end Go.Proofs.YtocfocjnnjdcgaaDoor
