/-
  What the program looks up and picks in a run: whether threads have ended, which number of the script is taken.
-/
import Derived.Test.YtipdnfpomdcenabPStepP
import Derived.Test.YtipdnfpomdcenabRRunP
namespace Go.Proofs.Ytipdnfpomdcenab
open Go.RowKit

set_option maxRecDepth 100000 in
set_option maxHeartbeats 1600000 in
theorem tended_any (w : World) (B : Nat) (Q : Cd) (sb mb : Nat) (v : Rp → Value) (s : Sx) (tb t : Nat) (hs : QSt w B Q sb mb v s) (htb : (v .thr).ownBlock = some tb) (ht : t < s.ths.length) (_hn : s.ths.length ≤ 4) (_hL : Q.L t ≤ 400) (hpc : (thOf s t).pc ≤ Q.L t) :
    Calls Try.prog 51 #[.pointer (some ⟨tb, t * 3, none⟩)] w fun e w' => e = .returned (.bool (endedT Q.L s t)) ∧ ∃ k, w' = w.drewN k := by
  have c0 := hs.code htb ht
  have c1 := hs.pc htb ht
  have hr : endedT Q.L s t = decide ((thOf s t).pc = Q.L t) := by
    unfold endedT
    exact decide_eq_decide.2 (by omega)
  rw [hr]
  obtain ⟨pc, hp⟩ : ∃ x, (thOf s t).pc = x := ⟨_, rfl⟩
  obtain ⟨l, hl⟩ : ∃ x, Q.L t = x := ⟨_, rfl⟩
  rw [hp] at c1 hpc ⊢
  rw [hl] at c0 _hL hpc ⊢
  clear hs hr hp hl htb
  go_enter Try.func51, Try.ntmps51
  go_wp2
  go_quiet (fail)
  go_wp2
  go_ret
  exact ⟨ret_bool (by rw [Bool.eq_iff_iff]; simp; omega), nq, rfl⟩

/-- Have all threads ended? -/
def allEnded (L : Nat → Nat) (s : Sx) : Bool := (List.range s.ths.length).all fun t => endedT L s t
theorem ended_bare {L : Nat → Nat} {s : Sx} (h : ∀ t, t < s.ths.length → (thOf s t).wait = []) : endedX L s = allEnded L s := by
  unfold endedX allEnded
  rw [Bool.eq_iff_iff, List.all_eq_true, List.all_eq_true]
  constructor
  · intro h1 t ht
    have := h1 t ht
    simp at this
    exact this.1
  · intro h1 t ht
    rw [h1 t ht, h t (by simpa using ht)]
    rfl

set_option maxRecDepth 100000 in
set_option maxHeartbeats 1600000 in
theorem rest_any (w : World) (B : Nat) (Q : Cd) (sb mb : Nat) (v : Rp → Value) (s : Sx) (n : Nat) (hs : QSt w B Q sb mb v s) (hn : s.ths.length = n) (h0 : 0 < n) (h4 : n ≤ 4) (hL : ∀ t, t < n → Q.L t ≤ 400) (hpc : ∀ t, t < n → (thOf s t).pc ≤ Q.L t) :
    Calls Try.prog 34 #[.pointer (some ⟨sb, 0, none⟩)] w fun e w' => e = .returned (.int .i64 (if allEnded Q.L s then 0 else 2)) ∧ Below w.heap.size w w' := by
  obtain ⟨tb, tc, hth, htb, _⟩ := hs.blk .thr (by show 0 < s.ths.length; omega)
  have c1 := hs.c1
  rw [hth] at c1
  change w.cell? ⟨sb, 1, none⟩ = some (.slice (some ⟨tb, 0, none⟩) s.ths.length tc) at c1
  rw [hn] at c1
  have HT : Hid (∀ wr t, t < n → Below w.heap.size w wr → Calls Try.prog 51 #[.pointer (some ⟨tb, t * 3, none⟩)] wr fun e w' => e = .returned (.bool (endedT Q.L s t)) ∧ ∃ k, w' = wr.drewN k) := fun wr t ht hb =>
    tended_any wr B Q sb mb v s tb t (hs.below hb) htb (by omega) (by omega) (hL t ht) (hpc t ht)
  obtain ⟨r, hr⟩ : ∃ r, allEnded Q.L s = r := ⟨_, rfl⟩
  have HR : Hid (allEnded Q.L s = r) := hr
  have HN : Hid (s.ths.length = n) := hn
  rw [hr]
  clear hr hs hth htb hn hL hpc h0
  go_enter Try.func34, Try.ntmps34
  go_wp2_with fail
  go_loopw [9] (fun i wr => ∃ j : Nat, j ≤ n ∧ i = .int .i64 j ∧ Hid (∀ p, p < j → endedT Q.L s p = true) ∧ Below w.heap.size w wr) (fun i _ => n - (intOf i).toNat)
  case atStart => exact ⟨0, Nat.zero_le _, rfl, fun p hp => absurd hp (Nat.not_lt_zero _), Below.refl _ _⟩
  case round =>
    obtain ⟨j, hj, rfl, HJ, hbr⟩ := hrel
    have c1r := (hbr.cell (lt_of_cell c1)).trans c1
    by_cases hlt : j < n
    · have HC := Hid.out (p := Hid _) (HT.out _ j hlt hbr)
      go_wp2_with fail
      refine Calls.mono HC.out ?_
      rintro e w1 ⟨rfl, kd, rfl⟩
      cases he : endedT Q.L s j with
      | true =>
        have HE : Hid (endedT Q.L s j = true) := he
        clear he HC
        go_wp2
        go_roundw
        case rel =>
          refine ⟨j + 1, by omega, by go_num, fun p hp => ?_, below_drewN hbr⟩
          rcases (by omega : p < j ∨ p = j) with h | rfl
          · exact HJ.out p h
          · exact HE.out
        case measure => simp [intOf]; omega
      | false =>
        obtain rfl : r = false := by
          rw [← HR.out]
          unfold allEnded
          rw [List.all_eq_false]
          exact ⟨j, by rw [HN.out]; simpa using hlt, by rw [he]; simp⟩
        clear he HC
        go_wp2
        go_ret
        exact ⟨rfl, below_drewN hbr⟩
    · obtain rfl : r = true := by
        rw [← HR.out]
        unfold allEnded
        rw [List.all_eq_true]
        intro p hp
        rw [HN.out] at hp
        exact HJ.out p (by simp at hp; omega)
      go_wp2
      go_ret
      exact ⟨rfl, hbr⟩

end Go.Proofs.Ytipdnfpomdcenab
