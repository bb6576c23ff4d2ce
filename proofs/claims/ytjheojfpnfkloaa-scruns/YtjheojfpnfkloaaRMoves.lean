/-
  Whether all threads have ended; what can be picked.
-/
import Derived.Test.YtjheojfpnfkloaaRDone
namespace Go.Proofs.Ytjheojfpnfkloaa
open Go.RowKit

theorem DSt.win {w : World} {B : Nat} {P : Pg} {sb : Nat} {v : Rl → Value} {s : Sx} (h : DSt w B P sb v s) {t : Nat} {a : Option Addr} {c : Nat} (hv : v (.wait t) = .slice a (thOf s t).wait.length c) : WIn w a (thOf s t).wait := fun i hi => by
  obtain ⟨rb, rc, h1, h2, _⟩ := h.waitB (t := t) (by omega)
  rw [h1] at hv
  simp only [Value.slice.injEq] at hv
  have g0 := h.fam.cell h2 (rows3_get (f := fun i j => waitC ((thOf s t).wait.getD i default) j) (j := 0) hi (by omega))
  have g1 := h.fam.cell h2 (rows3_get (f := fun i j => waitC ((thOf s t).wait.getD i default) j) (j := 1) hi (by omega))
  have g2 := h.fam.cell h2 (rows3_get (f := fun i j => waitC ((thOf s t).wait.getD i default) j) (j := 2) hi (by omega))
  exact ⟨rb, 0, hv.1.symm, by simpa [waitC] using g0, by simpa [waitC] using g1, by simpa [waitC] using g2⟩

theorem endedX_yes {L : Nat → Nat} {s : Sx} (h : ∀ p, p < s.ths.length → L p ≤ (thOf s p).pc ∧ (thOf s p).wait.length = 0) : endedX L s = true := by
  unfold endedX
  rw [List.all_eq_true]
  intro p hp
  have := h p (by simpa using hp)
  rw [endedT, decide_eq_true this.1, List.eq_nil_of_length_eq_zero this.2]
  rfl
theorem endedX_no {L : Nat → Nat} {s : Sx} {p : Nat} (hp : p < s.ths.length) (h : (thOf s p).pc < L p ∨ 0 < (thOf s p).wait.length) : endedX L s = false := by
  unfold endedX
  rw [List.all_eq_false]
  refine ⟨p, by simpa using hp, ?_⟩
  rcases h with h | h
  · rw [endedT, decide_eq_false (by omega)]; simp
  · cases hw : (thOf s p).wait with
    | nil => rw [hw] at h; simp at h
    | cons a r => simp

set_option maxRecDepth 100000 in
set_option maxHeartbeats 1600000 in
theorem ended_any (w : World) (B sb : Nat) (P : Pg) (v : Rl → Value) (s : Sx) (A : Nat → Option Addr) (L C : Nat → Nat) (X : Nat → Nat → Nat → Int) (m lk rg : Nat) (hn0 : 0 < P.n) (hs : DSt w B P sb v s) (ho : SOk P.n L m lk rg P.mode s) (hc : COk P.n L X m lk rg) (hp : PIn w P.ca P.n A L C X) :
    Calls Try.prog 26 #[.pointer (some ⟨sb, 0, none⟩)] w fun e w' => e = .returned (.bool (endedX L s)) ∧ Below w.heap.size w w' := by
  have hl := ho.ths
  have hN := hc.n4
  obtain ⟨tb, tc, hth, htb, _⟩ := hs.thrB (by omega)
  have c5 := hs.c5
  rw [hth, hl] at c5
  obtain ⟨r, hr⟩ : ∃ r, endedX L s = r := ⟨_, rfl⟩
  have HR : Hid (endedX L s = r) := hr
  rw [hr]
  clear hr
  have HN : Hid (∀ wr t, t < P.n → Below w.heap.size w wr → L t ≤ (thOf s t).pc → Calls Try.prog 40 #[.pointer (some ⟨sb, 0, none⟩), .int .i64 t] wr fun e w' => e = .returned (.tuple #[.agg #[.int .i64 0, .int .i64 0, .int .i64 0, .int .i64 0], .bool false]) ∧ Below wr.heap.size wr w') := fun wr t ht hb he =>
    next_ended sb P.ca P.n P.cc P.mode tb tc _ _ _ _ _ s A L C X hl t ht hN (hc.L4 t ht) (by have := ho.pc t ht; have := hc.L4 t ht; omega) he wr ((hs.below hb).sin hth) (hp.below hb)
  have HM : Hid (∀ wr t, t < P.n → Below w.heap.size w wr → (thOf s t).pc < L t → Calls Try.prog 40 #[.pointer (some ⟨sb, 0, none⟩), .int .i64 t] wr fun e w' => e = .returned (.tuple #[.agg #[.int .i64 (opT X s t 0), .int .i64 (opT X s t 1), .int .i64 (opT X s t 2), .int .i64 (opT X s t 3)], .bool true]) ∧ Below wr.heap.size wr w') := fun wr t ht hb he =>
    next_more sb P.ca P.n P.cc P.mode tb tc _ _ _ _ _ s A L C X hl t ht hN (hc.L4 t ht) he wr ((hs.below hb).sin hth) (hp.below hb)
  have HW : Hid (∀ t, t < P.n → ∃ qa qc, w.cell? ⟨tb, t * 3 + 2, none⟩ = some (.slice qa (thOf s t).wait.length qc) ∧ (thOf s t).wait.length ≤ 3) := fun t ht => by
    obtain ⟨qa, qc, hq⟩ := hs.waitV t
    exact ⟨qa, qc, by rw [← hq]; exact hs.wait htb (by omega), ho.wlen t ht⟩
  have HL : Hid (s.ths.length = P.n) := hl
  obtain ⟨n, hn⟩ : ∃ n, P.n = n := ⟨_, rfl⟩
  rw [hn] at HN HM HW c5 hN HL
  clear hn hs ho hc hp hl hth htb hn0
  go_enter Try.func26, Try.ntmps26
  go_wp2_with fail
  go_loopw [3] (fun i wr => ∃ j : Nat, j ≤ n ∧ i = .int .i64 j ∧ Hid (∀ p, p < j → L p ≤ (thOf s p).pc ∧ (thOf s p).wait.length = 0) ∧ Below w.heap.size w wr) (fun i _ => n - (intOf i).toNat)
  case atStart => exact ⟨0, Nat.zero_le _, rfl, fun p hp => absurd hp (Nat.not_lt_zero _), Below.refl _ _⟩
  case round =>
    obtain ⟨j, hj, rfl, HJ, hbr⟩ := hrel
    have c5r := (hbr.cell (lt_of_cell c5)).trans c5
    by_cases hlt : j < n
    · obtain ⟨qa, qc, cq, hw3⟩ := HW.out j hlt
      have cqr := (hbr.cell (lt_of_cell cq)).trans cq
      obtain ⟨k, hk⟩ : ∃ m, (thOf s j).wait.length = m := ⟨_, rfl⟩
      have HK : Hid ((thOf s j).wait.length = k) := hk
      rw [hk] at cqr hw3
      clear hk cq
      rcases Nat.lt_or_ge (thOf s j).pc (L j) with hmore | hend
      · obtain rfl : r = false := by rw [← HR.out]; exact endedX_no (by rw [HL.out]; exact hlt) (Or.inl hmore)
        have hcall := HM.out _ j hlt hbr hmore
        obtain ⟨o0, e0⟩ : ∃ x, opT X s j 0 = x := ⟨_, rfl⟩
        obtain ⟨o1, e1⟩ : ∃ x, opT X s j 1 = x := ⟨_, rfl⟩
        obtain ⟨o2, e2⟩ : ∃ x, opT X s j 2 = x := ⟨_, rfl⟩
        obtain ⟨o3, e3⟩ : ∃ x, opT X s j 3 = x := ⟨_, rfl⟩
        rw [e0, e1, e2, e3] at hcall
        have HCALL := Hid.out (p := Hid _) hcall
        clear hcall e0 e1 e2 e3 hmore
        go_wp2_with fail
        refine Calls.mono HCALL.out ?_
        rintro e w1 ⟨rfl, hb1⟩
        go_wp2_with fail
        go_ret
        exact ⟨rfl, (hbr.trans (hb1.mono hbr.size)).alloc (hbr.trans (hb1.mono hbr.size)).size _⟩
      · have HCALL := Hid.out (p := Hid _) (HN.out _ j hlt hbr hend)
        have HEND : Hid (L j ≤ (thOf s j).pc) := hend
        clear hend
        go_wp2_with fail
        refine Calls.mono HCALL.out ?_
        rintro e w1 ⟨rfl, hb1⟩
        have hB1 := hbr.trans (hb1.mono hbr.size)
        have k5 := cell_up ((hb1.cell (lt_of_cell c5r)).trans c5r)
        have kq := cell_up ((hb1.cell (lt_of_cell cqr)).trans cqr)
        by_cases hk0 : k = 0
        · subst hk0
          go_wp2
          go_roundw
          case rel =>
            refine ⟨j + 1, by omega, by go_num, fun p hp => ?_, hB1.alloc hB1.size _⟩
            rcases (by omega : p < j ∨ p = j) with h | rfl
            · exact HJ.out p h
            · exact ⟨HEND.out, HK.out⟩
          case measure => simp [intOf]; omega
        · obtain rfl : r = false := by rw [← HR.out]; exact endedX_no (by rw [HL.out]; exact hlt) (Or.inr (by rw [HK.out]; omega))
          have hpos : 0 < k := by omega
          go_wp2
          go_ret
          exact ⟨rfl, hB1.alloc hB1.size _⟩
    · obtain rfl : r = true := by rw [← HR.out]; exact endedX_yes (fun p hp => HJ.out p (by rw [HL.out] at hp; omega))
      go_wp2
      go_ret
      exact ⟨rfl, hbr⟩

end Go.Proofs.Ytjheojfpnfkloaa
