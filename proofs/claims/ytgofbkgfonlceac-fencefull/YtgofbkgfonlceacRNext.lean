/-
  The state of a run of the document, as it lies in memory; a thread's next order.
  What waits, as it lies in memory; whether one that waits may be done.
-/
import Derived.Test.YtgofbkgfonlceacInProg
import Derived.Test.YtgofbkgfonlceacAppB
import Derived.Test.YtgofbkgfonlceacPlain
namespace Go.Proofs.Ytgofbkgfonlceac
section
open Go.RowKit

/-- The state of a run, as it is read: its box at sb, its threads at tb. -/
structure SIn (w : World) (sb : Nat) (ca : Option Addr) (n cc : Nat) (mode : Int) (tb tc : Nat) (rv qv : Nat → Value) (wv ov pv : Value) (s : Sx) : Prop where
  code : w.cell? ⟨sb, 0, none⟩ = some (.slice ca n cc)
  mode : w.cell? ⟨sb, 4, none⟩ = some (.int .i64 mode)
  ths : w.cell? ⟨sb, 5, none⟩ = some (.slice (some ⟨tb, 0, none⟩) s.ths.length tc)
  words : w.cell? ⟨sb, 6, none⟩ = some wv
  own : w.cell? ⟨sb, 7, none⟩ = some ov
  prints : w.cell? ⟨sb, 8, none⟩ = some pv
  fell : w.cell? ⟨sb, 9, none⟩ = some (.bool s.fell)
  pc : ∀ t, t < s.ths.length → w.cell? ⟨tb, t * 3, none⟩ = some (.int .i64 (thOf s t).pc)
  regs : ∀ t, t < s.ths.length → w.cell? ⟨tb, t * 3 + 1, none⟩ = some (rv t)
  wait : ∀ t, t < s.ths.length → w.cell? ⟨tb, t * 3 + 2, none⟩ = some (qv t)

set_option maxRecDepth 100000 in
set_option maxHeartbeats 1600000 in
theorem next_ended (sb : Nat) (ca : Option Addr) (n cc : Nat) (mode : Int) (tb tc : Nat) (rv qv : Nat → Value) (wv ov pv : Value) (s : Sx) (A : Nat → Option Addr) (L C : Nat → Nat) (X : Nat → Nat → Nat → Int) (hn : s.ths.length = n) (t : Nat) (ht : t < n) (_hN : n ≤ 4) (_hL : L t ≤ 400) (_hpc : (thOf s t).pc ≤ 400) (hend : L t ≤ (thOf s t).pc) (w : World) (hs : SIn w sb ca n cc mode tb tc rv qv wv ov pv s) (hp : PIn w ca n A L C X) :
    Calls Try.prog 57 #[.pointer (some ⟨sb, 0, none⟩), .int .i64 t] w fun e w' => e = .returned (.tuple #[.agg #[.int .i64 0, .int .i64 0, .int .i64 0, .int .i64 0], .bool false]) ∧ Below w.heap.size w w' := by
  obtain ⟨cb, co, rfl, hcell⟩ := hp.code t ht
  have h0 := cell_up hs.code
  have h5 := cell_up hs.ths
  have hpcc := cell_up (hs.pc t (by omega))
  have hcc := cell_up hcell
  simp only [hn] at h5
  obtain ⟨k, hk⟩ : ∃ k, (thOf s t).pc = k := ⟨_, rfl⟩
  simp only [hk] at hpcc _hpc hend
  go_enter Try.func57, Try.ntmps57
  go_wp2
  refine bodyPost_ret (v := .tuple #[.agg #[.int .i64 0, .int .i64 0, .int .i64 0, .int .i64 0], .bool false]) (by simp [results, Try.results57, go_sem]) rfl ⟨rfl, (Below.refl _ _).alloc (Nat.le_refl _) _⟩

set_option maxRecDepth 100000 in
set_option maxHeartbeats 1600000 in
theorem next_more (sb : Nat) (ca : Option Addr) (n cc : Nat) (mode : Int) (tb tc : Nat) (rv qv : Nat → Value) (wv ov pv : Value) (s : Sx) (A : Nat → Option Addr) (L C : Nat → Nat) (X : Nat → Nat → Nat → Int) (hn : s.ths.length = n) (t : Nat) (ht : t < n) (_hN : n ≤ 4) (_hL : L t ≤ 400) (hend : (thOf s t).pc < L t) (w : World) (hs : SIn w sb ca n cc mode tb tc rv qv wv ov pv s) (hp : PIn w ca n A L C X) :
    Calls Try.prog 57 #[.pointer (some ⟨sb, 0, none⟩), .int .i64 t] w fun e w' => e = .returned (.tuple #[.agg #[.int .i64 (opT X s t 0), .int .i64 (opT X s t 1), .int .i64 (opT X s t 2), .int .i64 (opT X s t 3)], .bool true]) ∧ Below w.heap.size w w' := by
  obtain ⟨cb, co, rfl, hcell⟩ := hp.code t ht
  have h0 := cell_up hs.code
  have h5 := cell_up hs.ths
  have hpcc := cell_up (hs.pc t (by omega))
  have hcc := cell_up hcell
  simp only [hn] at h5
  unfold opT
  obtain ⟨k, hk⟩ : ∃ k, (thOf s t).pc = k := ⟨_, rfl⟩
  simp only [hk] at hpcc hend ⊢
  obtain ⟨ob, oo, hA, x0, x1, x2, x3⟩ := hp.ord t k ht hend
  rw [hA] at hcc
  have y0 := cell_up x0
  have y1 := cell_up x1
  have y2 := cell_up x2
  have y3 := cell_up x3
  obtain ⟨v0, e0⟩ : ∃ v, X t k 0 = v := ⟨_, rfl⟩
  obtain ⟨v1, e1⟩ : ∃ v, X t k 1 = v := ⟨_, rfl⟩
  obtain ⟨v2, e2⟩ : ∃ v, X t k 2 = v := ⟨_, rfl⟩
  obtain ⟨v3, e3⟩ : ∃ v, X t k 3 = v := ⟨_, rfl⟩
  simp only [e0] at y0 ⊢
  simp only [e1] at y1 ⊢
  simp only [e2] at y2 ⊢
  simp only [e3] at y3 ⊢
  go_enter Try.func57, Try.ntmps57
  go_wp2
  refine bodyPost_ret (v := .tuple #[.agg #[.int .i64 v0, .int .i64 v1, .int .i64 v2, .int .i64 v3], .bool true]) (by simp [results, Try.results57, go_sem]) rfl ⟨rfl, (Below.refl _ _).alloc (Nat.le_refl _) _⟩
end

section
open Go.RowKit

/-- What waits, as it is read. -/
def WIn (w : World) (a : Option Addr) (l : List Wt) : Prop := ∀ i, i < l.length → ∃ b o, a = some ⟨b, o, none⟩ ∧ w.cell? ⟨b, o + i * 3, none⟩ = some (.bool (l.getD i default).lk) ∧ w.cell? ⟨b, o + i * 3 + 1, none⟩ = some (.int .i64 (l.getD i default).wh) ∧ w.cell? ⟨b, o + i * 3 + 2, none⟩ = some (.int .i64 (l.getD i default).what)
theorem WIn.below {w w' : World} {a : Option Addr} {l : List Wt} (h : WIn w a l) (hb : Below w.heap.size w w') : WIn w' a l := fun i hi => by
  obtain ⟨b, o, e, h0, h1, h2⟩ := h i hi
  exact ⟨b, o, e, (hb.cell (lt_of_cell h0)).trans h0, (hb.cell (lt_of_cell h1)).trans h1, (hb.cell (lt_of_cell h2)).trans h2⟩

set_option maxRecDepth 100000 in
set_option maxHeartbeats 1600000 in
theorem may_any (sb : Nat) (mode : Int) (qa : Option Addr) (qc : Nat) (l : List Wt) (k : Nat) (hk : k < l.length) (_hl : l.length ≤ 100) (w : World) (hm : w.cell? ⟨sb, 4, none⟩ = some (.int .i64 mode)) (hq : WIn w qa l) :
    Calls Try.prog 59 #[.pointer (some ⟨sb, 0, none⟩), .slice qa l.length qc, .int .i64 k] w fun e w' => e = .returned (.bool (mayW mode l k)) ∧ Below w.heap.size w w' := by
  obtain ⟨b, o, rfl, k0, k1, _⟩ := hq k hk
  obtain ⟨r, hr⟩ : ∃ r, mayW mode l k = r := ⟨_, rfl⟩
  have HR : Hid (mayW mode l k = r) := hr
  rw [hr]
  clear hr
  obtain ⟨lkk, e1⟩ : ∃ v, (l.getD k default).lk = v := ⟨_, rfl⟩
  obtain ⟨whk, e2⟩ : ∃ v, (l.getD k default).wh = v := ⟨_, rfl⟩
  have HE1 : Hid ((l.getD k default).lk = lkk) := e1
  have HE2 : Hid ((l.getD k default).wh = whk) := e2
  rw [e1] at k0
  rw [e2] at k1
  clear e1 e2
  go_enter Try.func59, Try.ntmps59
  by_cases hk0 : k = 0
  · subst hk0
    obtain rfl : r = true := by rw [← HR.out]; simp [mayW]
    go_wp2
    go_ret
    exact ⟨rfl, Below.refl _ _⟩
  · by_cases hm1 : mode = 1
    · obtain rfl : r = false := by rw [← HR.out]; simp [mayW, hk0, hm1]
      go_wp2
      go_ret
      exact ⟨rfl, Below.refl _ _⟩
    · cases lkk with
      | true =>
        obtain rfl : r = false := by rw [← HR.out]; simp only [mayW, hk0, HE1.out]; simp
        go_wp2
        go_ret
        exact ⟨rfl, Below.refl _ _⟩
      | false =>
        have HV : Hid (mayW mode l k = (l.take k).all fun x => !(x.lk || decide (x.wh = whk))) := by
          show _ = _
          simp only [mayW, hk0, hm1, HE1.out, HE2.out]
          simp
        go_wp2
        go_loopw [7] (fun i wr => ∃ j : Nat, j ≤ k ∧ i = .int .i64 j ∧ Hid (∀ p, p < j → (l.getD p default).lk = false ∧ (l.getD p default).wh ≠ whk) ∧ Below w.heap.size w wr) (fun i _ => k - (intOf i).toNat)
        case atStart => exact ⟨0, Nat.zero_le _, rfl, fun p hp => absurd hp (Nat.not_lt_zero _), Below.refl _ _⟩
        case round =>
          obtain ⟨j, hj, rfl, HJ, hbr⟩ := hrel
          have k0r := (hbr.cell (lt_of_cell k0)).trans k0
          have k1r := (hbr.cell (lt_of_cell k1)).trans k1
          have hqr := hq.below hbr
          by_cases hlt : j < k
          · obtain ⟨_, _, e0, j0, j1, _⟩ := hqr j (by omega)
            simp only [Option.some.injEq, Addr.mk.injEq, and_true] at e0
            obtain ⟨rfl, rfl⟩ := e0
            obtain ⟨lj, f1⟩ : ∃ v, (l.getD j default).lk = v := ⟨_, rfl⟩
            obtain ⟨wj, f2⟩ : ∃ v, (l.getD j default).wh = v := ⟨_, rfl⟩
            have HF1 : Hid ((l.getD j default).lk = lj) := f1
            have HF2 : Hid ((l.getD j default).wh = wj) := f2
            rw [f1] at j0
            rw [f2] at j1
            clear f1 f2
            have hmem : l.getD j default ∈ l.take k := by
              have h1 : j < l.length := by omega
              have e : l.getD j default = (l.take k)[j]'(by simp; omega) := by simp [List.getD, List.getElem?_eq_getElem h1]
              rw [e]
              exact List.getElem_mem _
            have HMM := Hid.out (p := Hid _) hmem
            clear hmem
            cases lj with
            | true =>
              obtain rfl : r = false := by
                rw [← HR.out, HV.out, List.all_eq_false]
                exact ⟨_, HMM.out, by simp only [HF1.out]; simp⟩
              go_wp2
              go_region
              all_goals go_wp2
              all_goals go_ret
              all_goals exact ⟨rfl, hbr.drew⟩
            | false =>
              by_cases hwe : wj = whk
              · obtain rfl : r = false := by
                  rw [← HR.out, HV.out, List.all_eq_false]
                  exact ⟨_, HMM.out, by simp only [HF1.out, HF2.out, hwe]; simp⟩
                go_wp2
                go_region
                all_goals go_wp2
                all_goals go_ret
                all_goals exact ⟨rfl, hbr.drew⟩
              · go_wp2
                go_region
                all_goals go_wp2
                all_goals go_roundw
                case rel =>
                  refine ⟨j + 1, by omega, by go_num, ?_, hbr.drew⟩
                  intro p hp
                  rcases (by omega : p < j ∨ p = j) with h | rfl
                  · exact HJ.out p h
                  · exact ⟨HF1.out, by rw [HF2.out]; exact hwe⟩
                case measure => simp [intOf]; omega
          · obtain rfl : j = k := by omega
            obtain rfl : r = true := by
              rw [← HR.out, HV.out, List.all_eq_true]
              intro x hx
              obtain ⟨p, hp, rfl⟩ := List.mem_iff_getElem.mp hx
              have hpj : p < j := by simp at hp; omega
              have h2 := HJ.out p hpj
              have e : l.getD p default = (l.take j)[p] := by simp [List.getD, List.getElem?_eq_getElem (show p < l.length by omega)]
              rw [e] at h2
              rw [h2.1, decide_eq_false h2.2]
              rfl
            go_wp2
            go_ret
            exact ⟨rfl, hbr⟩
end

end Go.Proofs.Ytgofbkgfonlceac
