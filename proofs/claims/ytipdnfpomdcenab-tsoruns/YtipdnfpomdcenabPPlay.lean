/-
  The program's run: how it ends.
-/
import Derived.Test.YtipdnfpomdcenabPBegin
import Derived.Test.YtipdnfpomdcenabPNew
import Derived.Deep.RegionHeld3
namespace Go.Proofs.Ytipdnfpomdcenab
open Go.RowKit

theorem cell_dw {w : World} {a : Addr} {v : Value} (h : w.cell? a = some v) : w.drew.cell? a = some v := h
theorem cell_off {w : World} {a b : Addr} {v u : Value} (h : w.cell? a = some v) (hne : a.block ≠ b.block) : (w.setCell b u).cell? a = some v := (World.cell?_of_block (Below.heap_setCell _ _ _ _ hne)).trans h
/-- What the program's trace is. -/
def TraceP (B : Nat) (w : World) (s : Sx) (st : Int) (k : Nat) (e : Ending) (w' : World) : Prop := ∃ pa pl pc wa wl wc, e = .returned (.agg #[.slice pa pl pc, .int .i64 st, .slice wa wl wc, .int .i64 (k : Int)]) ∧ IsI w' B pa pl pc s.prints ∧ IsI w' B wa wl wc s.words ∧ Below w.heap.size w w'

set_option maxRecDepth 100000 in
set_option maxHeartbeats 3200000 in
theorem end_any (w : World) (B : Nat) (Q : Cd) (sb mb : Nat) (v : Rp → Value) (s : Sx) (cb kb : Nat) (st : Int) (k : Nat) (hM : MLaw Q.K) (hs : QSt w B Q sb mb v s) (hB : B ≤ w.heap.size) (hm : s.words.length ≤ 64) (hcb : w.cell? ⟨cb, 0, none⟩ = some (.pointer (some ⟨sb, 0, none⟩))) (hkb : w.cell? ⟨kb, 0, none⟩ = some (.int .i64 (k : Int))) :
    Calls Try.prog 32 #[.int .i64 st, .pointer (some ⟨cb, 0, none⟩), .pointer (some ⟨kb, 0, none⟩)] w (TraceP B w s st k) := by
  obtain ⟨pa, pcp, hpv⟩ := hs.form .prints
  change v .prints = .slice pa s.prints.length pcp at hpv
  have c2 := hs.c2
  rw [hpv] at c2
  have c0 := hs.c0
  have mWd1 := hM.mWords (w.alloc (.cells #[nilV, .int .i64 0, nilV, .int .i64 0] 28)).drew B Q sb mb v s rfl ((hs.alloc _).same rfl)
  have mWd2 := hM.mWords (w.alloc (.cells #[nilV, .int .i64 0, nilV, .int .i64 0] 28)).drew.drew B Q sb mb v s rfl ((hs.alloc _).same rfl)
  have HW : Hid (∀ W, W.heap = (w.alloc (.cells #[nilV, .int .i64 0, nilV, .int .i64 0] 28)).heap → Calls Try.prog 84 #[.pointer (some ⟨mb, 0, none⟩)] W fun e w' => ∃ a cap, e = .returned (.slice a s.words.length cap) ∧ w'.ownsRow W.heap.size 3 1 (.slice a s.words.length cap) s.words.length (intsV s.words) ∧ Below W.heap.size W w') := fun W e => words_any W B Q sb mb v s ((hs.alloc _).same e) hm
  have HPR : Hid (∀ W, Below w.heap.size w W → W.ownsRow B 3 1 (.slice pa s.prints.length pcp) s.prints.length (intsV s.prints)) := fun W hb => by
    have := (hs.below hb).fam.own .prints
    rw [hpv] at this
    exact this
  have lc : cb < w.heap.size := lt_of_cell hcb
  have lk : kb < w.heap.size := lt_of_cell hkb
  have ls : sb < w.heap.size := lt_of_cell c0
  have ucb := cell_up hcb
  have ukb := cell_up hkb
  have u2 := cell_up c2
  have u0 := cell_up c0
  obtain ⟨pl, hpl⟩ : ∃ x, s.prints.length = x := ⟨_, rfl⟩
  obtain ⟨wl, hwl⟩ : ∃ x, s.words.length = x := ⟨_, rfl⟩
  have HPL : Hid (s.prints.length = pl ∧ s.words.length = wl) := ⟨hpl, hwl⟩
  rw [hpl] at u2 HPR
  rw [hwl] at HW
  clear hs hpv c2 c0 hcb hkb hpl hwl hm
  have T0 : Hid ((w.alloc (.cells #[nilV, .int .i64 0, nilV, .int .i64 0] 28)).cell? ⟨w.heap.size, 0, none⟩ = some nilV) := by show _ = _; go_simp
  have T1 : Hid ((w.alloc (.cells #[nilV, .int .i64 0, nilV, .int .i64 0] 28)).cell? ⟨w.heap.size, 1, none⟩ = some (.int .i64 0)) := by show _ = _; go_simp
  have T2 : Hid ((w.alloc (.cells #[nilV, .int .i64 0, nilV, .int .i64 0] 28)).cell? ⟨w.heap.size, 2, none⟩ = some nilV) := by show _ = _; go_simp
  have T3 : Hid ((w.alloc (.cells #[nilV, .int .i64 0, nilV, .int .i64 0] 28)).cell? ⟨w.heap.size, 3, none⟩ = some (.int .i64 0)) := by show _ = _; go_simp
  have TF : Hid (∀ i, (w.alloc (.cells #[nilV, .int .i64 0, nilV, .int .i64 0] 28)).frozen? ⟨w.heap.size, i, none⟩ = false) := fun i => by go_simp
  go_enter Try.func32, Try.ntmps32
  go_wp2
  go_region_held3 (fun w' => w'.cell? ⟨cb, 0, none⟩ = some (.pointer (some ⟨sb, 0, none⟩)) ∧ w'.cell? ⟨kb, 0, none⟩ = some (.int .i64 (k : Int)) ∧ w'.cell? ⟨sb, 2, none⟩ = some (.slice pa pl pcp) ∧ w'.cell? ⟨sb, 0, none⟩ = some (.iface Q.K.tid (.pointer (some ⟨Q.top mb, 0, none⟩)))) (refine ⟨?_, ?_, ?_, ?_⟩ <;> (repeat (first | with_reducible assumption | with_reducible exact ucb _ | with_reducible exact ukb _ | with_reducible exact u2 _ | with_reducible exact u0 _ | with_reducible refine cell_dw ?_ | with_reducible refine cell_off ?_ (by show (_ : Nat) ≠ _; dsimp only; omega)))) ((go_at_call 84; refine Calls.mono (HW.out _ rfl) ?_; rintro e w3 ⟨wa, wcp, rfl, hown3, hb3⟩; have z0 := (hb3.cell (p := ⟨cb, 0, none⟩) (lt_of_cell (ucb _))).trans (ucb _); have z1 := (hb3.cell (p := ⟨kb, 0, none⟩) (lt_of_cell (ukb _))).trans (ukb _); have z2 := (hb3.cell (p := ⟨sb, 2, none⟩) (lt_of_cell (u2 _))).trans (u2 _); have z3 := (hb3.cell (p := ⟨sb, 0, none⟩) (lt_of_cell (u0 _))).trans (u0 _); have r0 := (hb3.cell (p := ⟨w.heap.size, 0, none⟩) (by simp)).trans (T0.out); have r1 := (hb3.cell (p := ⟨w.heap.size, 1, none⟩) (by simp)).trans (T1.out); have r2 := (hb3.cell (p := ⟨w.heap.size, 2, none⟩) (by simp)).trans (T2.out); have r3 := (hb3.cell (p := ⟨w.heap.size, 3, none⟩) (by simp)).trans (T3.out); have rf : ∀ i, w3.frozen? ⟨w.heap.size, i, none⟩ = false := fun i => (hb3.frozen (p := ⟨w.heap.size, i, none⟩) (by simp)).trans (TF.out i)))
  have hB3 : Below w.heap.size w w3 := ⟨hb3.os, hb3.tape, hb3.output, Nat.le_trans (by simp) hb3.size, fun j hj => (hb3.block j (by simp; omega)).trans (Below.heap_alloc _ _ _ hj)⟩
  have HK : Hid (∀ j, j ≠ w.heap.size → ((((w3.setCell ⟨w.heap.size, 0, none⟩ (.slice pa pl pcp)).setCell ⟨w.heap.size, 1, none⟩ (.int .i64 st)).setCell ⟨w.heap.size, 2, none⟩ (.slice wa wl wcp)).setCell ⟨w.heap.size, 3, none⟩ (.int .i64 (k : Int))).heap[j]? = w3.heap[j]?) := fun j hj => by
    rw [Below.heap_setCell _ _ _ _ hj, Below.heap_setCell _ _ _ _ hj, Below.heap_setCell _ _ _ _ hj, Below.heap_setCell _ _ _ _ hj]
  have HB3 := Hid.out (p := Hid _) hB3
  have HO3 : Hid (w3.ownsRow (w.heap.size + 1) 3 1 (.slice wa wl wcp) s.words.length (intsV s.words)) := by
    have := hown3
    show World.ownsRow _ _ _ _ _ _ _
    rw [HPL.out.2]
    exact own_low this (by simp)
  clear hB3 hown3 hb3
  go_wp2
  refine bodyPost_ret (v := .agg #[.slice pa pl pcp, .int .i64 st, .slice wa wl wcp, .int .i64 (k : Int)]) (by simp [results, Try.results32, go_sem, cell_set, r0, r1, r2, r3]) rfl ⟨pa, pl, pcp, wa, wl, wcp, rfl, ?_, ?_, ?_⟩
  · have h1 := HPR.out w (Below.refl _ _)
    have h2 := HPR.out w3 HB3.out
    refine ⟨HPL.out.1, ?_⟩
    exact fam_keeps h2 (fun g hg => HK.out g (by have := (h1.lt g hg).2; omega))
  · refine ⟨HPL.out.2, ?_⟩
    have h2 := HO3.out
    rw [HPL.out.2] at h2
    exact fam_keeps (own_low h2 (by omega)) (fun g hg => HK.out g (by have := (h2.lt g hg).1; omega))
  · exact (((HB3.out.setCell (by show w.heap.size ≤ w.heap.size; omega) _).setCell (by show w.heap.size ≤ w.heap.size; omega) _).setCell (by show w.heap.size ≤ w.heap.size; omega) _).setCell (by show w.heap.size ≤ w.heap.size; omega) _

end Go.Proofs.Ytipdnfpomdcenab
