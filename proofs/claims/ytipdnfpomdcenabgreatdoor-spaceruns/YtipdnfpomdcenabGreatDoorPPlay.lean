/-
  The program's run: how it ends.
  The program's run: its loop.
  Whether two lists of outcomes are the same, by the program: slices.EqualFunc.
-/
import Derived.Test.YtipdnfpomdcenabGreatDoorPBegin
import Derived.Test.YtipdnfpomdcenabGreatDoorPNew
import Derived.Deep.RegionHeld3
import Derived.Test.YtipdnfpomdcenabGreatDoorOcSame
namespace Go.Proofs.YtipdnfpomdcenabGreatDoor
section
open Go.RowKit

theorem cell_dw {w : World} {a : Addr} {v : Value} (h : w.cell? a = some v) : w.drew.cell? a = some v := h
theorem cell_off {w : World} {a b : Addr} {v u : Value} (h : w.cell? a = some v) (hne : a.block ≠ b.block) : (w.setCell b u).cell? a = some v := (World.cell?_of_block (Below.heap_setCell _ _ _ _ hne)).trans h
/-- What the program's trace is. -/
def TraceP (B : Nat) (w : World) (s : Sx) (st : Int) (k : Nat) (e : Ending) (w' : World) : Prop := ∃ pa pl pc wa wl wc, e = .returned (.agg #[.slice pa pl pc, .int .i64 st, .slice wa wl wc, .int .i64 (k : Int)]) ∧ IsI w' B pa pl pc s.prints ∧ IsI w' B wa wl wc s.words ∧ Below w.heap.size w w'

set_option maxRecDepth 100000 in
set_option maxHeartbeats 3200000 in
theorem end_any (w : World) (B : Nat) (Q : Cd) (sb mb : Nat) (v : Rp → Value) (s : Sx) (cb kb : Nat) (st : Int) (k : Nat) (hM : MLaw Q.K) (hs : QSt w B Q sb mb v s) (hB : B ≤ w.heap.size) (hm : s.words.length ≤ 64) (hcb : w.cell? ⟨cb, 0, none⟩ = some (.pointer (some ⟨sb, 0, none⟩))) (hkb : w.cell? ⟨kb, 0, none⟩ = some (.int .i64 (k : Int))) :
    Calls Tryz.prog 66 #[.int .i64 st, .pointer (some ⟨cb, 0, none⟩), .pointer (some ⟨kb, 0, none⟩)] w (TraceP B w s st k) := by
  obtain ⟨pa, pcp, hpv⟩ := hs.form .prints
  change v .prints = .slice pa s.prints.length pcp at hpv
  have c2 := hs.c2
  rw [hpv] at c2
  have c0 := hs.c0
  have mWd1 := hM.mWords (w.alloc (.cells #[nilV, .int .i64 0, nilV, .int .i64 0] 46)).drew B Q sb mb v s rfl ((hs.alloc _).same rfl)
  have mWd2 := hM.mWords (w.alloc (.cells #[nilV, .int .i64 0, nilV, .int .i64 0] 46)).drew.drew B Q sb mb v s rfl ((hs.alloc _).same rfl)
  have HW : Hid (∀ W, W.heap = (w.alloc (.cells #[nilV, .int .i64 0, nilV, .int .i64 0] 46)).heap → Calls Tryz.prog 180 #[.pointer (some ⟨mb, 0, none⟩)] W fun e w' => ∃ a cap, e = .returned (.slice a s.words.length cap) ∧ w'.ownsRow W.heap.size 3 1 (.slice a s.words.length cap) s.words.length (intsV s.words) ∧ Below W.heap.size W w') := fun W e => words_any W B Q sb mb v s ((hs.alloc _).same e) hm
  have HPR : Hid (∀ W, Below w.heap.size w W → W.ownsRow B 3 1 (.slice pa s.prints.length pcp) s.prints.length (intsV s.prints)) := fun W hb => by
    have := (hs.below hb).fam.own .prints
    rw [hpv] at this
    exact this
  have lc : cb < w.heap.size := lt_of_cell hcb
  have lk : kb < w.heap.size := lt_of_cell hkb
  have ls : sb < w.heap.size := lt_of_cell c0
  have ucb := cell_up hcb
  have ukb := cell_up hkb
  have u2 := cell_up c2
  have u0 := cell_up c0
  obtain ⟨pl, hpl⟩ : ∃ x, s.prints.length = x := ⟨_, rfl⟩
  obtain ⟨wl, hwl⟩ : ∃ x, s.words.length = x := ⟨_, rfl⟩
  have HPL : Hid (s.prints.length = pl ∧ s.words.length = wl) := ⟨hpl, hwl⟩
  rw [hpl] at u2 HPR
  rw [hwl] at HW
  clear hs hpv c2 c0 hcb hkb hpl hwl hm
  have T0 : Hid ((w.alloc (.cells #[nilV, .int .i64 0, nilV, .int .i64 0] 46)).cell? ⟨w.heap.size, 0, none⟩ = some nilV) := by show _ = _; go_simp
  have T1 : Hid ((w.alloc (.cells #[nilV, .int .i64 0, nilV, .int .i64 0] 46)).cell? ⟨w.heap.size, 1, none⟩ = some (.int .i64 0)) := by show _ = _; go_simp
  have T2 : Hid ((w.alloc (.cells #[nilV, .int .i64 0, nilV, .int .i64 0] 46)).cell? ⟨w.heap.size, 2, none⟩ = some nilV) := by show _ = _; go_simp
  have T3 : Hid ((w.alloc (.cells #[nilV, .int .i64 0, nilV, .int .i64 0] 46)).cell? ⟨w.heap.size, 3, none⟩ = some (.int .i64 0)) := by show _ = _; go_simp
  have TF : Hid (∀ i, (w.alloc (.cells #[nilV, .int .i64 0, nilV, .int .i64 0] 46)).frozen? ⟨w.heap.size, i, none⟩ = false) := fun i => by go_simp
  go_enter Tryz.func66, Tryz.ntmps66
  go_wp2
  go_region_held3 (fun w' => w'.cell? ⟨cb, 0, none⟩ = some (.pointer (some ⟨sb, 0, none⟩)) ∧ w'.cell? ⟨kb, 0, none⟩ = some (.int .i64 (k : Int)) ∧ w'.cell? ⟨sb, 2, none⟩ = some (.slice pa pl pcp) ∧ w'.cell? ⟨sb, 0, none⟩ = some (.iface Q.K.tid (.pointer (some ⟨Q.top mb, 0, none⟩)))) (refine ⟨?_, ?_, ?_, ?_⟩ <;> (repeat (first | with_reducible assumption | with_reducible exact ucb _ | with_reducible exact ukb _ | with_reducible exact u2 _ | with_reducible exact u0 _ | with_reducible refine cell_dw ?_ | with_reducible refine cell_off ?_ (by show (_ : Nat) ≠ _; dsimp only; omega)))) ((go_at_call 180; refine Calls.mono (HW.out _ rfl) ?_; rintro e w3 ⟨wa, wcp, rfl, hown3, hb3⟩; have z0 := (hb3.cell (p := ⟨cb, 0, none⟩) (lt_of_cell (ucb _))).trans (ucb _); have z1 := (hb3.cell (p := ⟨kb, 0, none⟩) (lt_of_cell (ukb _))).trans (ukb _); have z2 := (hb3.cell (p := ⟨sb, 2, none⟩) (lt_of_cell (u2 _))).trans (u2 _); have z3 := (hb3.cell (p := ⟨sb, 0, none⟩) (lt_of_cell (u0 _))).trans (u0 _); have r0 := (hb3.cell (p := ⟨w.heap.size, 0, none⟩) (by simp)).trans (T0.out); have r1 := (hb3.cell (p := ⟨w.heap.size, 1, none⟩) (by simp)).trans (T1.out); have r2 := (hb3.cell (p := ⟨w.heap.size, 2, none⟩) (by simp)).trans (T2.out); have r3 := (hb3.cell (p := ⟨w.heap.size, 3, none⟩) (by simp)).trans (T3.out); have rf : ∀ i, w3.frozen? ⟨w.heap.size, i, none⟩ = false := fun i => (hb3.frozen (p := ⟨w.heap.size, i, none⟩) (by simp)).trans (TF.out i)))
  have hB3 : Below w.heap.size w w3 := ⟨hb3.os, hb3.tape, hb3.output, Nat.le_trans (by simp) hb3.size, fun j hj => (hb3.block j (by simp; omega)).trans (Below.heap_alloc _ _ _ hj)⟩
  have HK : Hid (∀ j, j ≠ w.heap.size → ((((w3.setCell ⟨w.heap.size, 0, none⟩ (.slice pa pl pcp)).setCell ⟨w.heap.size, 1, none⟩ (.int .i64 st)).setCell ⟨w.heap.size, 2, none⟩ (.slice wa wl wcp)).setCell ⟨w.heap.size, 3, none⟩ (.int .i64 (k : Int))).heap[j]? = w3.heap[j]?) := fun j hj => by
    rw [Below.heap_setCell _ _ _ _ hj, Below.heap_setCell _ _ _ _ hj, Below.heap_setCell _ _ _ _ hj, Below.heap_setCell _ _ _ _ hj]
  have HB3 := Hid.out (p := Hid _) hB3
  have HO3 : Hid (w3.ownsRow (w.heap.size + 1) 3 1 (.slice wa wl wcp) s.words.length (intsV s.words)) := by
    have := hown3
    show World.ownsRow _ _ _ _ _ _ _
    rw [HPL.out.2]
    exact own_low this (by simp)
  clear hB3 hown3 hb3
  go_wp2
  refine bodyPost_ret (v := .agg #[.slice pa pl pcp, .int .i64 st, .slice wa wl wcp, .int .i64 (k : Int)]) (by simp [results, Tryz.results66, go_sem, cell_set, r0, r1, r2, r3]) rfl ⟨pa, pl, pcp, wa, wl, wcp, rfl, ?_, ?_, ?_⟩
  · have h1 := HPR.out w (Below.refl _ _)
    have h2 := HPR.out w3 HB3.out
    refine ⟨HPL.out.1, ?_⟩
    exact fam_keeps h2 (fun g hg => HK.out g (by have := (h1.lt g hg).2; omega))
  · refine ⟨HPL.out.2, ?_⟩
    have h2 := HO3.out
    rw [HPL.out.2] at h2
    exact fam_keeps (own_low h2 (by omega)) (fun g hg => HK.out g (by have := (h2.lt g hg).1; omega))
  · exact (((HB3.out.setCell (by show w.heap.size ≤ w.heap.size; omega) _).setCell (by show w.heap.size ≤ w.heap.size; omega) _).setCell (by show w.heap.size ≤ w.heap.size; omega) _).setCell (by show w.heap.size ≤ w.heap.size; omega) _
end

section
open Go.RowKit

/-- What is known in a round of the program's run; the run's own boxes: that of its state cb, of the script nb, of the steps kb, of the trace rb. -/
structure Rnp (wl wr : World) (B : Nat) (Q : Cd) (sb mb : Nat) (v : Rp → Value) (s : Sx) (ca : Option Addr) (X : Nat → Nat → Nat → Int) (n m lk rg k cb nb kb rb : Nat) (sa : Option Addr) (sc : Nat) (script : List Int) (q : Nat) : Prop where
  D : QSt wr B Q sb mb v s
  ok : SOk n Q.L m lk rg Q.K.mode s
  pr : s.prints.length ≤ 2 * k
  fl : s.fell = false
  low : Below B wl wr
  hB : B ≤ wl.heap.size
  prog : PIn wr ca n Q.A Q.L Q.C X
  scr : Scr wr nb sa sc script q
  ccb : wr.cell? ⟨cb, 0, none⟩ = some (.pointer (some ⟨sb, 0, none⟩))
  ckb : wr.cell? ⟨kb, 0, none⟩ = some (.int .i64 (k : Int))
  fkb : wr.frozen? ⟨kb, 0, none⟩ = false
  res : wr.heap[rb]? = some (.cells #[nilV, .int .i64 0, nilV, .int .i64 0] 46 (0, 0))
  o1 : ∀ r, (v r).ownBlock ≠ some cb
  o2 : ∀ r, (v r).ownBlock ≠ some nb
  o3 : ∀ r, (v r).ownBlock ≠ some kb
  o4 : ∀ r, (v r).ownBlock ≠ some rb
  osa : ∀ b o, sa = some ⟨b, o, none⟩ → b < B
  opr : ∀ r b, (v r).ownBlock = some b → B ≤ b
  lki : LkI s
theorem Rnp.below {wl wr w1 : World} {B : Nat} {Q : Cd} {sb mb : Nat} {v : Rp → Value} {s : Sx} {ca : Option Addr} {X : Nat → Nat → Nat → Int} {n m lk rg k cb nb kb rb : Nat} {sa : Option Addr} {sc : Nat} {script : List Int} {q : Nat} (h : Rnp wl wr B Q sb mb v s ca X n m lk rg k cb nb kb rb sa sc script q) (hb : Below wr.heap.size wr w1) : Rnp wl w1 B Q sb mb v s ca X n m lk rg k cb nb kb rb sa sc script q := by
  have hrb : rb < wr.heap.size := by
    rcases Nat.lt_or_ge rb wr.heap.size with h1 | h1
    · exact h1
    · have := h.res; rw [Array.getElem?_eq_none h1] at this; cases this
  have hBr : B ≤ wr.heap.size := Nat.le_trans h.hB h.low.size
  obtain ⟨a, c, hc, hx⟩ := h.scr.cell
  refine ⟨h.D.below hb, h.ok, h.pr, h.fl, h.low.trans (hb.mono hBr), h.hB, h.prog.below hb, ⟨h.scr.le, ⟨a, c, (hb.cell (lt_of_cell hc)).trans hc, hx⟩, (hb.frozen (lt_of_cell hc)).trans h.scr.fz, h.scr.src.below hb⟩, (hb.cell (lt_of_cell h.ccb)).trans h.ccb, (hb.cell (lt_of_cell h.ckb)).trans h.ckb, (hb.frozen (lt_of_cell h.ckb)).trans h.fkb, (hb.block rb hrb).trans h.res, h.o1, h.o2, h.o3, h.o4, h.osa, h.opr, h.lki⟩
/-- A step. -/
theorem Rnp.moved {wl wr w1 : World} {B : Nat} {Q : Cd} {sb mb : Nat} {v v1 : Rp → Value} {s s1 : Sx} {ca : Option Addr} {X : Nat → Nat → Nat → Int} {n m lk rg k cb nb kb rb : Nat} {sa : Option Addr} {sc : Nat} {script : List Int} {q : Nat} (h : Rnp wl wr B Q sb mb v s ca X n m lk rg k cb nb kb rb sa sc script q) (hD : QSt w1 B Q sb mb v1 s1) (hM : Moved wr w1 v v1) (hok : SOk n Q.L m lk rg Q.K.mode s1) (hpr : s1.prints.length ≤ 2 * k) (hf : s1.fell = false) (hlk : LkI s1) (hpb : ∀ t b o i, ca = some ⟨b, o, none⟩ → t < n → b < B ∧ ∀ b' o', Q.A t = some ⟨b', o', none⟩ → i < Q.L t → b' < B) : Rnp wl w1 B Q sb mb v1 s1 ca X n m lk rg k cb nb kb rb sa sc script q := by
  have hrb : rb < wr.heap.size := by
    rcases Nat.lt_or_ge rb wr.heap.size with h1 | h1
    · exact h1
    · have := h.res; rw [Array.getElem?_eq_none h1] at this; cases this
  have hBr : B ≤ wr.heap.size := Nat.le_trans h.hB h.low.size
  have hbb : Below B wr w1 := hM.below hBr h.opr
  obtain ⟨a, c, hc, hx⟩ := h.scr.cell
  have hp : PIn w1 ca n Q.A Q.L Q.C X := by
    refine ⟨fun t ht => ?_, fun t i ht hi => ?_, h.prog.len, h.prog.num⟩
    · obtain ⟨b, o, e, h1⟩ := h.prog.code t ht
      exact ⟨b, o, e, (hbb.cell (p := ⟨b, o + t, none⟩) (hpb t b o 0 e ht).1).trans h1⟩
    · obtain ⟨b, o, e, h0, h1, h2, h3⟩ := h.prog.ord t i ht hi
      obtain ⟨b0, o0, e0, _⟩ := h.prog.code t ht
      have hlt := (hpb t b0 o0 i e0 ht).2 b o e hi
      exact ⟨b, o, e, (hbb.cell (p := ⟨b, _, none⟩) hlt).trans h0, (hbb.cell (p := ⟨b, _, none⟩) hlt).trans h1, (hbb.cell (p := ⟨b, _, none⟩) hlt).trans h2, (hbb.cell (p := ⟨b, _, none⟩) hlt).trans h3⟩
  refine ⟨hD, hok, hpr, hf, h.low.trans hbb, h.hB, hp, ⟨h.scr.le, ⟨a, c, (hM.cell (a := ⟨nb, 0, none⟩) (lt_of_cell hc) h.o2).trans hc, hx⟩, (hM.frozen (a := ⟨nb, 0, none⟩) (lt_of_cell hc) h.o2).trans h.scr.fz, fun i hi => ?_⟩, (hM.cell (a := ⟨cb, 0, none⟩) (lt_of_cell h.ccb) h.o1).trans h.ccb, (hM.cell (a := ⟨kb, 0, none⟩) (lt_of_cell h.ckb) h.o3).trans h.ckb, (hM.frozen (a := ⟨kb, 0, none⟩) (lt_of_cell h.ckb) h.o3).trans h.fkb, (hM.block rb hrb h.o4).trans h.res, hM.out (lt_of_cell h.ccb) h.o1, hM.out (lt_of_cell hc) h.o2, hM.out (lt_of_cell h.ckb) h.o3, hM.out hrb h.o4, h.osa, hD.fam.low, hlk⟩
  obtain ⟨b, o, e, h1⟩ := h.scr.src i hi
  exact ⟨b, o, e, (hbb.cell (p := ⟨b, o + i, none⟩) (h.osa b o e)).trans h1⟩

/-- Something is stored in a block of the run's own that none of its rows lies in. -/
theorem Rnp.tick {wl wr : World} {B : Nat} {Q : Cd} {sb mb : Nat} {v : Rp → Value} {s : Sx} {ca : Option Addr} {X : Nat → Nat → Nat → Int} {n m lk rg k cb nb kb rb : Nat} {sa : Option Addr} {sc : Nat} {script : List Int} {q : Nat} (h : Rnp wl wr B Q sb mb v s ca X n m lk rg k cb nb kb rb sa sc script q) (hpb : ∀ t b o i, ca = some ⟨b, o, none⟩ → t < n → b < B ∧ ∀ b' o', Q.A t = some ⟨b', o', none⟩ → i < Q.L t → b' < B) (h1 : cb ≠ kb) (h2 : nb ≠ kb) (h3 : rb ≠ kb) (h4 : B ≤ kb) : Rnp wl (wr.setCell ⟨kb, 0, none⟩ (.int .i64 ((k : Int) + 1))) B Q sb mb v s ca X n m lk rg (k + 1) cb nb kb rb sa sc script q := by
  have hM : Moved wr (wr.setCell ⟨kb, 0, none⟩ (.int .i64 ((k : Int) + 1))) (fun _ : Unit => boxV kb) (fun _ => boxV kb) := (Moved.refl _ _).put (r := ()) rfl 0 _
  have hblk : ∀ j, j ≠ kb → (wr.setCell ⟨kb, 0, none⟩ (.int .i64 ((k : Int) + 1))).heap[j]? = wr.heap[j]? := fun j hj => Below.heap_setCell _ _ _ _ hj
  have hbb : Below B wr (wr.setCell ⟨kb, 0, none⟩ (.int .i64 ((k : Int) + 1))) := (Below.refl _ _).setCell h4 _
  have hD : QSt (wr.setCell ⟨kb, 0, none⟩ (.int .i64 ((k : Int) + 1))) B Q sb mb v s := ⟨⟨fun r => fam_keeps (h.D.fam.own r) (fun g e => hblk g (fun x => h.o3 r (by rw [e, x]))), h.D.fam.apart⟩, h.D.st, h.D.mem, h.D.box⟩
  obtain ⟨a, c, hc, hx⟩ := h.scr.cell
  have hp : PIn (wr.setCell ⟨kb, 0, none⟩ (.int .i64 ((k : Int) + 1))) ca n Q.A Q.L Q.C X := by
    refine ⟨fun t ht => ?_, fun t i ht hi => ?_, h.prog.len, h.prog.num⟩
    · obtain ⟨b, o, e, g1⟩ := h.prog.code t ht
      exact ⟨b, o, e, (hbb.cell (p := ⟨b, o + t, none⟩) (hpb t b o 0 e ht).1).trans g1⟩
    · obtain ⟨b, o, e, g0, g1, g2, g3⟩ := h.prog.ord t i ht hi
      obtain ⟨b0, o0, e0, _⟩ := h.prog.code t ht
      have hlt := (hpb t b0 o0 i e0 ht).2 b o e hi
      exact ⟨b, o, e, (hbb.cell (p := ⟨b, _, none⟩) hlt).trans g0, (hbb.cell (p := ⟨b, _, none⟩) hlt).trans g1, (hbb.cell (p := ⟨b, _, none⟩) hlt).trans g2, (hbb.cell (p := ⟨b, _, none⟩) hlt).trans g3⟩
  refine ⟨hD, h.ok, by have := h.pr; omega, h.fl, h.low.trans hbb, h.hB, hp, ⟨h.scr.le, ⟨a, c, (World.cell?_of_block (hblk nb h2)).trans hc, hx⟩, (World.frozen?_of_block (hblk nb h2)).trans h.scr.fz, fun i hi => ?_⟩, (World.cell?_of_block (hblk cb h1)).trans h.ccb, ?_, ?_, (hblk rb h3).trans h.res, h.o1, h.o2, h.o3, h.o4, h.osa, h.opr, h.lki⟩
  · obtain ⟨b, o, e, g1⟩ := h.scr.src i hi
    exact ⟨b, o, e, (hbb.cell (p := ⟨b, o + i, none⟩) (h.osa b o e)).trans g1⟩
  · rw [cell_set, h.ckb]; simp
  · rw [frozen_set]; exact h.fkb
/-- What a number of the script picks. -/
theorem Rnp.pick {wl wr : World} {B : Nat} {Q : Cd} {sb mb : Nat} {v : Rp → Value} {s : Sx} {ca : Option Addr} {X : Nat → Nat → Nat → Int} {n m lk rg k cb nb kb rb : Nat} {sa : Option Addr} {sc : Nat} {script : List Int} {q : Nat} (h : Rnp wl wr B Q sb mb v s ca X n m lk rg k cb nb kb rb sa sc script q) (hpb : ∀ t b o i, ca = some ⟨b, o, none⟩ → t < n → b < B ∧ ∀ b' o', Q.A t = some ⟨b', o', none⟩ → i < Q.L t → b' < B) (h1 : cb ≠ nb) (h2 : kb ≠ nb) (h3 : rb ≠ nb) (h4 : B ≤ nb) (hsl : script.length ≤ 9223372036854775807) (p : Nat) (hp : p ≤ 1000) :
    ∃ q', q' ≤ script.length ∧ (pickX p (script.drop q)).2 = script.drop q' ∧ Calls Tryz.prog 68 #[.pointer (some ⟨nb, 0, none⟩), .int .i64 (p : Int)] wr fun e w' => e = .returned (.int .i64 ((pickX p (script.drop q)).1 : Nat)) ∧ Rnp wl w' B Q sb mb v s ca X n m lk rg k cb nb kb rb sa sc script q' ∧ (∀ j, j ≠ nb → w'.heap[j]? = wr.heap[j]?) ∧ w'.heap.size = wr.heap.size := by
  by_cases hno : p < 2 ∨ q = script.length
  · refine ⟨q, h.scr.le, ?_, ?_⟩
    · unfold pickX
      split
      · rfl
      · rename_i h5
        have hq : q = script.length := by omega
        rw [hq, List.drop_length]
    · have he : (pickX p (script.drop q)).1 = 0 := by
        unfold pickX
        split
        · rfl
        · rename_i h5
          have hq : q = script.length := by omega
          rw [hq, List.drop_length]
      rw [he]
      exact (pick_none wr nb p sa sc script q h.scr hsl hp hno).mono fun e w' g => ⟨g.1, by rw [g.2]; exact h, fun j _ => by rw [g.2], by rw [g.2]⟩
  · have hq : q < script.length := by have := h.scr.le; omega
    have hsp := pick_some wr nb p sa sc script q h.scr hsl hp (by omega) hq (fun b o e x => by have := h.osa b o e; omega)
    refine ⟨q + 1, by omega, ?_, ?_⟩
    · have hd : script.drop q = script[q] :: script.drop (q + 1) := List.drop_eq_getElem_cons hq
      rw [hd]
      unfold pickX
      rw [if_neg (by omega)]
    · refine hsp.mono fun e w' ⟨g1, _, g3, x, g4⟩ => ⟨g1, ?_, fun j hj => by rw [g4]; exact Below.heap_setCell _ _ _ _ hj, by rw [g4]; simp [World.setCell]⟩
      have hblk : ∀ j, j ≠ nb → w'.heap[j]? = wr.heap[j]? := fun j hj => by rw [g4]; exact Below.heap_setCell _ _ _ _ hj
      have hbb : Below B wr w' := by rw [g4]; exact (Below.refl _ _).setCell h4 _
      have hD : QSt w' B Q sb mb v s := ⟨⟨fun r => fam_keeps (h.D.fam.own r) (fun g e => hblk g (fun x => h.o2 r (by rw [e, x]))), h.D.fam.apart⟩, h.D.st, h.D.mem, h.D.box⟩
      have hp : PIn w' ca n Q.A Q.L Q.C X := by
        refine ⟨fun t ht => ?_, fun t i ht hi => ?_, h.prog.len, h.prog.num⟩
        · obtain ⟨b, o, e, f1⟩ := h.prog.code t ht
          exact ⟨b, o, e, (hbb.cell (p := ⟨b, o + t, none⟩) (hpb t b o 0 e ht).1).trans f1⟩
        · obtain ⟨b, o, e, f0, f1, f2, f3⟩ := h.prog.ord t i ht hi
          obtain ⟨b0, o0, e0, _⟩ := h.prog.code t ht
          have hlt := (hpb t b0 o0 i e0 ht).2 b o e hi
          exact ⟨b, o, e, (hbb.cell (p := ⟨b, _, none⟩) hlt).trans f0, (hbb.cell (p := ⟨b, _, none⟩) hlt).trans f1, (hbb.cell (p := ⟨b, _, none⟩) hlt).trans f2, (hbb.cell (p := ⟨b, _, none⟩) hlt).trans f3⟩
      exact ⟨hD, h.ok, h.pr, h.fl, h.low.trans hbb, h.hB, hp, g3, (World.cell?_of_block (hblk cb h1)).trans h.ccb, (World.cell?_of_block (hblk kb h2)).trans h.ckb, (World.frozen?_of_block (hblk kb h2)).trans h.fkb, (hblk rb h3).trans h.res, h.o1, h.o2, h.o3, h.o4, h.osa, h.opr, h.lki⟩
end

section
open Go.RowKit Go.Sort Go.Shelf

theorem take_eq_next {x y : List Oc} {k : Nat} (h : x.take k = y.take k) (h1 : k < x.length) (h2 : k < y.length) (e : x.getD k default = y.getD k default) : x.take (k + 1) = y.take (k + 1) := otake_ext h h1 h2 e
set_option maxRecDepth 100000 in
set_option maxHeartbeats 1600000 in
theorem equal_any (w : World) (a b : Option Addr) (es fs : List En) (c d : Nat) (hE : EIn w a es) (hF : EIn w b fs) (hok : ∀ x, x ∈ es → EnOk w x) (hok' : ∀ x, x ∈ fs → EnOk w x) (hn : es.length ≤ 100000) (_hm : fs.length ≤ 100000) :
    Calls Tryz.prog 32 #[.slice a es.length c, .slice b fs.length d, .func (.func 33) #[] #[]] w fun e w' => e = .returned (.bool (decide (es.map En.o = fs.map En.o))) ∧ Below w.heap.size w w' := by
  by_cases hl : es.length = fs.length
  · obtain ⟨R, hR⟩ : ∃ R, decide (es.map En.o = fs.map En.o) = R := ⟨_, rfl⟩
    have HR : Hid (decide (es.map En.o = fs.map En.o) = R) := hR
    rw [hR]
    have HS : Hid (∀ W i, Below w.heap.size w W → i < es.length → Calls Tryz.prog 33 #[enV (es.getD i default), enV (fs.getD i default)] W fun e w' => e = .returned (.bool (decide ((es.getD i default).o = (fs.getD i default).o))) ∧ Below w.heap.size w w') := fun W i hb hi => by
      refine Calls.mono (same_any W _ _ ((hok _ (getD_in hi)).below hb) ((hok' _ (getD_in (by omega))).below hb)) ?_
      rintro e w' ⟨he, h2⟩
      exact ⟨he, hb.trans (h2.mono hb.size)⟩
    have HE : Hid (EIn w a es ∧ EIn w b fs) := ⟨hE, hF⟩
    obtain ⟨n, hnn⟩ : ∃ n, es.length = n := ⟨_, rfl⟩
    have HN : Hid (es.length = n ∧ fs.length = n) := ⟨hnn, by rw [← hl]; exact hnn⟩
    rw [← hl, hnn]
    rw [hnn] at hn HS
    clear hE hF hok hok' hl hnn hR
    go_enter Tryz.func32, Tryz.ntmps32
    go_wp2_with fail
    go_loopw [17] (fun i wr => ∃ k : Nat, k ≤ n ∧ i = .int .i64 k ∧ Hid (Below w.heap.size w wr ∧ (es.map En.o).take k = (fs.map En.o).take k)) (fun i _ => n - (intOf i).toNat)
    case atStart => exact ⟨0, Nat.zero_le _, rfl, Below.refl _ _, rfl⟩
    case round =>
      obtain ⟨k, hk, rfl, HI⟩ := hrel
      by_cases hlt : k < n
      · have hbr := HI.out.1
        obtain ⟨p, o, rfl, a0, a1, a2⟩ := (HE.out.1.below hbr) k (by rw [HN.out.1]; exact hlt)
        obtain ⟨p2, o2, rfl, b0, b1, b2⟩ := (HE.out.2.below hbr) k (by rw [HN.out.2]; exact hlt)
        have hp := lt_of_cell a0
        have hp2 := lt_of_cell b0
        have hsz := hbr.size
        have hT := HI.out.2
        obtain ⟨R2, hR2⟩ : ∃ R, decide ((es.getD k default).o = (fs.getD k default).o) = R := ⟨_, rfl⟩
        have HNX : Hid (R2 = true → (es.map En.o).take (k + 1) = (fs.map En.o).take (k + 1)) := fun h => by
          rw [h] at hR2
          refine take_eq_next hT (by rw [List.length_map, HN.out.1]; exact hlt) (by rw [List.length_map, HN.out.2]; exact hlt) ?_
          rw [map_getD (by rw [HN.out.1]; exact hlt), map_getD (by rw [HN.out.2]; exact hlt)]
          exact of_decide_eq_true hR2
        have HNO : Hid (R2 = false → R = false) := fun h => by
          rw [h] at hR2
          rw [← HR.out]
          refine decide_eq_false (fun e => of_decide_eq_false hR2 ?_)
          have : (es.map En.o).getD k default = (fs.map En.o).getD k default := by rw [e]
          rw [map_getD (by rw [HN.out.1]; exact hlt), map_getD (by rw [HN.out.2]; exact hlt)] at this
          exact this
        have HC : Hid (∀ W, Below w.heap.size w W → Calls Tryz.prog 33 #[enV (es.getD k default), enV (fs.getD k default)] W fun e w' => e = .returned (.bool R2) ∧ Below w.heap.size w w') := fun W hb => by
          have := HS.out W k hb hlt
          rw [hR2] at this
          exact this
        obtain ⟨⟨⟨s1, l1, m1⟩, wa1, wc1, pa1, pc1⟩, hx1⟩ : ∃ x, es.getD k default = x := ⟨_, rfl⟩
        obtain ⟨⟨⟨s2, l2, m2⟩, wa2, wc2, pa2, pc2⟩, hx2⟩ : ∃ x, fs.getD k default = x := ⟨_, rfl⟩
        rw [hx1] at a0 a1 a2
        rw [hx2] at b0 b1 b2
        have HC2 : Hid (∀ W, Below w.heap.size w W → Calls Tryz.prog 33 #[.agg #[.int .i64 s1, .slice wa1 l1.length wc1, .slice pa1 m1.length pc1], .agg #[.int .i64 s2, .slice wa2 l2.length wc2, .slice pa2 m2.length pc2]] W fun e w' => e = .returned (.bool R2) ∧ Below w.heap.size w w') := fun W hb => by
          have := HC.out W hb
          rw [hx1, hx2] at this
          exact this
        have HBR := Hid.out (p := Hid _) hbr
        dsimp only at a0 a1 a2 b0 b1 b2
        clear HC hT hR2 hx1 hx2 HI hbr
        go_wp2_with fail
        refine Calls.mono (HC2.out _ ((HBR.out.alloc hsz _).alloc (by simp; omega) _)) ?_
        rintro e w1 ⟨rfl, hb1⟩
        have HB1 := Hid.out (p := Hid _) hb1
        clear HC2 hb1 a0 a1 a2 b0 b1 b2 hp hp2 hsz HBR
        cases R2 with
        | true =>
          go_wp2_with fail
          go_roundw
          case rel => exact ⟨k + 1, by omega, by go_num, HB1.out, HNX.out (by trivial)⟩
          case measure => simp [intOf]; omega
        | false =>
          obtain rfl : R = false := HNO.out rfl
          go_wp2_with fail
          go_ret
          exact ⟨rfl, HB1.out⟩
      · obtain rfl : k = n := by omega
        have hv : R = true := by
          rw [← HR.out]
          refine decide_eq_true ?_
          have := HI.out.2
          rw [List.take_of_length_le (by rw [List.length_map, HN.out.1]; exact Nat.le_refl _), List.take_of_length_le (by rw [List.length_map, HN.out.2]; exact Nat.le_refl _)] at this
          exact this
        subst hv
        have HB := HI.out.1
        have HBR := Hid.out (p := Hid _) HB
        clear HI HB
        go_wp2_with fail
        go_ret
        exact ⟨rfl, HBR.out⟩
  · have hd : decide (es.map En.o = fs.map En.o) = false := decide_eq_false (fun h => hl (by have := congrArg List.length h; simpa using this))
    rw [hd]
    obtain ⟨n, hnn⟩ : ∃ n, es.length = n := ⟨_, rfl⟩
    obtain ⟨m, hmm⟩ : ∃ n, fs.length = n := ⟨_, rfl⟩
    rw [hnn, hmm] at hl ⊢
    have hl' : ¬ (n : Int) = (m : Int) := by omega
    clear hE hF hok hok' hn hd hnn hmm
    go_enter Tryz.func32, Tryz.ntmps32
    go_wp2_with fail
    go_ret
    exact ⟨rfl, Below.refl _ _⟩
end

end Go.Proofs.YtipdnfpomdcenabGreatDoor
