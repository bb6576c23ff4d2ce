/-
  The program's run: its loop.
-/
import Derived.Test.YtjheojfpnfkloaaPPlay
namespace Go.Proofs.Ytjheojfpnfkloaa
open Go.RowKit

/-- What is known in a round of the program's run; the run's own boxes: that of its state cb, of the script nb, of the steps kb, of the trace rb. -/
structure Rnp (wl wr : World) (B : Nat) (Q : Cd) (sb mb : Nat) (v : Rp → Value) (s : Sx) (ca : Option Addr) (X : Nat → Nat → Nat → Int) (n m lk rg k cb nb kb rb : Nat) (sa : Option Addr) (sc : Nat) (script : List Int) (q : Nat) : Prop where
  D : QSt wr B Q sb mb v s
  ok : SOk n Q.L m lk rg 0 s
  pr : s.prints.length ≤ 2 * k
  fl : s.fell = false
  low : Below B wl wr
  hB : B ≤ wl.heap.size
  prog : PIn wr ca n Q.A Q.L Q.C X
  scr : Scr wr nb sa sc script q
  ccb : wr.cell? ⟨cb, 0, none⟩ = some (.pointer (some ⟨sb, 0, none⟩))
  ckb : wr.cell? ⟨kb, 0, none⟩ = some (.int .i64 (k : Int))
  fkb : wr.frozen? ⟨kb, 0, none⟩ = false
  res : wr.heap[rb]? = some (.cells #[nilV, .int .i64 0, nilV, .int .i64 0] 32 (0, 0))
  o1 : ∀ r, (v r).ownBlock ≠ some cb
  o2 : ∀ r, (v r).ownBlock ≠ some nb
  o3 : ∀ r, (v r).ownBlock ≠ some kb
  o4 : ∀ r, (v r).ownBlock ≠ some rb
  osa : ∀ b o, sa = some ⟨b, o, none⟩ → b < B
  opr : ∀ r b, (v r).ownBlock = some b → B ≤ b
theorem Rnp.below {wl wr w1 : World} {B : Nat} {Q : Cd} {sb mb : Nat} {v : Rp → Value} {s : Sx} {ca : Option Addr} {X : Nat → Nat → Nat → Int} {n m lk rg k cb nb kb rb : Nat} {sa : Option Addr} {sc : Nat} {script : List Int} {q : Nat} (h : Rnp wl wr B Q sb mb v s ca X n m lk rg k cb nb kb rb sa sc script q) (hb : Below wr.heap.size wr w1) : Rnp wl w1 B Q sb mb v s ca X n m lk rg k cb nb kb rb sa sc script q := by
  have hrb : rb < wr.heap.size := by
    rcases Nat.lt_or_ge rb wr.heap.size with h1 | h1
    · exact h1
    · have := h.res; rw [Array.getElem?_eq_none h1] at this; cases this
  have hBr : B ≤ wr.heap.size := Nat.le_trans h.hB h.low.size
  obtain ⟨a, c, hc, hx⟩ := h.scr.cell
  refine ⟨h.D.below hb, h.ok, h.pr, h.fl, h.low.trans (hb.mono hBr), h.hB, h.prog.below hb, ⟨h.scr.le, ⟨a, c, (hb.cell (lt_of_cell hc)).trans hc, hx⟩, (hb.frozen (lt_of_cell hc)).trans h.scr.fz, h.scr.src.below hb⟩, (hb.cell (lt_of_cell h.ccb)).trans h.ccb, (hb.cell (lt_of_cell h.ckb)).trans h.ckb, (hb.frozen (lt_of_cell h.ckb)).trans h.fkb, (hb.block rb hrb).trans h.res, h.o1, h.o2, h.o3, h.o4, h.osa, h.opr⟩
/-- A step. -/
theorem Rnp.moved {wl wr w1 : World} {B : Nat} {Q : Cd} {sb mb : Nat} {v v1 : Rp → Value} {s s1 : Sx} {ca : Option Addr} {X : Nat → Nat → Nat → Int} {n m lk rg k cb nb kb rb : Nat} {sa : Option Addr} {sc : Nat} {script : List Int} {q : Nat} (h : Rnp wl wr B Q sb mb v s ca X n m lk rg k cb nb kb rb sa sc script q) (hD : QSt w1 B Q sb mb v1 s1) (hM : Moved wr w1 v v1) (hok : SOk n Q.L m lk rg 0 s1) (hpr : s1.prints.length ≤ 2 * k) (hf : s1.fell = false) (hpb : ∀ t b o i, ca = some ⟨b, o, none⟩ → t < n → b < B ∧ ∀ b' o', Q.A t = some ⟨b', o', none⟩ → i < Q.L t → b' < B) : Rnp wl w1 B Q sb mb v1 s1 ca X n m lk rg k cb nb kb rb sa sc script q := by
  have hrb : rb < wr.heap.size := by
    rcases Nat.lt_or_ge rb wr.heap.size with h1 | h1
    · exact h1
    · have := h.res; rw [Array.getElem?_eq_none h1] at this; cases this
  have hBr : B ≤ wr.heap.size := Nat.le_trans h.hB h.low.size
  have hbb : Below B wr w1 := hM.below hBr h.opr
  obtain ⟨a, c, hc, hx⟩ := h.scr.cell
  have hp : PIn w1 ca n Q.A Q.L Q.C X := by
    refine ⟨fun t ht => ?_, fun t i ht hi => ?_, h.prog.len, h.prog.num⟩
    · obtain ⟨b, o, e, h1⟩ := h.prog.code t ht
      exact ⟨b, o, e, (hbb.cell (p := ⟨b, o + t, none⟩) (hpb t b o 0 e ht).1).trans h1⟩
    · obtain ⟨b, o, e, h0, h1, h2, h3⟩ := h.prog.ord t i ht hi
      obtain ⟨b0, o0, e0, _⟩ := h.prog.code t ht
      have hlt := (hpb t b0 o0 i e0 ht).2 b o e hi
      exact ⟨b, o, e, (hbb.cell (p := ⟨b, _, none⟩) hlt).trans h0, (hbb.cell (p := ⟨b, _, none⟩) hlt).trans h1, (hbb.cell (p := ⟨b, _, none⟩) hlt).trans h2, (hbb.cell (p := ⟨b, _, none⟩) hlt).trans h3⟩
  refine ⟨hD, hok, hpr, hf, h.low.trans hbb, h.hB, hp, ⟨h.scr.le, ⟨a, c, (hM.cell (a := ⟨nb, 0, none⟩) (lt_of_cell hc) h.o2).trans hc, hx⟩, (hM.frozen (a := ⟨nb, 0, none⟩) (lt_of_cell hc) h.o2).trans h.scr.fz, fun i hi => ?_⟩, (hM.cell (a := ⟨cb, 0, none⟩) (lt_of_cell h.ccb) h.o1).trans h.ccb, (hM.cell (a := ⟨kb, 0, none⟩) (lt_of_cell h.ckb) h.o3).trans h.ckb, (hM.frozen (a := ⟨kb, 0, none⟩) (lt_of_cell h.ckb) h.o3).trans h.fkb, (hM.block rb hrb h.o4).trans h.res, hM.out (lt_of_cell h.ccb) h.o1, hM.out (lt_of_cell hc) h.o2, hM.out (lt_of_cell h.ckb) h.o3, hM.out hrb h.o4, h.osa, hD.fam.low⟩
  obtain ⟨b, o, e, h1⟩ := h.scr.src i hi
  exact ⟨b, o, e, (hbb.cell (p := ⟨b, o + i, none⟩) (h.osa b o e)).trans h1⟩

/-- Something is stored in a block of the run's own that none of its rows lies in. -/
theorem Rnp.tick {wl wr : World} {B : Nat} {Q : Cd} {sb mb : Nat} {v : Rp → Value} {s : Sx} {ca : Option Addr} {X : Nat → Nat → Nat → Int} {n m lk rg k cb nb kb rb : Nat} {sa : Option Addr} {sc : Nat} {script : List Int} {q : Nat} (h : Rnp wl wr B Q sb mb v s ca X n m lk rg k cb nb kb rb sa sc script q) (hpb : ∀ t b o i, ca = some ⟨b, o, none⟩ → t < n → b < B ∧ ∀ b' o', Q.A t = some ⟨b', o', none⟩ → i < Q.L t → b' < B) (h1 : cb ≠ kb) (h2 : nb ≠ kb) (h3 : rb ≠ kb) (h4 : B ≤ kb) : Rnp wl (wr.setCell ⟨kb, 0, none⟩ (.int .i64 ((k : Int) + 1))) B Q sb mb v s ca X n m lk rg (k + 1) cb nb kb rb sa sc script q := by
  have hM : Moved wr (wr.setCell ⟨kb, 0, none⟩ (.int .i64 ((k : Int) + 1))) (fun _ : Unit => boxV kb) (fun _ => boxV kb) := (Moved.refl _ _).put (r := ()) rfl 0 _
  have hblk : ∀ j, j ≠ kb → (wr.setCell ⟨kb, 0, none⟩ (.int .i64 ((k : Int) + 1))).heap[j]? = wr.heap[j]? := fun j hj => Below.heap_setCell _ _ _ _ hj
  have hbb : Below B wr (wr.setCell ⟨kb, 0, none⟩ (.int .i64 ((k : Int) + 1))) := (Below.refl _ _).setCell h4 _
  have hD : QSt (wr.setCell ⟨kb, 0, none⟩ (.int .i64 ((k : Int) + 1))) B Q sb mb v s := ⟨⟨fun r => fam_keeps (h.D.fam.own r) (fun g e => hblk g (fun x => h.o3 r (by rw [e, x]))), h.D.fam.apart⟩, h.D.st, h.D.mem⟩
  obtain ⟨a, c, hc, hx⟩ := h.scr.cell
  have hp : PIn (wr.setCell ⟨kb, 0, none⟩ (.int .i64 ((k : Int) + 1))) ca n Q.A Q.L Q.C X := by
    refine ⟨fun t ht => ?_, fun t i ht hi => ?_, h.prog.len, h.prog.num⟩
    · obtain ⟨b, o, e, g1⟩ := h.prog.code t ht
      exact ⟨b, o, e, (hbb.cell (p := ⟨b, o + t, none⟩) (hpb t b o 0 e ht).1).trans g1⟩
    · obtain ⟨b, o, e, g0, g1, g2, g3⟩ := h.prog.ord t i ht hi
      obtain ⟨b0, o0, e0, _⟩ := h.prog.code t ht
      have hlt := (hpb t b0 o0 i e0 ht).2 b o e hi
      exact ⟨b, o, e, (hbb.cell (p := ⟨b, _, none⟩) hlt).trans g0, (hbb.cell (p := ⟨b, _, none⟩) hlt).trans g1, (hbb.cell (p := ⟨b, _, none⟩) hlt).trans g2, (hbb.cell (p := ⟨b, _, none⟩) hlt).trans g3⟩
  refine ⟨hD, h.ok, by have := h.pr; omega, h.fl, h.low.trans hbb, h.hB, hp, ⟨h.scr.le, ⟨a, c, (World.cell?_of_block (hblk nb h2)).trans hc, hx⟩, (World.frozen?_of_block (hblk nb h2)).trans h.scr.fz, fun i hi => ?_⟩, (World.cell?_of_block (hblk cb h1)).trans h.ccb, ?_, ?_, (hblk rb h3).trans h.res, h.o1, h.o2, h.o3, h.o4, h.osa, h.opr⟩
  · obtain ⟨b, o, e, g1⟩ := h.scr.src i hi
    exact ⟨b, o, e, (hbb.cell (p := ⟨b, o + i, none⟩) (h.osa b o e)).trans g1⟩
  · rw [cell_set, h.ckb]; simp
  · rw [frozen_set]; exact h.fkb
/-- What a number of the script picks. -/
theorem Rnp.pick {wl wr : World} {B : Nat} {Q : Cd} {sb mb : Nat} {v : Rp → Value} {s : Sx} {ca : Option Addr} {X : Nat → Nat → Nat → Int} {n m lk rg k cb nb kb rb : Nat} {sa : Option Addr} {sc : Nat} {script : List Int} {q : Nat} (h : Rnp wl wr B Q sb mb v s ca X n m lk rg k cb nb kb rb sa sc script q) (hpb : ∀ t b o i, ca = some ⟨b, o, none⟩ → t < n → b < B ∧ ∀ b' o', Q.A t = some ⟨b', o', none⟩ → i < Q.L t → b' < B) (h1 : cb ≠ nb) (h2 : kb ≠ nb) (h3 : rb ≠ nb) (h4 : B ≤ nb) (hsl : script.length ≤ 9223372036854775807) (p : Nat) (hp : p ≤ 1000) :
    ∃ q', q' ≤ script.length ∧ (pickX p (script.drop q)).2 = script.drop q' ∧ Calls Try.prog 37 #[.pointer (some ⟨nb, 0, none⟩), .int .i64 (p : Int)] wr fun e w' => e = .returned (.int .i64 ((pickX p (script.drop q)).1 : Nat)) ∧ Rnp wl w' B Q sb mb v s ca X n m lk rg k cb nb kb rb sa sc script q' ∧ (∀ j, j ≠ nb → w'.heap[j]? = wr.heap[j]?) ∧ w'.heap.size = wr.heap.size := by
  by_cases hno : p < 2 ∨ q = script.length
  · refine ⟨q, h.scr.le, ?_, ?_⟩
    · unfold pickX
      split
      · rfl
      · rename_i h5
        have hq : q = script.length := by omega
        rw [hq, List.drop_length]
    · have he : (pickX p (script.drop q)).1 = 0 := by
        unfold pickX
        split
        · rfl
        · rename_i h5
          have hq : q = script.length := by omega
          rw [hq, List.drop_length]
      rw [he]
      exact (pick_none wr nb p sa sc script q h.scr hsl hp hno).mono fun e w' g => ⟨g.1, by rw [g.2]; exact h, fun j _ => by rw [g.2], by rw [g.2]⟩
  · have hq : q < script.length := by have := h.scr.le; omega
    have hsp := pick_some wr nb p sa sc script q h.scr hsl hp (by omega) hq (fun b o e x => by have := h.osa b o e; omega)
    refine ⟨q + 1, by omega, ?_, ?_⟩
    · have hd : script.drop q = script[q] :: script.drop (q + 1) := List.drop_eq_getElem_cons hq
      rw [hd]
      unfold pickX
      rw [if_neg (by omega)]
    · refine hsp.mono fun e w' ⟨g1, _, g3, x, g4⟩ => ⟨g1, ?_, fun j hj => by rw [g4]; exact Below.heap_setCell _ _ _ _ hj, by rw [g4]; simp [World.setCell]⟩
      have hblk : ∀ j, j ≠ nb → w'.heap[j]? = wr.heap[j]? := fun j hj => by rw [g4]; exact Below.heap_setCell _ _ _ _ hj
      have hbb : Below B wr w' := by rw [g4]; exact (Below.refl _ _).setCell h4 _
      have hD : QSt w' B Q sb mb v s := ⟨⟨fun r => fam_keeps (h.D.fam.own r) (fun g e => hblk g (fun x => h.o2 r (by rw [e, x]))), h.D.fam.apart⟩, h.D.st, h.D.mem⟩
      have hp : PIn w' ca n Q.A Q.L Q.C X := by
        refine ⟨fun t ht => ?_, fun t i ht hi => ?_, h.prog.len, h.prog.num⟩
        · obtain ⟨b, o, e, f1⟩ := h.prog.code t ht
          exact ⟨b, o, e, (hbb.cell (p := ⟨b, o + t, none⟩) (hpb t b o 0 e ht).1).trans f1⟩
        · obtain ⟨b, o, e, f0, f1, f2, f3⟩ := h.prog.ord t i ht hi
          obtain ⟨b0, o0, e0, _⟩ := h.prog.code t ht
          have hlt := (hpb t b0 o0 i e0 ht).2 b o e hi
          exact ⟨b, o, e, (hbb.cell (p := ⟨b, _, none⟩) hlt).trans f0, (hbb.cell (p := ⟨b, _, none⟩) hlt).trans f1, (hbb.cell (p := ⟨b, _, none⟩) hlt).trans f2, (hbb.cell (p := ⟨b, _, none⟩) hlt).trans f3⟩
      exact ⟨hD, h.ok, h.pr, h.fl, h.low.trans hbb, h.hB, hp, g3, (World.cell?_of_block (hblk cb h1)).trans h.ccb, (World.cell?_of_block (hblk kb h2)).trans h.ckb, (World.frozen?_of_block (hblk kb h2)).trans h.fkb, (hblk rb h3).trans h.res, h.o1, h.o2, h.o3, h.o4, h.osa, h.opr⟩

end Go.Proofs.Ytjheojfpnfkloaa
