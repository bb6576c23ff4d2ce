/-
  What the program's readLine does with the lines behind the third.
-/
import Derived.Test.YthbebnegmenejaaGreatDoorLineB
import Derived.Test.YthbebnegmenejaaGreatDoorAddA
namespace Go.Proofs.YthbebnegmenejaaGreatDoor
open Go.RowKit

theorem PSt.thread {w w3 : World} {B pb : Nat} {cv wv : Value} {tv : List Value} {st : St} (h : PSt w B pb cv wv tv st) {X : Obj} {g cap : Nat} (hown : w3.ownsRow B 37 1 (.slice (some ⟨g, 0, none⟩) (st.ths.length + 1) cap) (st.ths.length + 1) (tv ++ [nilS])) (hgrow : (w.alloc X).grownBy w3 cv.ownBlock) (hat : cv.ownBlock = some g ∨ g = w.heap.size + 1) :
    w3.heap[pb]? = w.heap[pb]? ∧ Kept B pb w (w3.setCell ⟨pb, 0, none⟩ (.slice (some ⟨g, 0, none⟩) (st.ths.length + 1) cap)) ∧ PSt (w3.setCell ⟨pb, 0, none⟩ (.slice (some ⟨g, 0, none⟩) (st.ths.length + 1) cap)) B pb (.slice (some ⟨g, 0, none⟩) (st.ths.length + 1) cap) wv (tv ++ [nilS]) { st with ths := st.ths ++ [[]] } := by
  have hBa : Below w.heap.size w (w.alloc X) := (Below.refl _ _).alloc (Nat.le_refl _) _
  have hrow : ∀ k, cv.ownBlock = some k → B ≤ k := fun k hk => (h.built.code.lt k hk).1
  have hpb : pb < w.heap.size := Nat.lt_of_lt_of_le h.lt h.le
  have hblk : w3.heap[pb]? = w.heap[pb]? := by
    rw [hgrow.block pb (Nat.lt_of_lt_of_le hpb hBa.size) (fun e => by have := hrow pb e.symm; have := h.lt; omega), hBa.block pb hpb]
  have hk : Kept B pb w w3 := (Kept.of_below hBa h.le).trans (Kept.grown hgrow (Nat.le_trans h.le hBa.size) hrow)
  have hc : ∀ i, w3.cell? ⟨pb, i, none⟩ = w.cell? ⟨pb, i, none⟩ := fun i => World.cell?_of_block (w := w) hblk
  refine ⟨hblk, hk.trans (Kept.box _ _), World.cell?_setCell_same _ _ _ ((hc 0).trans h.c0), (World.cell?_setCell_other _ _ _ _ (by simp)).trans ((hc 1).trans h.c1), (World.cell?_setCell_other _ _ _ _ (by simp)).trans ((hc 2).trans h.c2), (World.cell?_setCell_other _ _ _ _ (by simp)).trans ((hc 3).trans h.c3), fun i hi => ?_, h.lt, Nat.le_trans h.le (by simpa [World.setCell] using hk.size), ?_⟩
  · rw [World.frozen?_setCell]
    exact (World.frozen?_of_block (w := w) hblk).trans (h.fz i hi)
  · exact ((h.built.below hBa).thread hown hgrow hat (H := w.heap.size + 1) (by simp)).store h.lt _

set_option maxRecDepth 100000 in
set_option maxHeartbeats 1600000 in
theorem readLine_thread (k : Int) (h0 : (k == 0) = false) (h1 : (k == 1) = false) (h2 : (k == 2) = false) (B pb mb ob : Nat) (js : List Nat) (s : ByteArray) (hs : s.size ≤ 4000) (HN : Hid (numsOf s.data.toList = some [])) (HM : Hid (nameL s.data.toList = [116, 104, 114, 101, 97, 100])) (te : TypeId) (ep : Value) (w : World) (hE : Env w te ep) (cv wv : Value) (tv : List Value) (st : St) (hP : PSt w B pb cv wv tv st) (hR : Rd w B pb mb ob js) (HT : Hid (st.ths.length ≤ 4000)) :
    Calls Tryz.prog 32 #[.pointer (some ⟨pb, 0, none⟩), .int .i64 k, .string s] w fun e w' => LineQ B pb mb ob js (.iface te ep) w (some { st with ths := st.ths ++ [[]] }) e w' := by
  obtain ⟨i0, hi, hz0, hz1, hz2⟩ := info_parts infoThr
  go_enter Tryz.func32, Tryz.ntmps32
  go_wp2_with (first | (go_at_call 39; refine (splitLine_any s hs te ep _ hE).mono ?_; rintro e w1 ⟨hL, hb1⟩; unfold LineP at hL; rw [HN.out] at hL; obtain ⟨nm, v, hnm, rfl, hown⟩ := hL; rw [HM.out] at hnm; obtain rfl := str_of hnm; clear hnm; obtain ⟨va, vc, rfl⟩ := owns_slice hown; have hP1 := hP.below hb1; obtain ⟨ca, cc, rfl⟩ := owns_slice hP1.built.code; have c1 := hP1.c0; have f1 := hP1.fz 0 (by decide)) | (at_builtin; refine wpList_append_lies _ rfl _ _ 22 rfl B 37 i0 nilS 1 24 Tryz.underlying22 hi hz0 hz1 hz2 rfl (by decide) _ _ _ rfl (hP1.built.code.alloc _) ⟨w1.heap.size, 0, none⟩ 1 1 [nilS] rfl rfl (cell_one_new _ _ _) (fun x hx => by simp at hx; subst hx; rfl) (by decide) (by have := HT.out; unfold maxLen; omega) (by have := HT.out; omega) (Nat.le_trans hP1.le (by simp)) (w1.heap.size + 1) (by simp) ?_; intro g cap w3 hown3 hgrow3 hat3 hlt3; have hfin := hP1.thread hown3 hgrow3 hat3; have d1 := (World.cell?_of_block (w := w1) (a := ⟨pb, 0, none⟩) hfin.1).trans c1; have e1 := (World.frozen?_of_block (w := w1) (a := ⟨pb, 0, none⟩) hfin.1).trans f1))
  go_ret
  refine ⟨(Kept.of_below hb1 hP.le).trans hfin.2.1, rfl, (hR.below hb1 hP.le).kept hfin.2.1 ?_ ?_, _, wv, _, hfin.2.2⟩
  · exact (World.cell?_setCell_other _ _ _ _ (by simp)).trans (World.cell?_of_block (w := w1) hfin.1)
  · exact (World.cell?_setCell_other _ _ _ _ (by simp)).trans (World.cell?_of_block (w := w1) hfin.1)

end Go.Proofs.YthbebnegmenejaaGreatDoor
