/-
  What the document's put does with a thread's line; with the fourth line.
-/
import Derived.Test.YthbebnegmenejaaDoorPutA
import Derived.Test.YthbebnegmenejaaDoorLineC
namespace Go.Proofs.YthbebnegmenejaaDoor
open Go.RowKit

set_option maxRecDepth 100000 in
set_option maxHeartbeats 1600000 in
theorem put_thread (k : Int) (h0 : (k == 0) = false) (h1 : (k == 1) = false) (h2 : (k == 2) = false) (B pb : Nat) (s : ByteArray) (hs : s.size ≤ 4000) (vs : List Int) (HN : Hid (numsOf s.data.toList = some vs)) (b : Bool) (hb : ((vs.length : Int) == 0) = b) (HM : Hid (nameL s.data.toList = [116, 104, 114, 101, 97, 100])) (w : World) (cv wv : Value) (tv : List Value) (st : St) (hP : PSt w B pb cv wv tv st) (HT : Hid (st.ths.length ≤ 4000)) :
    Calls Tryd.prog 13 #[.pointer (some ⟨pb, 0, none⟩), .int .i64 k, .string s] w fun e w' => e = .returned (.bool b) ∧ Kept B pb w w' ∧ ∃ cv wv tv, PSt w' B pb cv wv tv { st with ths := st.ths ++ [[]] } := by
  obtain ⟨i0, hi, hz0, hz1, hz2⟩ := info_parts infoThr
  go_enter Tryd.func13, Tryd.ntmps13
  go_wp2_with (first | (go_at_call 29; refine (read_any s hs _).mono ?_; rintro e w1 ⟨hL, hb1⟩; unfold LineP at hL; rw [HN.out] at hL; obtain ⟨nm, v, hnm, rfl, hown⟩ := hL; rw [HM.out] at hnm; obtain rfl := str_of hnm; clear hnm; obtain ⟨va, vc, rfl⟩ := owns_slice hown; have hP1 := hP.below hb1; obtain ⟨ca, cc, rfl⟩ := owns_slice hP1.built.code; have c1 := hP1.c0; have f1 := hP1.fz 0 (by decide)) | (at_builtin; refine wpList_append_lies _ rfl _ _ 22 rfl B 33 i0 nilS 1 24 Tryd.underlying22 hi hz0 hz1 hz2 rfl (by decide) _ _ _ rfl (hP1.built.code.alloc _) ⟨w1.heap.size, 0, none⟩ 1 1 [nilS] rfl rfl (cell_one_new _ _ _) (fun x hx => by simp at hx; subst hx; rfl) (by decide) (by have := HT.out; unfold maxLen; omega) (by have := HT.out; omega) (Nat.le_trans hP1.le (by simp)) (w1.heap.size + 1) (by simp) ?_; intro g cap w3 hown3 hgrow3 hat3 hlt3; have hfin := hP1.thread hown3 hgrow3 hat3; have d1 := (World.cell?_of_block (w := w1) (a := ⟨pb, 0, none⟩) hfin.1).trans c1; have e1 := (World.frozen?_of_block (w := w1) (a := ⟨pb, 0, none⟩) hfin.1).trans f1))
  go_ret
  exact ⟨rfl, (Kept.of_below hb1 hP.le).trans hfin.2.1, _, wv, _, hfin.2.2⟩

set_option maxRecDepth 100000 in
set_option maxHeartbeats 800000 in
theorem put_three (pb : Nat) (s : ByteArray) (hs : s.size ≤ 4000) (vs : List Int) (HN : Hid (numsOf s.data.toList = some vs)) (HM : Hid (¬ nameL s.data.toList = [116, 104, 114, 101, 97, 100])) (w : World) :
    Calls Tryd.prog 13 #[.pointer (some ⟨pb, 0, none⟩), .int .i64 3, .string s] w fun e w' => e = .returned (.bool false) ∧ Below w.heap.size w w' := by
  go_enter Tryd.func13, Tryd.ntmps13
  go_wp2_with (first | (go_at_call 29; refine (read_any s hs _).mono ?_; rintro e w1 ⟨hL, hb1⟩; unfold LineP at hL; rw [HN.out] at hL; obtain ⟨nm, v, hnm, rfl, hown⟩ := hL; obtain ⟨va, vc, rfl⟩ := owns_slice hown; have hne : (nm.toList == [116, 104, 114, 101, 97, 100]) = false := (by rw [Lib.toList_data, hnm]; simpa using HM.out); clear hnm))
  go_ret
  exact ⟨rfl, hb1⟩

end Go.Proofs.YthbebnegmenejaaDoor
