/-
  What the document's put does with the first three lines.
-/
import Derived.Test.YthbebnegmenejaaDoorLineB
namespace Go.Proofs.YthbebnegmenejaaDoor
open Go.RowKit

/-- What put leaves. -/
def PutQ (B pb : Nat) (w : World) (st : Option St) (e : Ending) (w' : World) : Prop :=
  Kept B pb w w' ∧ match st with
    | none => e = .returned (.bool false)
    | some st' => e = .returned (.bool true) ∧ ∃ cv wv tv, PSt w' B pb cv wv tv st'

set_option maxRecDepth 100000 in
set_option maxHeartbeats 800000 in
theorem put_none (pb : Nat) (k : Int) (s : ByteArray) (hs : s.size ≤ 4000) (HN : Hid (numsOf s.data.toList = none)) (w : World) :
    Calls Tryd.prog 13 #[.pointer (some ⟨pb, 0, none⟩), .int .i64 k, .string s] w fun e w' => e = .returned (.bool false) ∧ Below w.heap.size w w' := by
  go_enter Tryd.func13, Tryd.ntmps13
  go_wp2_with (first | (go_at_call 29; refine (read_any s hs _).mono ?_; rintro e w1 ⟨hL, hb1⟩; unfold LineP at hL; rw [HN.out] at hL; subst hL))
  go_ret
  exact ⟨rfl, hb1⟩

set_option maxRecDepth 100000 in
set_option maxHeartbeats 800000 in
theorem put_words (B pb : Nat) (s : ByteArray) (hs : s.size ≤ 4000) (vs : List Int) (HN : Hid (numsOf s.data.toList = some vs)) (HM : Hid (nameL s.data.toList = [119, 111, 114, 100, 115])) (w : World) (cv wv : Value) (tv : List Value) (st : St) (hP : PSt w B pb cv wv tv st) :
    Calls Tryd.prog 13 #[.pointer (some ⟨pb, 0, none⟩), .int .i64 0, .string s] w fun e w' => PutQ B pb w (some { st with words := vs }) e w' := by
  go_enter Tryd.func13, Tryd.ntmps13
  go_wp2_with (first | (go_at_call 29; refine (read_any s hs _).mono ?_; rintro e w1 ⟨hL, hb1⟩; unfold LineP at hL; rw [HN.out] at hL; obtain ⟨nm, v, hnm, rfl, hown⟩ := hL; rw [HM.out] at hnm; obtain rfl := str_of hnm; clear hnm; obtain ⟨va, vc, rfl⟩ := owns_slice hown; have hP1 := hP.below hb1; have c1 := hP1.c1; have f1 := hP1.fz 1 (by decide)))
  go_ret
  refine ⟨(Kept.of_below hb1 hP.le).trans (Kept.box _ _), rfl, cv, .slice va vs.length vc, tv, ?_⟩
  exact hP1.setWords hown hP.le (fun g hg => lt_of_owns hP.built.code hg) (fun t g ht hg => lt_of_owns (hP.built.thr t ht) hg)

set_option maxRecDepth 100000 in
set_option maxHeartbeats 800000 in
theorem put_words_no (B pb : Nat) (s : ByteArray) (hs : s.size ≤ 4000) (vs : List Int) (HN : Hid (numsOf s.data.toList = some vs)) (HM : Hid (¬ nameL s.data.toList = [119, 111, 114, 100, 115])) (w : World) (cv wv : Value) (tv : List Value) (st : St) (hP : PSt w B pb cv wv tv st) :
    Calls Tryd.prog 13 #[.pointer (some ⟨pb, 0, none⟩), .int .i64 0, .string s] w fun e w' => PutQ B pb w none e w' := by
  go_enter Tryd.func13, Tryd.ntmps13
  go_wp2_with (first | (go_at_call 29; refine (read_any s hs _).mono ?_; rintro e w1 ⟨hL, hb1⟩; unfold LineP at hL; rw [HN.out] at hL; obtain ⟨nm, v, hnm, rfl, hown⟩ := hL; obtain ⟨va, vc, rfl⟩ := owns_slice hown; have hP1 := hP.below hb1; have c1 := hP1.c1; have f1 := hP1.fz 1 (by decide); have hne : (nm.toList == [119, 111, 114, 100, 115]) = false := (by rw [Lib.toList_data, hnm]; simpa using HM.out); clear hnm))
  go_ret
  exact ⟨(Kept.of_below hb1 hP.le).trans (Kept.box _ _), rfl⟩

set_option maxRecDepth 100000 in
set_option maxHeartbeats 800000 in
theorem put_locks (B pb : Nat) (s : ByteArray) (hs : s.size ≤ 4000) (vs : List Int) (HN : Hid (numsOf s.data.toList = some vs)) (HM : Hid (nameL s.data.toList = [108, 111, 99, 107, 115] ∧ vs.length = 1)) (w : World) (cv wv : Value) (tv : List Value) (st : St) (hP : PSt w B pb cv wv tv st) :
    Calls Tryd.prog 13 #[.pointer (some ⟨pb, 0, none⟩), .int .i64 1, .string s] w fun e w' => PutQ B pb w (some { st with lk := vs.getD 0 0 }) e w' := by
  go_enter Tryd.func13, Tryd.ntmps13
  go_wp2_with (first | (go_at_call 29; refine (read_any s hs _).mono ?_; rintro e w1 ⟨hL, hb1⟩; unfold LineP at hL; rw [HN.out] at hL; obtain ⟨nm, v, hnm, rfl, hown⟩ := hL; rw [HM.out.1] at hnm; obtain rfl := str_of hnm; clear hnm; obtain ⟨va, vc, rfl⟩ := owns_slice hown; have hP1 := hP.below hb1; have c2 := hP1.c2; have f2 := hP1.fz 2 (by decide); have hone := hone_of hown HM.out.2; obtain ⟨g, rfl, hg⟩ := hone; rw [HM.out.2] at hown ⊢))
  go_ret
  exact ⟨(Kept.of_below hb1 hP.le).trans (Kept.box _ _), rfl, cv, wv, tv, hP1.setLocks _⟩

set_option maxRecDepth 100000 in
set_option maxHeartbeats 800000 in
theorem put_locks_no (B pb : Nat) (s : ByteArray) (hs : s.size ≤ 4000) (vs : List Int) (HN : Hid (numsOf s.data.toList = some vs)) (HM : Hid (¬ (nameL s.data.toList = [108, 111, 99, 107, 115] ∧ vs.length = 1))) (w : World) (cv wv : Value) (tv : List Value) (st : St) (hP : PSt w B pb cv wv tv st) :
    Calls Tryd.prog 13 #[.pointer (some ⟨pb, 0, none⟩), .int .i64 1, .string s] w fun e w' => PutQ B pb w none e w' := by
  by_cases hv : vs.length = 1
  · have HM2 : Hid (¬ nameL s.data.toList = [108, 111, 99, 107, 115]) := fun e => HM.out ⟨e, hv⟩
    have HV1 : Hid (vs.length = 1) := hv
    clear hv
    go_enter Tryd.func13, Tryd.ntmps13
    go_wp2_with (first | (go_at_call 29; refine (read_any s hs _).mono ?_; rintro e w1 ⟨hL, hb1⟩; unfold LineP at hL; rw [HN.out] at hL; obtain ⟨nm, v, hnm, rfl, hown⟩ := hL; obtain ⟨va, vc, rfl⟩ := owns_slice hown; have hP1 := hP.below hb1; have c2 := hP1.c2; have f2 := hP1.fz 2 (by decide); have hone := hone_of hown HV1.out; obtain ⟨g, rfl, hg⟩ := hone; rw [HV1.out] at hown ⊢; have hne : (nm.toList == [108, 111, 99, 107, 115]) = false := (by rw [Lib.toList_data, hnm]; simpa using HM2.out); clear hnm))
    go_ret
    exact ⟨(Kept.of_below hb1 hP.le).trans (Kept.box _ _), rfl⟩
  · have hv1 : ((vs.length : Int) != 1) = true := by simp; omega
    clear hv
    go_enter Tryd.func13, Tryd.ntmps13
    go_wp2_with (first | (go_at_call 29; refine (read_any s hs _).mono ?_; rintro e w1 ⟨hL, hb1⟩; unfold LineP at hL; rw [HN.out] at hL; obtain ⟨nm, v, hnm, rfl, hown⟩ := hL; obtain ⟨va, vc, rfl⟩ := owns_slice hown))
    go_ret
    exact ⟨Kept.of_below hb1 hP.le, rfl⟩

set_option maxRecDepth 100000 in
set_option maxHeartbeats 800000 in
theorem put_regs (B pb : Nat) (s : ByteArray) (hs : s.size ≤ 4000) (vs : List Int) (HN : Hid (numsOf s.data.toList = some vs)) (HM : Hid (nameL s.data.toList = [114, 101, 103, 115] ∧ vs.length = 1)) (w : World) (cv wv : Value) (tv : List Value) (st : St) (hP : PSt w B pb cv wv tv st) :
    Calls Tryd.prog 13 #[.pointer (some ⟨pb, 0, none⟩), .int .i64 2, .string s] w fun e w' => PutQ B pb w (some { st with rg := vs.getD 0 0 }) e w' := by
  go_enter Tryd.func13, Tryd.ntmps13
  go_wp2_with (first | (go_at_call 29; refine (read_any s hs _).mono ?_; rintro e w1 ⟨hL, hb1⟩; unfold LineP at hL; rw [HN.out] at hL; obtain ⟨nm, v, hnm, rfl, hown⟩ := hL; rw [HM.out.1] at hnm; obtain rfl := str_of hnm; clear hnm; obtain ⟨va, vc, rfl⟩ := owns_slice hown; have hP1 := hP.below hb1; have c2 := hP1.c3; have f2 := hP1.fz 3 (by decide); have hone := hone_of hown HM.out.2; obtain ⟨g, rfl, hg⟩ := hone; rw [HM.out.2] at hown ⊢))
  go_ret
  exact ⟨(Kept.of_below hb1 hP.le).trans (Kept.box _ _), rfl, cv, wv, tv, hP1.setRegs _⟩

set_option maxRecDepth 100000 in
set_option maxHeartbeats 800000 in
theorem put_regs_no (B pb : Nat) (s : ByteArray) (hs : s.size ≤ 4000) (vs : List Int) (HN : Hid (numsOf s.data.toList = some vs)) (HM : Hid (¬ (nameL s.data.toList = [114, 101, 103, 115] ∧ vs.length = 1))) (w : World) (cv wv : Value) (tv : List Value) (st : St) (hP : PSt w B pb cv wv tv st) :
    Calls Tryd.prog 13 #[.pointer (some ⟨pb, 0, none⟩), .int .i64 2, .string s] w fun e w' => PutQ B pb w none e w' := by
  by_cases hv : vs.length = 1
  · have HM2 : Hid (¬ nameL s.data.toList = [114, 101, 103, 115]) := fun e => HM.out ⟨e, hv⟩
    have HV1 : Hid (vs.length = 1) := hv
    clear hv
    go_enter Tryd.func13, Tryd.ntmps13
    go_wp2_with (first | (go_at_call 29; refine (read_any s hs _).mono ?_; rintro e w1 ⟨hL, hb1⟩; unfold LineP at hL; rw [HN.out] at hL; obtain ⟨nm, v, hnm, rfl, hown⟩ := hL; obtain ⟨va, vc, rfl⟩ := owns_slice hown; have hP1 := hP.below hb1; have c2 := hP1.c3; have f2 := hP1.fz 3 (by decide); have hone := hone_of hown HV1.out; obtain ⟨g, rfl, hg⟩ := hone; rw [HV1.out] at hown ⊢; have hne : (nm.toList == [114, 101, 103, 115]) = false := (by rw [Lib.toList_data, hnm]; simpa using HM2.out); clear hnm))
    go_ret
    exact ⟨(Kept.of_below hb1 hP.le).trans (Kept.box _ _), rfl⟩
  · have hv1 : ((vs.length : Int) != 1) = true := by simp; omega
    clear hv
    go_enter Tryd.func13, Tryd.ntmps13
    go_wp2_with (first | (go_at_call 29; refine (read_any s hs _).mono ?_; rintro e w1 ⟨hL, hb1⟩; unfold LineP at hL; rw [HN.out] at hL; obtain ⟨nm, v, hnm, rfl, hown⟩ := hL; obtain ⟨va, vc, rfl⟩ := owns_slice hown))
    go_ret
    exact ⟨Kept.of_below hb1 hP.le, rfl⟩

end Go.Proofs.YthbebnegmenejaaDoor
