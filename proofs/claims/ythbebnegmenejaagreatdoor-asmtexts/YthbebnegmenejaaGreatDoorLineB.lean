/-
  What the program's readLine does with the first three lines.
-/
import Derived.Test.YthbebnegmenejaaGreatDoorLineA
namespace Go.Proofs.YthbebnegmenejaaGreatDoor
open Go.RowKit

/-- What readLine leaves. -/
def LineQ (B pb mb ob : Nat) (js : List Nat) (bad : Value) (w : World) (st : Option St) (e : Ending) (w' : World) : Prop :=
  Kept B pb w w' ∧ match st with
    | none => e = .returned bad
    | some st' => e = .returned .nilIface ∧ Rd w' B pb mb ob js ∧ ∃ cv wv tv, PSt w' B pb cv wv tv st'

theorem str_of {nm : ByteArray} {l : List UInt8} (h : nm.data.toList = l) : nm = ⟨⟨l⟩⟩ := ByteArray.ext (Array.toList_inj.mp (by simpa using h))

theorem owns_slice {w : World} {B : Nat} {e : TypeId} {size : Nat} {v : Value} {n : Nat} {xs : List Value} (h : w.ownsRow B e size v n xs) : ∃ a c, v = .slice a n c := by
  rcases h.2 with ⟨h0, h1⟩ | ⟨g, cp, cur, hv, _⟩
  · exact ⟨none, 0, by rw [h0, h1]⟩
  · exact ⟨_, _, hv⟩

theorem ne_str {a b : ByteArray} (h : ¬ a.data.toList = b.data.toList) : (a.toList == b.toList) = false := by
  rw [Lib.toList_data, Lib.toList_data]
  simpa using h
theorem one_no {nm t : ByteArray} {n : Nat} (h : ¬ (nm.data.toList = t.data.toList ∧ n = 1)) : (nm.toList == t.toList) = false ∨ (nm.toList == t.toList) = true ∧ ((n : Int) == 1) = false := by
  rw [Lib.toList_data, Lib.toList_data]
  by_cases h1 : nm.data.toList = t.data.toList
  · refine Or.inr ⟨by simpa using h1, ?_⟩
    have : n ≠ 1 := fun e => h ⟨h1, e⟩
    simp; omega
  · exact Or.inl (by simpa using h1)
theorem hone_of {w : World} {B : Nat} {vs : List Int} {a : Option Addr} {c : Nat} (h : w.ownsRow B 3 1 (.slice a vs.length c) vs.length (vs.map (Value.int .i64))) (hl : vs.length = 1) : ∃ g, a = some ⟨g, 0, none⟩ ∧ w.cell? ⟨g, 0, none⟩ = some (.int .i64 (vs.getD 0 0)) := by
  rcases h.2 with ⟨h0, _⟩ | ⟨g, cp, cur, hv, hr⟩
  · simp at h0; omega
  · simp only [Value.slice.injEq, true_and] at hv
    obtain ⟨rfl, rfl⟩ := hv
    refine ⟨g, rfl, ?_⟩
    have := h.cellAt 0 (by simp; omega)
    rw [this]
    match vs, hl with
    | [x], _ => rfl

set_option maxRecDepth 100000 in
set_option maxHeartbeats 800000 in
theorem readLine_words (B pb mb ob : Nat) (js : List Nat) (s : ByteArray) (hs : s.size ≤ 4000) (vs : List Int) (HN : Hid (numsOf s.data.toList = some vs)) (HM : Hid (nameL s.data.toList = [119, 111, 114, 100, 115])) (te : TypeId) (ep : Value) (w : World) (hE : Env w te ep) (cv wv : Value) (tv : List Value) (st : St) (hP : PSt w B pb cv wv tv st) (hR : Rd w B pb mb ob js) :
    Calls Tryz.prog 32 #[.pointer (some ⟨pb, 0, none⟩), .int .i64 0, .string s] w fun e w' => LineQ B pb mb ob js (.iface te ep) w (some { st with words := vs }) e w' := by
  go_enter Tryz.func32, Tryz.ntmps32
  go_wp2_with (first | (go_at_call 39; refine (splitLine_any s hs te ep _ hE).mono ?_; rintro e w1 ⟨hL, hb1⟩; unfold LineP at hL; rw [HN.out] at hL; obtain ⟨nm, v, hnm, rfl, hown⟩ := hL; rw [HM.out] at hnm; obtain rfl := str_of hnm; clear hnm; obtain ⟨va, vc, rfl⟩ := owns_slice hown; have hP1 := hP.below hb1; have c1 := hP1.c1; have f1 := hP1.fz 1 (by decide)) | (go_at_call 40; refine (many_yes _ _ _).mono ?_; rintro e w2 ⟨rfl, rfl⟩))
  go_ret
  refine ⟨(Kept.of_below hb1 hP.le).trans (Kept.box _ _), rfl, (hR.below hb1 hP.le).box 1 (by decide) _, cv, .slice va vs.length vc, tv, ?_⟩
  exact hP1.setWords hown hP.le (fun g hg => lt_of_owns hP.built.code hg) (fun t g ht hg => lt_of_owns (hP.built.thr t ht) hg)

set_option maxRecDepth 100000 in
set_option maxHeartbeats 800000 in
theorem readLine_words_no (B pb mb ob : Nat) (js : List Nat) (s : ByteArray) (hs : s.size ≤ 4000) (vs : List Int) (HN : Hid (numsOf s.data.toList = some vs)) (HM : Hid (¬ nameL s.data.toList = [119, 111, 114, 100, 115])) (te : TypeId) (ep : Value) (w : World) (hE : Env w te ep) (cv wv : Value) (tv : List Value) (st : St) (hP : PSt w B pb cv wv tv st) :
    Calls Tryz.prog 32 #[.pointer (some ⟨pb, 0, none⟩), .int .i64 0, .string s] w fun e w' => LineQ B pb mb ob js (.iface te ep) w (none) e w' := by
  go_enter Tryz.func32, Tryz.ntmps32
  go_wp2_with (first | (go_at_call 39; refine (splitLine_any s hs te ep _ hE).mono ?_; rintro e w1 ⟨hL, hb1⟩; unfold LineP at hL; rw [HN.out] at hL; obtain ⟨nm, v, hnm, rfl, hown⟩ := hL;  obtain ⟨va, vc, rfl⟩ := owns_slice hown; have hP1 := hP.below hb1; have c1 := hP1.c1; have f1 := hP1.fz 1 (by decide); have he := (hE.below hb1).err; have hne : (nm.toList == (⟨⟨[119, 111, 114, 100, 115]⟩⟩ : ByteArray).toList) = false := ne_str (by rw [hnm]; exact HM.out)) | (go_at_call 40; refine (many_no _ _ hne _ te ep _ he).mono ?_; rintro e w2 ⟨rfl, hb2⟩; have c2 := (hb2.cell (lt_of_cell c1)).trans c1; have f2 := (hb2.frozen (p := ⟨pb, 1, none⟩) (Nat.lt_of_lt_of_le hP1.lt hP1.le)).trans f1))
  go_ret
  exact ⟨((Kept.of_below hb1 hP.le).trans (Kept.of_below hb2 hP1.le)).trans (Kept.box _ _), rfl⟩

set_option maxRecDepth 100000 in
set_option maxHeartbeats 800000 in
theorem readLine_locks (B pb mb ob : Nat) (js : List Nat) (s : ByteArray) (hs : s.size ≤ 4000) (vs : List Int) (HN : Hid (numsOf s.data.toList = some vs)) (HM : Hid (nameL s.data.toList = [108, 111, 99, 107, 115] ∧ vs.length = 1)) (te : TypeId) (ep : Value) (w : World) (hE : Env w te ep) (cv wv : Value) (tv : List Value) (st : St) (hP : PSt w B pb cv wv tv st) (hR : Rd w B pb mb ob js) :
    Calls Tryz.prog 32 #[.pointer (some ⟨pb, 0, none⟩), .int .i64 1, .string s] w fun e w' => LineQ B pb mb ob js (.iface te ep) w (some { st with lk := vs.getD 0 0 }) e w' := by
  go_enter Tryz.func32, Tryz.ntmps32
  go_wp2_with (first | (go_at_call 39; refine (splitLine_any s hs te ep _ hE).mono ?_; rintro e w1 ⟨hL, hb1⟩; unfold LineP at hL; rw [HN.out] at hL; obtain ⟨nm, v, hnm, rfl, hown⟩ := hL; rw [HM.out.1] at hnm; obtain rfl := str_of hnm; clear hnm; obtain ⟨va, vc, rfl⟩ := owns_slice hown; have hP1 := hP.below hb1; have c2 := hP1.c2; have f2 := hP1.fz 2 (by decide); have hone := hone_of hown HM.out.2; obtain ⟨g, rfl, hg⟩ := hone; rw [HM.out.2] at hown ⊢) | (go_at_call 41; refine (single_yes _ g _ _ _ hg).mono ?_; rintro e w2 ⟨rfl, rfl⟩))
  go_ret
  exact ⟨(Kept.of_below hb1 hP.le).trans (Kept.box _ _), rfl, (hR.below hb1 hP.le).box 2 (by decide) _, cv, wv, tv, hP1.setLocks _⟩

set_option maxRecDepth 100000 in
set_option maxHeartbeats 800000 in
theorem readLine_locks_no (B pb mb ob : Nat) (js : List Nat) (s : ByteArray) (hs : s.size ≤ 4000) (vs : List Int) (HN : Hid (numsOf s.data.toList = some vs)) (HM : Hid (¬ (nameL s.data.toList = [108, 111, 99, 107, 115] ∧ vs.length = 1))) (te : TypeId) (ep : Value) (w : World) (hE : Env w te ep) (cv wv : Value) (tv : List Value) (st : St) (hP : PSt w B pb cv wv tv st) :
    Calls Tryz.prog 32 #[.pointer (some ⟨pb, 0, none⟩), .int .i64 1, .string s] w fun e w' => LineQ B pb mb ob js (.iface te ep) w (none) e w' := by
  go_enter Tryz.func32, Tryz.ntmps32
  go_wp2_with (first | (go_at_call 39; refine (splitLine_any s hs te ep _ hE).mono ?_; rintro e w1 ⟨hL, hb1⟩; unfold LineP at hL; rw [HN.out] at hL; obtain ⟨nm, v, hnm, rfl, hown⟩ := hL;  obtain ⟨va, vc, rfl⟩ := owns_slice hown; have hP1 := hP.below hb1; have c2 := hP1.c2; have f2 := hP1.fz 2 (by decide); have he := (hE.below hb1).err; have hne := one_no (nm := nm) (n := vs.length) (t := ⟨⟨[108, 111, 99, 107, 115]⟩⟩) (by rw [hnm]; exact HM.out)) | (go_at_call 41; refine (single_no _ _ _ _ _ hne te ep _ he).mono ?_; rintro e w2 ⟨rfl, hb2⟩; have d2 := (hb2.cell (lt_of_cell c2)).trans c2; have e2 := (hb2.frozen (p := ⟨pb, 2, none⟩) (Nat.lt_of_lt_of_le hP1.lt hP1.le)).trans f2))
  go_ret
  exact ⟨((Kept.of_below hb1 hP.le).trans (Kept.of_below hb2 hP1.le)).trans (Kept.box _ _), rfl⟩

set_option maxRecDepth 100000 in
set_option maxHeartbeats 800000 in
theorem readLine_regs (B pb mb ob : Nat) (js : List Nat) (s : ByteArray) (hs : s.size ≤ 4000) (vs : List Int) (HN : Hid (numsOf s.data.toList = some vs)) (HM : Hid (nameL s.data.toList = [114, 101, 103, 115] ∧ vs.length = 1)) (te : TypeId) (ep : Value) (w : World) (hE : Env w te ep) (cv wv : Value) (tv : List Value) (st : St) (hP : PSt w B pb cv wv tv st) (hR : Rd w B pb mb ob js) :
    Calls Tryz.prog 32 #[.pointer (some ⟨pb, 0, none⟩), .int .i64 2, .string s] w fun e w' => LineQ B pb mb ob js (.iface te ep) w (some { st with rg := vs.getD 0 0 }) e w' := by
  go_enter Tryz.func32, Tryz.ntmps32
  go_wp2_with (first | (go_at_call 39; refine (splitLine_any s hs te ep _ hE).mono ?_; rintro e w1 ⟨hL, hb1⟩; unfold LineP at hL; rw [HN.out] at hL; obtain ⟨nm, v, hnm, rfl, hown⟩ := hL; rw [HM.out.1] at hnm; obtain rfl := str_of hnm; clear hnm; obtain ⟨va, vc, rfl⟩ := owns_slice hown; have hP1 := hP.below hb1; have c3 := hP1.c3; have f3 := hP1.fz 3 (by decide); have hone := hone_of hown HM.out.2; obtain ⟨g, rfl, hg⟩ := hone; rw [HM.out.2] at hown ⊢) | (go_at_call 41; refine (single_yes _ g _ _ _ hg).mono ?_; rintro e w2 ⟨rfl, rfl⟩))
  go_ret
  exact ⟨(Kept.of_below hb1 hP.le).trans (Kept.box _ _), rfl, (hR.below hb1 hP.le).box 3 (by decide) _, cv, wv, tv, hP1.setRegs _⟩

set_option maxRecDepth 100000 in
set_option maxHeartbeats 800000 in
theorem readLine_regs_no (B pb mb ob : Nat) (js : List Nat) (s : ByteArray) (hs : s.size ≤ 4000) (vs : List Int) (HN : Hid (numsOf s.data.toList = some vs)) (HM : Hid (¬ (nameL s.data.toList = [114, 101, 103, 115] ∧ vs.length = 1))) (te : TypeId) (ep : Value) (w : World) (hE : Env w te ep) (cv wv : Value) (tv : List Value) (st : St) (hP : PSt w B pb cv wv tv st) :
    Calls Tryz.prog 32 #[.pointer (some ⟨pb, 0, none⟩), .int .i64 2, .string s] w fun e w' => LineQ B pb mb ob js (.iface te ep) w (none) e w' := by
  go_enter Tryz.func32, Tryz.ntmps32
  go_wp2_with (first | (go_at_call 39; refine (splitLine_any s hs te ep _ hE).mono ?_; rintro e w1 ⟨hL, hb1⟩; unfold LineP at hL; rw [HN.out] at hL; obtain ⟨nm, v, hnm, rfl, hown⟩ := hL;  obtain ⟨va, vc, rfl⟩ := owns_slice hown; have hP1 := hP.below hb1; have c3 := hP1.c3; have f3 := hP1.fz 3 (by decide); have he := (hE.below hb1).err; have hne := one_no (nm := nm) (n := vs.length) (t := ⟨⟨[114, 101, 103, 115]⟩⟩) (by rw [hnm]; exact HM.out)) | (go_at_call 41; refine (single_no _ _ _ _ _ hne te ep _ he).mono ?_; rintro e w2 ⟨rfl, hb2⟩; have d2 := (hb2.cell (lt_of_cell c3)).trans c3; have e2 := (hb2.frozen (p := ⟨pb, 3, none⟩) (Nat.lt_of_lt_of_le hP1.lt hP1.le)).trans f3))
  go_ret
  exact ⟨((Kept.of_below hb1 hP.le).trans (Kept.of_below hb2 hP1.le)).trans (Kept.box _ _), rfl⟩

end Go.Proofs.YthbebnegmenejaaGreatDoor
