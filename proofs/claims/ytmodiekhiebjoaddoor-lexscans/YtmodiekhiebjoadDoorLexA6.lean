/-
  The program's tokens: names and numbers.
-/
import Derived.Test.YtmodiekhiebjoadDoorLexA5
namespace Go.Proofs.YtmodiekhiebjoadDoor
open Go.RowKit

/-- A token of the program: its kind, number and length, or none. -/
def TokQ (W : World) (sb : Nat) (s : ByteArray) (i : Nat) (e : Ending) (w' : World) : Prop :=
  W.grownBy w' (some sb) ∧ match oneL (s.data.toList.drop i) with
    | none => e = .panicked (badT i)
    | some (k, v, m) => e = .returned (.agg #[.int .i64 k, .int .i64 v, .int .i64 i, .string (s.extract i (i + m))]) ∧ Sc w' sb s (i + m)

theorem grown_high {w V : World} {row : Option Nat} (h : w.grownBy V row) {a : Addr} (ha : w.heap.size ≤ a.block) (v : Value) : w.grownBy (V.setCell a v) row :=
  ⟨h.os, h.tape, h.output, by simpa [World.setCell] using h.size, fun j hj hr => (Below.heap_setCell _ _ _ _ (by omega)).trans (h.block j hj hr)⟩
theorem grown_alloc {w V : World} {row : Option Nat} (h : w.grownBy V row) (o : Obj) : w.grownBy (V.alloc o) row := grown_then h (grown_of_below ((Below.refl _ _).alloc (Nat.le_refl _) o) row)
theorem Sc.far {w : World} {sb : Nat} {s : ByteArray} {k : Nat} (h : Sc w sb s k) {a : Addr} (ha : a.block ≠ sb) (v : Value) : Sc (w.setCell a v) sb s k := (Below.heap_setCell _ _ _ _ (fun e => ha e.symm)).trans h
theorem Sc.more {w : World} {sb : Nat} {s : ByteArray} {k : Nat} (h : Sc w sb s k) (o : Obj) : Sc (w.alloc o) sb s k := h.below ((Below.refl _ _).alloc (Nat.le_refl _) o)
theorem extract_size (s : ByteArray) (i n : Nat) (h : i + n ≤ s.size) : (s.extract i (i + n)).size = n := by
  rw [ByteArray.size_extract]; omega

set_option maxHeartbeats 1600000 in
theorem name_any (sb : Nat) (s : ByteArray) (hs : s.size ≤ 4000) (i : Nat) (hi : i < s.size) (hl : isLet s[i] = true) (w : World) (h : Sc w sb s i) :
    Calls Tryd.prog 23 #[.pointer (some ⟨sb, 0, none⟩)] w fun e w' => TokQ w sb s i e w' := by
  have hmf : ∀ (fn : Fn) (first cap : Array Value) (w : World), (Instr.makeFunc fn first cap).run Tryd.prog w = .ok (.func fn first cap) w := fun _ _ _ _ => rfl
  obtain ⟨N, hN⟩ : ∃ N, 1 + twAt isNam s (i + 1) = N := ⟨_, rfl⟩
  have hN2 : i + twAt isNam s i = i + N := by rw [twAt_more hi (by simp [isNam, hl]), ← hN]; omega
  have hle : i + N ≤ s.size := by rw [← hN2]; exact twAt_le (by omega)
  have HQ : Hid (oneL (s.data.toList.drop i) = if 12 < N then none else some (kindW (s.extract i (i + N)).data.toList, 0, N)) := oneL_name hi hl hN
  have HN2 := Hid.out (p := Hid _) hN2
  obtain ⟨x, hx⟩ : ∃ x : ByteArray, s.extract i (i + N) = x := ⟨_, rfl⟩
  have hxs : x.size = N := by rw [← hx]; exact extract_size s i N hle
  have HX := Hid.out (p := Hid _) hx
  clear hN hN2 hx
  have hA : Below w.heap.size w (w.alloc (.cells #[.int .i64 0, .int .i64 0, .int .i64 0, .string ⟨#[]⟩] 29)) := (Below.refl _ _).alloc (Nat.le_refl _) _
  have hSA := h.below hA
  have hAx : (w.alloc (.cells #[.int .i64 0, .int .i64 0, .int .i64 0, .string ⟨#[]⟩] 29)).heap[w.heap.size]? = some (.cells #[.int .i64 0, .int .i64 0, .int .i64 0, .string ⟨#[]⟩] 29) := heap_alloc_new _ _
  have hAl : w.heap.size < (w.alloc (.cells #[.int .i64 0, .int .i64 0, .int .i64 0, .string ⟨#[]⟩] 29)).heap.size := by simp
  have hne : some w.heap.size ≠ some sb := by have := h.lt; simp; omega
  have HA := Hid.out (p := Hid _) (And.intro hA (And.intro hSA (And.intro hAx (And.intro hAl hne))))
  clear hA hSA hAx hAl hne
  by_cases h12 : 12 < N
  · have h12' : 12 < (x.size : Int) := by omega
    have HQ2 : Hid (∀ e w', w.grownBy w' (some sb) → e = .panicked (badT i) → TokQ w sb s i e w') := fun e w' hg he => by
      unfold TokQ
      rw [HQ.out, if_pos h12]
      exact ⟨hg, he⟩
    go_enter Tryd.func23, Tryd.ntmps23
    go_wp2_with (first | (go_at_call 28; refine (take_nam sb s hs i (by omega) (i + N) HN2 _ HA.out.2.1).mono ?_; rintro e w1 ⟨rfl, h1, hg1⟩; rw [HX.out]; have HG1 := Hid.out (p := Hid _) (And.intro h1 hg1); clear h1 hg1) | (go_at_call 32; refine (pkind_any x _).mono ?_; rintro e w' ⟨rfl, rfl⟩) | (go_at_call 31; refine (taken_any sb s (i + N) (by omega) _ x (by omega) _ HG1.out.1).mono ?_; rintro e w2 ⟨rfl, hb2⟩))
    exact ⟨rfl, HQ2.out _ _ (grown_then (grown_of_below HA.out.1 _) (grown_then HG1.out.2 (grown_of_below (hb2.alloc hb2.size _) _))) rfl⟩
  · have h12' : ¬ 12 < (x.size : Int) := by omega
    have HQ2 : Hid (∀ e w', w.grownBy w' (some sb) → e = .returned (.agg #[.int .i64 (kindW x.data.toList), .int .i64 0, .int .i64 i, .string x]) → Sc w' sb s (i + N) → TokQ w sb s i e w') := fun e w' hg he hc => by
      unfold TokQ
      rw [HQ.out, if_neg h12]
      refine ⟨hg, ?_, hc⟩
      rw [HX.out]
      exact he
    go_enter Tryd.func23, Tryd.ntmps23
    go_wp2_with (first | (go_at_call 28; refine (take_nam sb s hs i (by omega) (i + N) HN2 _ HA.out.2.1).mono ?_; rintro e w1 ⟨rfl, h1, hg1⟩; rw [HX.out]; have HG1 := Hid.out (p := Hid _) (And.intro h1 hg1); clear h1 hg1) | (go_at_call 32; refine (pkind_any x _).mono ?_; rintro e w' ⟨rfl, rfl⟩) | (go_at_call 31; refine (taken_any sb s (i + N) (by omega) _ x (by omega) _ HG1.out.1).mono ?_; rintro e w2 ⟨rfl, hb2⟩; have hx2 := (hb2.block _ (Nat.lt_of_lt_of_le HA.out.2.2.2.1 HG1.out.2.size)).trans ((HG1.out.2.block _ HA.out.2.2.2.1 HA.out.2.2.2.2).trans HA.out.2.2.1); have p0 := box_cell (i := 0) hx2 rfl; have p1 := box_cell (i := 1) hx2 rfl; have p2 := box_cell (i := 2) hx2 rfl; have p3 := box_cell (i := 3) hx2 rfl; have pf := fun j => box_free (i := j) hx2; have hl2 : w.heap.size < w2.heap.size := Nat.lt_of_lt_of_le (Nat.lt_of_lt_of_le HA.out.2.2.2.1 HG1.out.2.size) hb2.size; clear hx2))
    have hg2 : w.grownBy w2 (some sb) := grown_then (grown_of_below HA.out.1 _) (grown_then HG1.out.2 (grown_of_below hb2 _))
    have hne : w.heap.size ≠ sb := by have := h.lt; omega
    refine bodyPost_ret (v := .agg #[.int .i64 (kindW x.data.toList), .int .i64 0, .int .i64 i, .string x]) (by simp [results, Tryd.results23, go_sem, p0, p1, p2, p3, hl2]) rfl (HQ2.out _ _ ?_ rfl ?_)
    · exact grown_alloc (grown_high (grown_high (grown_high (grown_high hg2 (Nat.le_refl _) _) (Nat.le_refl _) _) (Nat.le_refl _) _) (Nat.le_refl _) _) _
    · exact (((((HG1.out.1.below hb2).far hne _).far hne _).far hne _).far hne _).more _

end Go.Proofs.YtmodiekhiebjoadDoor
