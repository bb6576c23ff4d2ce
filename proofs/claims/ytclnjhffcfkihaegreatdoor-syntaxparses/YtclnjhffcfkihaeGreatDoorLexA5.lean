/-
  The program's tokens: what was taken.
  The program's tokens: names and numbers.
-/
import Derived.Test.YtclnjhffcfkihaeGreatDoorLexA3
import Derived.Deep.RegionHeld3
namespace Go.Proofs.YtclnjhffcfkihaeGreatDoor
section
open Go.RowKit

theorem wrap_less (k t : Nat) (h : k ≤ 4000) (h2 : t ≤ k) : IntKind.i64.wrap ((k : Int) - (t : Int)) = (k : Int) - (t : Int) := by
  rw [IntKind.wrap_i64]
  omega
theorem lexClone_any (t : ByteArray) (ht : t.size ≤ 4000) (w : World) :
    Calls Tryz.prog 128 #[.string t] w fun e w' => e = .returned (.string t) ∧ Below w.heap.size w w' := by
  go_enter Tryz.func128, Tryz.ntmps128
  go_wp2_with (first | (go_at_call 145; refine (Tryz.stringslite_Clone t _ (by omega)).mono ?_; rintro e w' ⟨rfl, hb⟩))
  go_ret
  exact ⟨rfl, hb⟩

set_option maxRecDepth 100000 in
set_option maxHeartbeats 800000 in
theorem taken_any (sb : Nat) (s : ByteArray) (k : Nat) (hk : k ≤ 4000) (kind : Int) (t : ByteArray) (ht : t.size ≤ k) (w : World) (h : Sc w sb s k) :
    Calls Tryz.prog 111 #[.pointer (some ⟨sb, 0, none⟩), .int .i64 kind, .string t] w fun e w' => e = .returned (.agg #[.int .i64 kind, .int .i64 0, .int .i64 ((k : Int) - (t.size : Int)), .string t]) ∧ Below w.heap.size w w' := by
  have h0 := h.c0
  have h1 := h.c1
  go_enter Tryz.func111, Tryz.ntmps111
  go_wp2_with fail
  obtain ⟨V, hV⟩ : ∃ V, w.alloc (.cells #[.int .i64 0, .int .i64 0, .int .i64 0, .string ⟨#[]⟩] 66) = V := ⟨_, rfl⟩
  have hbV : Below w.heap.size w V := by rw [← hV]; exact (Below.refl _ _).alloc (Nat.le_refl _) _
  have hxV : V.heap[w.heap.size]? = some (.cells #[.int .i64 0, .int .i64 0, .int .i64 0, .string ⟨#[]⟩] 66) := by rw [← hV]; exact heap_alloc_new _ _
  have hlV : w.heap.size < V.heap.size := by rw [← hV]; simp
  have v1 : V.cell? ⟨sb, 1, none⟩ = some (.int .i64 (k : Int)) := (h.below hbV).c1
  have HSV : Hid (sb < V.heap.size) := (h.below hbV).lt
  have hne : ¬ sb = w.heap.size := by have := h.lt; omega
  have hne' : ¬ w.heap.size = sb := fun e => hne e.symm
  rw [hV]
  have q0 : V.cell? ⟨w.heap.size, 0, none⟩ = some (.int .i64 0) := box_cell hxV rfl
  have q1 : V.cell? ⟨w.heap.size, 1, none⟩ = some (.int .i64 0) := box_cell hxV rfl
  have q2 : V.cell? ⟨w.heap.size, 2, none⟩ = some (.int .i64 0) := box_cell hxV rfl
  have q3 : V.cell? ⟨w.heap.size, 3, none⟩ = some (.string ⟨#[]⟩) := box_cell hxV rfl
  have qf : ∀ i, V.frozen? ⟨w.heap.size, i, none⟩ = false := fun i => box_free hxV
  have HLV : Hid (w.heap.size < V.heap.size) := hlV
  have HBV := Hid.out (p := Hid _) hbV
  clear hV h h0 h1 hxV hlV hbV
  go_region_held3 (fun w' => w'.cell? ⟨sb, 1, none⟩ = some (.int .i64 (k : Int))) (go_keep)
    (first | (go_at_call 128; refine (lexClone_any t (by omega) _).mono ?_; rintro e w7 ⟨rfl, hb7⟩; have hc7 := hb7.cell (p := ⟨sb, 1, none⟩) HSV.out; have hd7 := fun i => hb7.cell (p := ⟨w.heap.size, i, none⟩) HLV.out; have hf7 := fun i => hb7.frozen (p := ⟨w.heap.size, i, none⟩) HLV.out))
  rw [wrap_less k t.size hk ht]
  go_wp2
  have hw7 : Below w.heap.size w w7 := HBV.out.trans (Below.mono ((Below.refl _ _).drew.trans hb7) HBV.out.size)
  refine bodyPost_ret (v := .agg #[.int .i64 kind, .int .i64 0, .int .i64 ((k : Int) - (t.size : Int)), .string t]) (by simp [results, Tryz.results111, go_sem, hd7, q0, q1, q2, q3]) rfl ⟨rfl, ?_⟩
  exact (((hw7.setCell (Nat.le_refl _) _).setCell (Nat.le_refl _) _).setCell (Nat.le_refl _) _).setCell (Nat.le_refl _) _
end

section
open Go.RowKit

/-- A token of the program: its kind, number and length, or none. -/
def TokQ (W : World) (sb : Nat) (s : ByteArray) (i : Nat) (e : Ending) (w' : World) : Prop :=
  W.grownBy w' (some sb) ∧ match oneL (s.data.toList.drop i) with
    | none => e = .panicked (badT i)
    | some (k, v, m) => e = .returned (.agg #[.int .i64 k, .int .i64 v, .int .i64 i, .string (s.extract i (i + m))]) ∧ Sc w' sb s (i + m)

theorem grown_high {w V : World} {row : Option Nat} (h : w.grownBy V row) {a : Addr} (ha : w.heap.size ≤ a.block) (v : Value) : w.grownBy (V.setCell a v) row :=
  ⟨h.os, h.tape, h.output, by simpa [World.setCell] using h.size, fun j hj hr => (Below.heap_setCell _ _ _ _ (by omega)).trans (h.block j hj hr)⟩
theorem grown_alloc {w V : World} {row : Option Nat} (h : w.grownBy V row) (o : Obj) : w.grownBy (V.alloc o) row := grown_then h (grown_of_below ((Below.refl _ _).alloc (Nat.le_refl _) o) row)
theorem Sc.far {w : World} {sb : Nat} {s : ByteArray} {k : Nat} (h : Sc w sb s k) {a : Addr} (ha : a.block ≠ sb) (v : Value) : Sc (w.setCell a v) sb s k := (Below.heap_setCell _ _ _ _ (fun e => ha e.symm)).trans h
theorem Sc.more {w : World} {sb : Nat} {s : ByteArray} {k : Nat} (h : Sc w sb s k) (o : Obj) : Sc (w.alloc o) sb s k := h.below ((Below.refl _ _).alloc (Nat.le_refl _) o)
theorem extract_size (s : ByteArray) (i n : Nat) (h : i + n ≤ s.size) : (s.extract i (i + n)).size = n := by
  rw [ByteArray.size_extract]; omega

set_option maxRecDepth 100000 in
set_option maxHeartbeats 1600000 in
theorem lexName_any (sb : Nat) (s : ByteArray) (hs : s.size ≤ 4000) (i : Nat) (hi : i < s.size) (hl : isLet s[i] = true) (w : World) (h : Sc w sb s i) :
    Calls Tryz.prog 83 #[.pointer (some ⟨sb, 0, none⟩)] w fun e w' => TokQ w sb s i e w' := by
  have hmf : ∀ (fn : Fn) (first cap : Array Value) (w : World), (Instr.makeFunc fn first cap).run Tryz.prog w = .ok (.func fn first cap) w := fun _ _ _ _ => rfl
  obtain ⟨N, hN⟩ : ∃ N, 1 + twAt isNam s (i + 1) = N := ⟨_, rfl⟩
  have hN2 : i + twAt isNam s i = i + N := by rw [twAt_more hi (by simp [isNam, hl]), ← hN]; omega
  have hle : i + N ≤ s.size := by rw [← hN2]; exact twAt_le (by omega)
  have HQ : Hid (oneL (s.data.toList.drop i) = if 12 < N then none else some (kindW (s.extract i (i + N)).data.toList, 0, N)) := oneL_name hi hl hN
  have HN2 := Hid.out (p := Hid _) hN2
  obtain ⟨x, hx⟩ : ∃ x : ByteArray, s.extract i (i + N) = x := ⟨_, rfl⟩
  have hxs : x.size = N := by rw [← hx]; exact extract_size s i N hle
  have HX := Hid.out (p := Hid _) hx
  clear hN hN2 hx
  have hA : Below w.heap.size w (w.alloc (.cells #[.int .i64 0, .int .i64 0, .int .i64 0, .string ⟨#[]⟩] 66)) := (Below.refl _ _).alloc (Nat.le_refl _) _
  have hSA := h.below hA
  have hAx : (w.alloc (.cells #[.int .i64 0, .int .i64 0, .int .i64 0, .string ⟨#[]⟩] 66)).heap[w.heap.size]? = some (.cells #[.int .i64 0, .int .i64 0, .int .i64 0, .string ⟨#[]⟩] 66) := heap_alloc_new _ _
  have hAl : w.heap.size < (w.alloc (.cells #[.int .i64 0, .int .i64 0, .int .i64 0, .string ⟨#[]⟩] 66)).heap.size := by simp
  have hne : some w.heap.size ≠ some sb := by have := h.lt; simp; omega
  have HA := Hid.out (p := Hid _) (And.intro hA (And.intro hSA (And.intro hAx (And.intro hAl hne))))
  clear hA hSA hAx hAl hne
  by_cases h12 : 12 < N
  · have h12' : 12 < (x.size : Int) := by omega
    have HQ2 : Hid (∀ e w', w.grownBy w' (some sb) → e = .panicked (badT i) → TokQ w sb s i e w') := fun e w' hg he => by
      unfold TokQ
      rw [HQ.out, if_pos h12]
      exact ⟨hg, he⟩
    go_enter Tryz.func83, Tryz.ntmps83
    go_wp2_with (first | (go_at_call 108; refine (take_nam sb s hs i (by omega) (i + N) HN2 _ HA.out.2.1).mono ?_; rintro e w1 ⟨rfl, h1, hg1⟩; rw [HX.out]; have HG1 := Hid.out (p := Hid _) (And.intro h1 hg1); clear h1 hg1) | (go_at_call 112; refine (pkind_any x _).mono ?_; rintro e w' ⟨rfl, rfl⟩) | (go_at_call 111; refine (taken_any sb s (i + N) (by omega) _ x (by omega) _ HG1.out.1).mono ?_; rintro e w2 ⟨rfl, hb2⟩))
    exact ⟨rfl, HQ2.out _ _ (grown_then (grown_of_below HA.out.1 _) (grown_then HG1.out.2 (grown_of_below (hb2.alloc hb2.size _) _))) rfl⟩
  · have h12' : ¬ 12 < (x.size : Int) := by omega
    have HQ2 : Hid (∀ e w', w.grownBy w' (some sb) → e = .returned (.agg #[.int .i64 (kindW x.data.toList), .int .i64 0, .int .i64 i, .string x]) → Sc w' sb s (i + N) → TokQ w sb s i e w') := fun e w' hg he hc => by
      unfold TokQ
      rw [HQ.out, if_neg h12]
      refine ⟨hg, ?_, hc⟩
      rw [HX.out]
      exact he
    go_enter Tryz.func83, Tryz.ntmps83
    go_wp2_with (first | (go_at_call 108; refine (take_nam sb s hs i (by omega) (i + N) HN2 _ HA.out.2.1).mono ?_; rintro e w1 ⟨rfl, h1, hg1⟩; rw [HX.out]; have HG1 := Hid.out (p := Hid _) (And.intro h1 hg1); clear h1 hg1) | (go_at_call 112; refine (pkind_any x _).mono ?_; rintro e w' ⟨rfl, rfl⟩) | (go_at_call 111; refine (taken_any sb s (i + N) (by omega) _ x (by omega) _ HG1.out.1).mono ?_; rintro e w2 ⟨rfl, hb2⟩; have hx2 := (hb2.block _ (Nat.lt_of_lt_of_le HA.out.2.2.2.1 HG1.out.2.size)).trans ((HG1.out.2.block _ HA.out.2.2.2.1 HA.out.2.2.2.2).trans HA.out.2.2.1); have p0 := box_cell (i := 0) hx2 rfl; have p1 := box_cell (i := 1) hx2 rfl; have p2 := box_cell (i := 2) hx2 rfl; have p3 := box_cell (i := 3) hx2 rfl; have pf := fun j => box_free (i := j) hx2; have hl2 : w.heap.size < w2.heap.size := Nat.lt_of_lt_of_le (Nat.lt_of_lt_of_le HA.out.2.2.2.1 HG1.out.2.size) hb2.size; clear hx2))
    have hg2 : w.grownBy w2 (some sb) := grown_then (grown_of_below HA.out.1 _) (grown_then HG1.out.2 (grown_of_below hb2 _))
    have hne : w.heap.size ≠ sb := by have := h.lt; omega
    refine bodyPost_ret (v := .agg #[.int .i64 (kindW x.data.toList), .int .i64 0, .int .i64 i, .string x]) (by simp [results, Tryz.results83, go_sem, p0, p1, p2, p3, hl2]) rfl (HQ2.out _ _ ?_ rfl ?_)
    · exact grown_alloc (grown_high (grown_high (grown_high (grown_high hg2 (Nat.le_refl _) _) (Nat.le_refl _) _) (Nat.le_refl _) _) (Nat.le_refl _) _) _
    · exact (((((HG1.out.1.below hb2).far hne _).far hne _).far hne _).far hne _).more _
end

end Go.Proofs.YtclnjhffcfkihaeGreatDoor
