/-
  The program's printer: texts that are put, tabs.
  The program's printer: the text that was written.
-/
import Derived.Test.YtclnjhffcfkihaeGreatDoorSynJ0
import Derived.Test.YtclnjhffcfkihaeGreatDoorSynK3
namespace Go.Proofs.YtclnjhffcfkihaeGreatDoor
section
open Go.RowKit

/-- Texts one behind the other. -/
def catZ (zs : List ByteArray) : List UInt8 := (zs.map fun z => z.data.toList).flatten
theorem catZ_take {zs : List ByteArray} {j : Nat} {z : ByteArray} (h : zs[j]? = some z) : catZ (zs.take (j + 1)) = catZ (zs.take j) ++ z.data.toList := by
  unfold catZ
  rw [List.take_add_one, h]
  simp
theorem catZ_len (zs : List ByteArray) (j : Nat) : (catZ (zs.take j)).length ≤ (catZ zs).length := by
  have h : catZ zs = catZ (zs.take j) ++ catZ (zs.drop j) := by
    unfold catZ
    rw [← List.flatten_append, ← List.map_append, List.take_append_drop]
  rw [h, List.length_append]
  omega
set_option maxRecDepth 100000 in
set_option maxHeartbeats 1600000 in
theorem put_any9 {w : World} {B P : Nat} {l : List UInt8} {nv : Value} {d : Int} (g n : Nat) (zs : List ByteArray) (hn : n = zs.length) (hn2 : n ≤ 100) (hz : w.heap[g]? = some (.cells (zs.map Value.string).toArray 9)) (h : PrI w B P l nv d) (hlen : l.length + (catZ zs).length ≤ 10000000) :
    Calls Tryz.prog 41 #[.pointer (some ⟨P, 0, none⟩), .slice (some ⟨g, 0, none⟩) n n] w fun e w' => e = .returned (.tuple #[]) ∧ PuQ w B P (l ++ catZ zs) nv d w' := by
  have hoth : OthP (.cells (zs.map Value.string).toArray 9) := fun c f => ⟨by simp, by simp⟩
  have HO := Hid.out (p := Hid _) hoth
  have HZ := Hid.out (p := Hid _) hz
  have HI : Hid (PuQ w B P l nv d w) := ⟨h, Below.refl _ _, TypP.refl _⟩
  have HN := Hid.out (p := Hid _) hn
  clear hoth hz h hn
  go_enter Tryz.func41, Tryz.ntmps41
  go_wp2_with fail
  go_loopw [8] (fun i wr => ∃ j : Nat, j ≤ n ∧ i = .int .i64 j ∧ Hid (PuQ w B P (l ++ catZ (zs.take j)) nv d wr)) (fun i _ => n - (intOf i).toNat)
  case atStart => exact ⟨0, Nat.zero_le _, rfl, (by simpa [catZ] using HI.out : PuQ w B P (l ++ catZ (zs.take 0)) nv d w)⟩
  case round =>
    obtain ⟨j, hj, rfl, HJ⟩ := hrel
    clear HI
    by_cases hlt : j < n
    · obtain ⟨z, hzj⟩ : ∃ z, zs[j]? = some z := ⟨_, List.getElem?_eq_getElem (by have := HN.out; omega)⟩
      have hb := (HJ.out.typ g _ HZ.out HO.out).trans HZ.out
      have c0 : wr.cell? ⟨g, j, none⟩ = some (.string z) := box_cell hb (by simp [hzj])
      have hnx := catZ_take hzj
      have hl2 := catZ_len zs (j + 1)
      have hlt' : (j : Int) < (n : Int) := by omega
      have HX : Hid (Calls Tryz.prog 70 #[.pointer (some ⟨P, 0, none⟩), .string z] wr fun e w' => e = .returned (.tuple #[.int .i64 z.size, .nilIface]) ∧ PuQ w B P (l ++ catZ (zs.take (j + 1))) nv d w') := by
        refine (writeStringP z HJ.out.is ?_).mono ?_
        · rw [hnx, List.length_append] at hl2
          rw [List.length_append, Lib.size_eq]
          omega
        · rintro e w' ⟨rfl, hq⟩
          refine ⟨rfl, ?_⟩
          rw [hnx, ← List.append_assoc]
          exact HJ.out.trans hq
      clear hb hnx hl2 hzj
      go_wp2_with fail
      refine Calls.mono HX.out ?_
      rintro e w1 ⟨rfl, hq⟩
      have HQ := Hid.out (p := Hid _) hq
      clear hq c0
      go_wp2_with fail
      go_roundw
      case rel => exact ⟨j + 1, by omega, by go_num, HQ⟩
      case measure => simp [intOf]; omega
    · obtain rfl : j = n := by omega
      go_wp2_with fail
      go_end0
      refine ⟨rfl, ?_⟩
      have := HJ.out
      rw [HN.out, List.take_length] at this
      exact this
section
variable {w : World} {B P : Nat} {l : List UInt8} {nv : Value} {d : Int}
theorem put1 (h : PrI w B P l nv d) (g : Nat) (hg : g = w.heap.size) (z : ByteArray) (hlen : l.length + z.size ≤ 10000000) :
    Calls Tryz.prog 41 #[.pointer (some ⟨P, 0, none⟩), .slice (some ⟨g, 0, none⟩) 1 1] (w.alloc (.cells #[.string z] 9)) fun e w' => e = .returned (.tuple #[]) ∧ PuQ w B P (l ++ z.data.toList) nv d w' := by
  subst hg
  have hA := (Below.refl w.heap.size w).alloc (Nat.le_refl _) (.cells #[.string z] 9)
  refine (put_any9 w.heap.size 1 [z] rfl (by decide) (heap_alloc_new _ _) (h.below hA) (by simpa [catZ, ← Lib.size_eq] using hlen)).mono ?_
  rintro e w' ⟨rfl, hq⟩
  refine ⟨rfl, PuQ.after hA h.size.1 ?_⟩
  simpa [catZ] using hq
theorem put2 (h : PrI w B P l nv d) (g : Nat) (hg : g = w.heap.size) (y z : ByteArray) (hlen : l.length + y.size + z.size ≤ 10000000) :
    Calls Tryz.prog 41 #[.pointer (some ⟨P, 0, none⟩), .slice (some ⟨g, 0, none⟩) 2 2] (w.alloc (.cells #[.string y, .string z] 9)) fun e w' => e = .returned (.tuple #[]) ∧ PuQ w B P (l ++ (y.data.toList ++ z.data.toList)) nv d w' := by
  subst hg
  have hA := (Below.refl w.heap.size w).alloc (Nat.le_refl _) (.cells #[.string y, .string z] 9)
  refine (put_any9 w.heap.size 2 [y, z] rfl (by decide) (heap_alloc_new _ _) (h.below hA) (by simp [catZ]; rw [Lib.size_eq y, Lib.size_eq z] at hlen; simp at hlen; omega)).mono ?_
  rintro e w' ⟨rfl, hq⟩
  refine ⟨rfl, PuQ.after hA h.size.1 ?_⟩
  simpa [catZ] using hq
theorem put3 (h : PrI w B P l nv d) (g : Nat) (hg : g = w.heap.size) (x y z : ByteArray) (hlen : l.length + x.size + y.size + z.size ≤ 10000000) :
    Calls Tryz.prog 41 #[.pointer (some ⟨P, 0, none⟩), .slice (some ⟨g, 0, none⟩) 3 3] (w.alloc (.cells #[.string x, .string y, .string z] 9)) fun e w' => e = .returned (.tuple #[]) ∧ PuQ w B P (l ++ (x.data.toList ++ y.data.toList ++ z.data.toList)) nv d w' := by
  subst hg
  have hA := (Below.refl w.heap.size w).alloc (Nat.le_refl _) (.cells #[.string x, .string y, .string z] 9)
  refine (put_any9 w.heap.size 3 [x, y, z] rfl (by decide) (heap_alloc_new _ _) (h.below hA) (by simp [catZ]; rw [Lib.size_eq x, Lib.size_eq y, Lib.size_eq z] at hlen; simp at hlen; omega)).mono ?_
  rintro e w' ⟨rfl, hq⟩
  refine ⟨rfl, PuQ.after hA h.size.1 ?_⟩
  simpa [catZ] using hq
set_option maxRecDepth 100000 in
set_option maxHeartbeats 1600000 in
theorem indent_any9 {m : Nat} (h : PrI w B P l nv (m : Int)) (hm : m ≤ 10000) (hlen : l.length + m ≤ 10000000) :
    Calls Tryz.prog 71 #[.pointer (some ⟨P, 0, none⟩)] w fun e w' => e = .returned (.tuple #[]) ∧ PuQ w B P (l ++ tabB m) nv (m : Int) w' := by
  have HI : Hid (PuQ w B P l nv (m : Int) w) := ⟨h, Below.refl _ _, TypP.refl _⟩
  obtain ⟨p, v, -, hU⟩ := h
  have c3 := box_cell (i := 3) hU.box rfl
  clear hU
  go_enter Tryz.func71, Tryz.ntmps71
  go_wp2_with fail
  clear c3
  go_loopw [6] (fun i wr => ∃ j : Nat, j ≤ m ∧ i = .int .i64 j ∧ Hid (PuQ w B P (l ++ tabB j) nv (m : Int) wr)) (fun i _ => m - (intOf i).toNat)
  case atStart => exact ⟨0, Nat.zero_le _, rfl, (by simpa [tabB] using HI.out : PuQ w B P (l ++ tabB 0) nv (m : Int) w)⟩
  case round =>
    obtain ⟨j, hj, rfl, HJ⟩ := hrel
    clear HI
    by_cases hlt : j < m
    · have HX : Hid (Calls Tryz.prog 97 #[.pointer (some ⟨P, 0, none⟩), .int .u8 9] wr fun e w' => e = .returned .nilIface ∧ PuQ w B P (l ++ tabB (j + 1)) nv (m : Int) w') := by
        refine (writeByteP 9 9 (rfl : ((9 : UInt8).toNat : Int) = 9) HJ.out.is ?_).mono ?_
        · rw [List.length_append, tab_len]; omega
        · rintro e w' ⟨rfl, hq⟩
          refine ⟨rfl, ?_⟩
          rw [tab_next, ← List.append_assoc]
          exact HJ.out.trans hq
      go_wp2_with fail
      refine Calls.mono HX.out ?_
      rintro e w1 ⟨rfl, hq⟩
      have HQ := Hid.out (p := Hid _) hq
      clear hq
      go_wp2_with fail
      go_roundw
      case rel => exact ⟨j + 1, by omega, by go_num, HQ⟩
      case measure => simp [intOf]; omega
    · obtain rfl : j = m := by omega
      go_wp2_with fail
      go_end0
      exact ⟨rfl, HJ.out⟩
end
end

section
open Go.RowKit

theorem cellsByte9 : Tryz.prog.cellsOf 5 = 1 := by kernel_rfl
section
variable {w : World} {B P : Nat} {p nv : Value} {d : Int}
set_option maxRecDepth 100000 in
set_option maxHeartbeats 1600000 in
theorem stringP_some {v : Value} {l : List UInt8} (h : PrU w B P p v l nv d) (h0 : l ≠ []) :
    Calls Tryz.prog 25 #[.pointer (some ⟨P, 0, none⟩)] w fun e w' => e = .returned (.string ⟨⟨l⟩⟩) ∧ Below B w w' := by
  obtain ⟨hB, hbk, hown, hne⟩ := h
  have hl0 : l.length ≠ 0 := by simpa using h0
  obtain ⟨g, cap, cur, rfl, hbg, hg, hnc, hcm, hcs, htake⟩ : ∃ g cap cur, v = .slice (some ⟨g, 0, none⟩) l.length cap ∧ B ≤ g ∧ w.heap[g]? = some (.cells cur 5 (0, 0)) ∧ l.length ≤ cap ∧ cap ≤ maxLen ∧ cur.size = cap * 1 ∧ cur.toList.take (l.length * 1) = Lib.byteCells l := by
    rcases hown.2 with ⟨_, hz⟩ | ⟨g, cap, cur, hv, r⟩
    · exact absurd hz hl0
    · exact ⟨g, cap, cur, hv, r⟩
  have c0 : w.cell? ⟨P, 1, none⟩ = some (.slice (some ⟨g, 0, none⟩) l.length cap) := box_cell hbk rfl
  have hSD : (Builtin.unsafeSliceData_ #[55] 77 #[.slice (some ⟨g, 0, none⟩) l.length cap]).run Tryz.prog w.drew = .ok (.pointer (some ⟨g, 0, none⟩)) w.drew :=
    Lib.run_unsafeSliceData_row _ _ _ _ _ _ (by omega)
  have hUS : (Builtin.unsafeString_ #[77, 3] 9 #[.pointer (some ⟨g, 0, none⟩), .int .i64 l.length]).run Tryz.prog w.drew = .ok (.string ⟨l.toArray⟩) (w.drew.freeze ⟨g, 0, none⟩ l.length) := by
    refine Lib.run_unsafeString_row w.drew 77 3 9 5 Tryz.underlying77 cellsByte9 g cur.size (by have hg' : w.drew.heap[g]? = some (.cells cur 5 (0, 0)) := hg; simp [World.shape?, hg']) l h0 (by omega) (by unfold maxLen at hcm; omega) ?_
    intro j x hx
    exact hown.cells (g := g) rfl j (.int .u8 x.toNat) (by simp [Lib.byteCells, hx])
  have HB : Hid (Below B w (w.drew.freeze ⟨g, 0, none⟩ l.length)) := Lib.below_freeze (Below.drew (Below.refl B w)) (p := ⟨g, 0, none⟩) hbg _
  clear hown hbk hg hnc hcm hcs htake hne
  go_enter Tryz.func25, Tryz.ntmps25
  go_wp2_with fail
  go_region
  all_goals go_wp2_with fail
  all_goals go_ret
  all_goals exact ⟨rfl, HB.out⟩
theorem unsafeNone9 (W : World) (q : Option Addr) : (Builtin.unsafeString_ #[77, 3] 9 #[.pointer q, .int .i64 0]).run Tryz.prog W = .ok (.string .empty) W := Lib.run_unsafeString_none W _ _ _ q
set_option maxRecDepth 100000 in
set_option maxHeartbeats 1600000 in
theorem stringP_nil (hbk : w.heap[P]? = some (.cells #[p, .slice none 0 0, nv, .int .i64 d] 59)) :
    Calls Tryz.prog 25 #[.pointer (some ⟨P, 0, none⟩)] w fun e w' => e = .returned (.string ⟨#[]⟩) ∧ Below B w w' := by
  have hUS := unsafeNone9
  have c0 : w.cell? ⟨P, 1, none⟩ = some (.slice none 0 0) := box_cell hbk rfl
  have hSD : (Builtin.unsafeSliceData_ #[55] 77 #[.slice none 0 0]).run Tryz.prog w.drew = .ok (.pointer none) w.drew := rfl
  clear hbk
  go_enter Tryz.func25, Tryz.ntmps25
  go_wp2_with fail
  go_region
  all_goals go_wp2_with fail
  all_goals go_ret
  all_goals exact ⟨rfl, Below.drew (Below.refl B w)⟩
set_option maxRecDepth 100000 in
set_option maxHeartbeats 1600000 in
theorem stringP_room {g cap : Nat} (hc0 : cap ≠ 0) (hbk : w.heap[P]? = some (.cells #[p, .slice (some ⟨g, 0, none⟩) 0 cap, nv, .int .i64 d] 59)) :
    Calls Tryz.prog 25 #[.pointer (some ⟨P, 0, none⟩)] w fun e w' => e = .returned (.string ⟨#[]⟩) ∧ Below B w w' := by
  have hUS := unsafeNone9
  have c0 : w.cell? ⟨P, 1, none⟩ = some (.slice (some ⟨g, 0, none⟩) 0 cap) := box_cell hbk rfl
  have hSD : (Builtin.unsafeSliceData_ #[55] 77 #[.slice (some ⟨g, 0, none⟩) 0 cap]).run Tryz.prog w.drew = .ok (.pointer (some ⟨g, 0, none⟩)) w.drew :=
    Lib.run_unsafeSliceData_row _ _ _ _ _ _ hc0
  clear hc0 hbk
  go_enter Tryz.func25, Tryz.ntmps25
  go_wp2_with fail
  go_region
  all_goals go_wp2_with fail
  all_goals go_ret
  all_goals exact ⟨rfl, Below.drew (Below.refl B w)⟩
set_option maxRecDepth 100000 in
set_option maxHeartbeats 1600000 in
theorem stringP_noroom {g : Nat} {cur : Array Value} (hBw : B ≤ w.heap.size) (hbk : w.heap[P]? = some (.cells #[p, .slice (some ⟨g, 0, none⟩) 0 0, nv, .int .i64 d] 59)) (hg : w.heap[g]? = some (.cells cur 5 (0, 0))) :
    Calls Tryz.prog 25 #[.pointer (some ⟨P, 0, none⟩)] w fun e w' => e = .returned (.string ⟨#[]⟩) ∧ Below B w w' := by
  have hUS := unsafeNone9
  have hlt := heap_lt9 hbk
  have c0 : w.cell? ⟨P, 1, none⟩ = some (.slice (some ⟨g, 0, none⟩) 0 0) := box_cell hbk rfl
  have hSD : (Builtin.unsafeSliceData_ #[55] 77 #[.slice (some ⟨g, 0, none⟩) 0 0]).run Tryz.prog w.drew = .ok (.pointer (some ⟨w.drew.heap.size, 0, none⟩)) (w.drew.alloc (.view ⟨g, 0, none⟩ 5)) :=
    Lib.run_unsafeSliceData_zero w.drew _ _ 5 Tryz.underlying77 ⟨g, 0, none⟩ 0 (5, cur.size) (by have hg' : w.drew.heap[g]? = some (.cells cur 5 (0, 0)) := hg; simp [World.shape?, hg'])
  have c2 : (w.drew.alloc (.view ⟨g, 0, none⟩ 5)).cell? ⟨P, 1, none⟩ = some (.slice (some ⟨g, 0, none⟩) 0 0) := by
    have : (w.drew.alloc (.view ⟨g, 0, none⟩ 5)).heap[P]? = _ := (Lib.alloc_old w.drew _ P hlt).trans hbk
    rw [Lib.cell_of_heap this]; rfl
  have c3 : (w.alloc (.view ⟨g, 0, none⟩ 5)).drew.cell? ⟨P, 1, none⟩ = some (.slice (some ⟨g, 0, none⟩) 0 0) := c2
  clear hbk hg
  go_enter Tryz.func25, Tryz.ntmps25
  go_wp2_with fail
  go_region
  all_goals go_wp2_with fail
  all_goals go_ret
  all_goals exact ⟨rfl, (Below.drew (Below.refl B w)).alloc hBw _⟩
/-- The text that was written. -/
theorem stringP {l : List UInt8} (h : PrI w B P l nv d) :
    Calls Tryz.prog 25 #[.pointer (some ⟨P, 0, none⟩)] w fun e w' => e = .returned (.string ⟨⟨l⟩⟩) ∧ Below B w w' := by
  have hs := h.size.1
  obtain ⟨p, v, -, hU⟩ := h
  cases l with
  | nil =>
    obtain ⟨hB, hbk, hown, hne⟩ := hU
    rcases hown.2 with ⟨rfl, _⟩ | ⟨g, cap, cur, rfl, hbg, hg, _, _, _, _⟩
    · exact stringP_nil hbk
    · by_cases hc0 : cap = 0
      · subst hc0
        exact stringP_noroom hs hbk hg
      · exact stringP_room hc0 hbk
  | cons x r => exact stringP_some hU (by simp)
end
end

end Go.Proofs.YtclnjhffcfkihaeGreatDoor
