/-
  What the document's reader of a line does.
-/
import Derived.Test.YthbebnegmenejaaDoorLine
namespace Go.Proofs.YthbebnegmenejaaDoor
open Go.RowKit

theorem number_some (s : ByteArray) (x : Int) (hx : numB s.data.toList = some x) (w : World) :
    Calls Tryd.prog 42 #[.string s] w fun e w' => e = .returned (.tuple #[.int .i64 x, .bool true]) ∧ w = w' := by
  have := number_any s w
  rw [(some_of hx).1, (some_of hx).2] at this
  exact this.mono fun e w' h => ⟨h.1, h.2.symm⟩
theorem number_none (s : ByteArray) (hx : numB s.data.toList = none) (w : World) :
    Calls Tryd.prog 42 #[.string s] w fun e w' => e = .returned (.tuple #[.int .i64 0, .bool false]) ∧ w = w' := by
  have := number_any s w
  rw [(none_of hx).1, (none_of hx).2] at this
  exact this.mono fun e w' h => ⟨h.1, h.2.symm⟩

set_option maxRecDepth 100000 in
set_option maxHeartbeats 800000 in
theorem read_any (s : ByteArray) (hs : s.size ≤ 4000) (w : World) :
    Calls Tryd.prog 29 #[.string s] w fun e w' => LineP w.heap.size s.data.toList (.bool false) (.bool true) e w' ∧ Below w.heap.size w w' := by
  obtain ⟨i0, hi, hz0, hz1, hz2⟩ := info_parts infoInt
  go_enter Tryd.func29, Tryd.ntmps29
  go_wp2_with (first | (go_at_call 12; refine (cut_any s hs 32 32 rfl _).mono ?_; rintro e w1 ⟨v, ps, rfl, hps, ⟨b, cap, rfl, hcap, hcell⟩, hb1⟩; have HPS := Hid.out (p := Hid _) hps; have HCELL := Hid.out (p := Hid _) hcell; have hp0 := (line_parts hps).1; have hpb : ps.length ≤ 4001 := (pieces hps hs).1; clear hps hcell))
  have HB1 := hb1
  clear hb1
  go_loopw [6, 7] (fun v i wr => ∃ (k : Nat) (vs : List Int), k + 1 ≤ ps.length ∧ i = .int .i64 (k + 1 : Nat) ∧ Below w1.heap.size w1 wr ∧ wr.ownsRow w1.heap.size 3 1 v vs.length (vs.map (Value.int .i64)) ∧ vs.length = k ∧ numsL ((ps.tail.map (·.data.toList)).take k) = some vs) (fun _ i _ => ps.length - (intOf i).toNat)
  case atStart => exact ⟨0, [], by omega, rfl, Below.refl _ _, World.ownsRow_nil _ _ _ _, rfl, rfl⟩
  case round =>
    obtain ⟨k, vs, hk, rfl, hbr, hown, hvl, hnum⟩ := hrel
    have HNUM := Hid.out (p := Hid _) hnum
    have HVL := Hid.out (p := Hid _) hvl
    clear hnum hvl
    have hbs := hbr.size
    by_cases hk1 : k + 1 < ps.length
    · have h0 : wr.cell? ⟨b, k + 1, none⟩ = some (.string (ps[k + 1]'hk1)) := by
        have h1 := HCELL.out (k + 1) hk1
        exact (hbr.cell (lt_of_cell h1)).trans h1
      obtain ⟨pc, hpc⟩ : ∃ pc, ps[k + 1]'hk1 = pc := ⟨_, rfl⟩
      rw [hpc] at h0
      have HPC : Hid (ps[k + 1]'hk1 = pc) := hpc
      clear hpc
      cases hx : numB pc.data.toList with
      | none =>
        have HX : Hid (numB pc.data.toList = none) := hx
        clear hx
        have HND : Hid (numsOf s.data.toList = none) := by
          show numsL _ = _
          rw [((line_parts HPS.out).2 hp0).2]
          exact numsL_bad _ k (by simp; omega) (by simp only [List.getElem_map, List.getElem_tail]; rw [HPC.out]; exact HX.out)
        go_wp2_with (first | (go_at_call 42; refine (number_none pc HX.out _).mono ?_; rintro e w2 ⟨rfl, rfl⟩))
        go_ret3
        refine ⟨?_, HB1.trans (hbr.mono HB1.size)⟩
        unfold LineP
        rw [HND.out]
        exact rfl
      | some x =>
        have HX : Hid (numB pc.data.toList = some x) := hx
        clear hx
        go_wp2_with (first | (go_at_call 42; refine (number_some pc x HX.out _).mono ?_; rintro e w2 ⟨rfl, rfl⟩) | (at_builtin; refine wpList_append_own _ rfl _ _ 23 rfl w1.heap.size 3 i0 (.int .i64 0) 1 8 Tryd.underlying23 hi hz0 hz1 hz2 rfl (by decide) _ _ _ rfl (hown.alloc _) ⟨wr.heap.size, 0, none⟩ 1 1 [.int .i64 x] rfl rfl (cell_one_new _ _ _) (fun x hx => by simp at hx; subst hx; rfl) (by have := HVL.out; unfold maxLen; omega) (by have := HVL.out; omega) (by simp; omega) ?_; intro v' w3 hown' hgrow3 hnil3))
        go_roundw
        case rel =>
          refine ⟨k + 1, vs ++ [x], by omega, by go_num, ?_, by simpa using hown', by simp [HVL.out], ?_⟩
          · exact (hbr.alloc (by omega) _).grown hgrow3 (by simp; omega) (fun q hq => (hown.lt q hq).1)
          · rw [tail_take hk1, numsL_snoc, HNUM.out, HPC.out, HX.out]
        case measure => simp [intOf]; omega
    · have hend : (ps.tail.map (·.data.toList)).take k = ps.tail.map (·.data.toList) := List.take_of_length_le (by simp; omega)
      have HND : Hid (numsOf s.data.toList = some vs) := by show numsL _ = _; rw [((line_parts HPS.out).2 hp0).2, ← hend]; exact HNUM.out
      have h0 : wr.cell? ⟨b, 0, none⟩ = some (.string (ps[0]'hp0)) := ((hbr.cell (lt_of_cell (HCELL.out 0 hp0))).trans (HCELL.out 0 hp0))
      obtain ⟨nm, hnm⟩ : ∃ nm, ps[0]'hp0 = nm := ⟨_, rfl⟩
      rw [hnm] at h0
      have HNM : Hid (ps[0]'hp0 = nm) := hnm
      clear hend hnm
      have hp1 : (0 : Int) < (ps.length : Int) := by omega
      go_wp2
      go_ret3
      refine ⟨?_, HB1.trans (hbr.mono HB1.size)⟩
      unfold LineP
      rw [HND.out]
      exact ⟨nm, _, by rw [← HNM.out]; exact ((line_parts HPS.out).2 hp0).1, rfl, Go.Joins.ownsRow_le hown HB1.size⟩

end Go.Proofs.YthbebnegmenejaaDoor
