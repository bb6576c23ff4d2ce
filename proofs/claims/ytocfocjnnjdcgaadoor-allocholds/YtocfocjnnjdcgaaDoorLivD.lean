/-
  What is live behind an order, and ahead of it, by the program.
  The library's iterator that goes through a thread's orders from behind; sets in one row.
-/
import Derived.Test.YtocfocjnnjdcgaaDoorLivA
import Derived.Test.YtocfocjnnjdcgaaDoorLivC
import Derived.Test.YtocfocjnnjdcgaaDoorBase
import Derived.RangeFuncFrom
import Derived.RangeFuncNested
import Derived.RangeFuncBound
import Derived.RangeFuncCalls
import Derived.RangeFuncLeaves
import Derived.RangeFuncBox
import Derived.Shelf.Abstract
import Derived.Shelf.RegionOpen
import Derived.TacticsInMore
import Derived.LoopNIn
import Derived.LoopIn
namespace Go.Proofs.YtocfocjnnjdcgaaDoor
section
open Go.RowKit

/-- Sets in memory, one behind the other. -/
def SetsAt (w : World) (ab n : Nat) (S : Nat → Nat → Nat) : Prop := ∀ j, j < n → w.cell? ⟨ab, j * 4, none⟩ = some (.int .u64 (S j 0)) ∧ w.cell? ⟨ab, j * 4 + 1, none⟩ = some (.int .u64 (S j 1)) ∧ w.cell? ⟨ab, j * 4 + 2, none⟩ = some (.int .u64 (S j 2)) ∧ w.cell? ⟨ab, j * 4 + 3, none⟩ = some (.int .u64 (S j 3))
theorem SetsAt.below {w w' : World} {ab n : Nat} {S : Nat → Nat → Nat} (h : SetsAt w ab n S) (hb : Below w.heap.size w w') : SetsAt w' ab n S := fun j hj => by
  obtain ⟨c0, c1, c2, c3⟩ := h j hj
  exact ⟨(hb.cell (lt_of_cell c0)).trans c0, (hb.cell (lt_of_cell c1)).trans c1, (hb.cell (lt_of_cell c2)).trans c2, (hb.cell (lt_of_cell c3)).trans c3⟩

set_option maxRecDepth 100000 in
set_option maxHeartbeats 3200000 in
theorem behind_any (w : World) (op a b c : Int) (i ab n nc : Nat) (S : Nat → Nat → Nat) (hS : SetsAt w ab n S) (hw : ∀ j, W64 (S j)) (hnx : ∀ j, j ∈ nxL op a b i → j < n) (hi : i ≤ 1000) (h14 : op = 14 → 0 ≤ a) (h15 : op = 15 → 0 ≤ b) :
    Calls Tryd.prog 51 #[ints4 op a b c, .int .i64 i, .slice (some ⟨ab, 0, none⟩) n nc] w fun e w' => e = .returned (setV (jnS S noS (nxL op a b i))) ∧ Below w.heap.size w w' := by
  have HNX : Hid (∀ V, Calls Tryd.prog 84 #[ints4 op a b c, .int .i64 i] V fun e w' => ∃ ra rc, e = .returned (.slice ra (nxI op a b i).length rc) ∧ SIs w' ra (nxI op a b i) ∧ Below V.heap.size V w') := fun V => next_any op a b c i hi h14 h15 V
  have HS := Hid.out (p := Hid _) hS
  have HW := Hid.out (p := Hid _) hw
  have HIN := Hid.out (p := Hid _) hnx
  have HL : Hid ((nxI op a b i).length = (nxL op a b i).length ∧ (nxL op a b i).length ≤ 2) := ⟨nxI_len op a b i, nxL_len op a b i⟩
  obtain ⟨js, hjs⟩ : ∃ js, nxL op a b i = js := ⟨_, rfl⟩
  obtain ⟨xs, hxs⟩ : ∃ xs, nxI op a b i = xs := ⟨_, rfl⟩
  have HX : Hid (∀ k, k < js.length → ∃ j : Nat, xs.getD k 0 = (j : Int) ∧ j < n ∧ js.take (k + 1) = js.take k ++ [j]) := fun k hk => by
    refine ⟨js[k], ?_, ?_, ?_⟩
    · rw [← hxs]
      unfold nxI
      rw [hjs]
      simp [List.getD, hk]
    · have := HIN.out js[k]
      rw [hjs] at this
      exact this (List.getElem_mem hk)
    · rw [List.take_add_one, List.getElem?_eq_getElem hk]
      rfl
  rw [hxs] at HNX HL
  rw [hjs] at HL ⊢
  clear hS hw hnx h14 h15 hjs hxs HIN
  obtain ⟨m, hm⟩ : ∃ m, xs.length = m := ⟨_, rfl⟩
  have HM : Hid (xs.length = m ∧ js.length = m ∧ m ≤ 2) := ⟨hm, by rw [← hm]; exact HL.out.1.symm, by rw [← hm, HL.out.1]; exact HL.out.2⟩
  have hm2 : m ≤ 2 := HM.out.2.2
  rw [hm] at HNX
  clear hm HL
  go_enter Tryd.func51, Tryd.ntmps51
  go_wp2_with fail
  refine Calls.mono (HNX.out _) ?_
  rintro e w2 ⟨ra, rc, rfl, hs2, hb2⟩
  have H2 : Hid (SIs w2 ra xs) := hs2
  have hbW : Below w.heap.size w w2 := (((Below.refl w.heap.size w).alloc (Nat.le_refl _) (.cells #[.int .i64 op, .int .i64 a, .int .i64 b, .int .i64 c] 55)).alloc (by simp) (setO noS)).alloc (by simp; omega) (setO noS) |>.trans (hb2.mono (by simp; omega))
  have hbx : w2.heap[w.heap.size + 1]? = some (setO noS) ∧ w2.heap[w.heap.size + 1 + 1]? = some (setO noS) := by
    constructor
    · refine (hb2.block _ (by simp)).trans ?_
      have := heap_alloc_new (w.alloc (.cells #[.int .i64 op, .int .i64 a, .int .i64 b, .int .i64 c] 55)) (setO noS)
      rw [World.size_alloc] at this
      exact box_later this _
    · refine (hb2.block _ (by simp)).trans ?_
      have := heap_alloc_new ((w.alloc (.cells #[.int .i64 op, .int .i64 a, .int .i64 b, .int .i64 c] 55)).alloc (setO noS)) (setO noS)
      rw [World.size_alloc, World.size_alloc] at this
      exact this
  have H0 : Hid (w2.heap[w.heap.size + 1 + 1]? = some (setO (jnS S noS (js.take 0))) ∧ w2.heap[w.heap.size + 1]? = some (setO noS) ∧ Below w.heap.size w w2 ∧ SIs w2 ra xs) := ⟨hbx.2, hbx.1, hbW, hs2⟩
  clear hs2 hb2 hbW hbx H2 HNX
  go_wp2_with fail
  go_loopw [14] (fun x wr => ∃ k : Nat, k ≤ m ∧ x = .int .i64 k ∧ Hid (wr.heap[w.heap.size + 1 + 1]? = some (setO (jnS S noS (js.take k))) ∧ wr.heap[w.heap.size + 1]? = some (setO noS) ∧ Below w.heap.size w wr ∧ SIs wr ra xs)) (fun x _ => m - (intOf x).toNat)
  case atStart => exact ⟨0, Nat.zero_le _, rfl, H0⟩
  case round =>
    obtain ⟨k, hk, rfl, HI⟩ := hrel
    clear H0
    by_cases hlt : k < m
    · obtain ⟨gb, go, rfl, hc⟩ := HI.out.2.2.2 k (by rw [HM.out.1]; exact hlt)
      obtain ⟨j, hj1, hj2, hj3⟩ := HX.out k (by rw [HM.out.2.1]; exact hlt)
      rw [hj1] at hc
      obtain ⟨g, hg⟩ : ∃ g, jnS S noS (js.take k) = g := ⟨_, rfl⟩
      have hbx := HI.out.1
      rw [hg] at hbx
      have HJ : Hid (∀ V, Calls Tryd.prog 54 #[setV g, setV (S j)] V fun e w' => e = .returned (setV (jnd g (S j))) ∧ Below V.heap.size V w') := fun V => setJoined_any g (S j) (by rw [← hg]; exact W64.jnS HW.out W64.noS) (HW.out j) V
      obtain ⟨c0, c1, c2, c3⟩ := set_lay hbx
      obtain ⟨s0, s1, s2, s3⟩ := SetsAt.below HS.out HI.out.2.2.1 j hj2
      have HG : Hid (jnS S noS (js.take (k + 1)) = jnd g (S j)) := by
        show _ = _
        rw [hj3, jnS_snoc, hg]
      clear hj3 hg hj1 hbx
      go_wp2_with fail
      refine region_tail 5 (by kernel_rfl) (by kernel_rfl) ?_
      simp only [List.take_succ_cons, List.take_zero, List.drop_succ_cons, List.drop_zero]
      repeat still_step
      refine wpStill_nil ?_
      go_wp2_with fail
      refine Calls.mono (HJ.out _) ?_
      rintro e w3 ⟨rfl, hb3⟩
      have HB3 : Hid (Below wr.heap.size wr w3) := ((Below.refl wr.heap.size wr).drew).trans hb3
      have hbx3 : w3.heap[w.heap.size + 1 + 1]? = some (setO (jnS S noS (js.take k))) := (hb3.block _ (lt_of_cell c0)).trans HI.out.1
      obtain ⟨t0, t1, t2, t3⟩ := set_lay hbx3
      have f0 := box_free (i := 0) hbx3
      have f1 := box_free (i := 1) hbx3
      have f2 := box_free (i := 2) hbx3
      have f3 := box_free (i := 3) hbx3
      have HX3 := Hid.out (p := Hid _) hbx3
      clear c0 c1 c2 c3 hb3 hbx3
      go_wp2_with fail
      go_roundw
      case rel => 
        refine ⟨k + 1, by omega, by go_num, ?_⟩
        have hw3 : w3.heap[w.heap.size + 1]? = some (setO noS) := (HB3.out.block _ (lt_of_cell (set_lay HI.out.2.1).1)).trans HI.out.2.1
        refine (⟨?_, ?_, ?_, ?_⟩ : _ ∧ _ ∧ _ ∧ _)
        · rw [HG.out]
          exact set_store HX3.out _
        · rw [heap_store (by omega)]
          exact hw3
        · exact below_store (HI.out.2.2.1.trans (HB3.out.mono HI.out.2.2.1.size)) (by omega) _ _ _ _
        · exact sis_store (HI.out.2.2.2.below HB3.out) HX3.out _ _ _ _
      case measure => simp [intOf]; omega
    · obtain rfl : k = m := by omega
      have hbx := HI.out.1
      rw [List.take_of_length_le (by rw [HM.out.2.1]; exact Nat.le_refl _)] at hbx
      obtain ⟨c0, c1, c2, c3⟩ := set_lay hbx
      obtain ⟨d0, d1, d2, d3⟩ := set_lay HI.out.2.1
      have f0 := box_free (i := 0) HI.out.2.1
      have f1 := box_free (i := 1) HI.out.2.1
      have f2 := box_free (i := 2) HI.out.2.1
      have f3 := box_free (i := 3) HI.out.2.1
      have hs := set_store HI.out.2.1 (jnS S noS js)
      have hb := below_store HI.out.2.2.1 (show w.heap.size ≤ w.heap.size + 1 by omega) (.int .u64 (jnS S noS js 0)) (.int .u64 (jnS S noS js 1)) (.int .u64 (jnS S noS js 2)) (.int .u64 (jnS S noS js 3))
      have HSB := Hid.out (p := Hid _) (And.intro hs hb)
      clear hs hb hbx
      go_wp2_with fail
      have hsb := HSB.out
      obtain ⟨V, hV⟩ : ∃ V, ((((wr.setCell ⟨w.heap.size + 1, 0, none⟩ (.int .u64 (jnS S noS js 0))).setCell ⟨w.heap.size + 1, 1, none⟩ (.int .u64 (jnS S noS js 1))).setCell ⟨w.heap.size + 1, 2, none⟩ (.int .u64 (jnS S noS js 2))).setCell ⟨w.heap.size + 1, 3, none⟩ (.int .u64 (jnS S noS js 3))) = V := ⟨_, rfl⟩
      rw [hV] at hsb ⊢
      obtain ⟨t0, t1, t2, t3⟩ := set_lay hsb.1
      refine bodyPost_ret (v := setV (jnS S noS js)) ?_ rfl ⟨rfl, hsb.2⟩
      simp [results, Tryd.results51, go_sem, setV, t0, t1, t2, t3]

theorem wr_some {rg m lk sz : Nat} {op a b c : Int} (hok : ordE rg m lk sz op a b c = 0) (h : op = 1 ∨ op = 2 ∨ op = 3 ∨ op = 4 ∨ op = 5 ∨ op = 6 ∨ op = 7 ∨ op = 8 ∨ op = 10 ∨ op = 13) : wrL op a b ≠ -1 := by
  have key : 0 ≤ wrL op a b := by
    rcases h with rfl | rfl | rfl | rfl | rfl | rfl | rfl | rfl | rfl | rfl
    · exact (ok_const hok).1
    · exact (ok_rr (by omega) hok).1.1
    · exact (ok_rrr (by omega) hok).1.1
    · exact (ok_rrr (by omega) hok).1.1
    · exact (ok_rrr (by omega) hok).1.1
    · exact (ok_rrr (by omega) hok).1.1
    · exact (ok_rrr (by omega) hok).1.1
    · exact (ok_load hok).1.1
    · exact (ok_rr (by omega) hok).1.1
    · exact (ok_cas hok).2.1.1
  omega
/-- The three boxes of what is reckoned: an order, a set, the answer. -/
structure NdB (w V : World) (op a b c : Int) (g : Nat → Nat) : Prop where
  ord : V.heap[w.heap.size]? = some (.cells #[.int .i64 op, .int .i64 a, .int .i64 b, .int .i64 c] 55)
  set : V.heap[w.heap.size + 1]? = some (setO g)
  res : V.heap[w.heap.size + 1 + 1]? = some (setO noS)
  low : Below w.heap.size w V
theorem ndB_new (w : World) (op a b c : Int) (f : Nat → Nat) {V : World} (hV : Below (w.heap.size + 3) (((w.alloc (.cells #[.int .i64 op, .int .i64 a, .int .i64 b, .int .i64 c] 55)).alloc (setO f)).alloc (setO noS)) V) : NdB w V op a b c f := by
  refine ⟨?_, ?_, ?_, ?_⟩
  · refine (hV.block _ (by omega)).trans ?_
    exact box_later (box_later (heap_alloc_new w _) _) _
  · refine (hV.block _ (by omega)).trans ?_
    have := heap_alloc_new (w.alloc (.cells #[.int .i64 op, .int .i64 a, .int .i64 b, .int .i64 c] 55)) (setO f)
    rw [World.size_alloc] at this
    exact box_later this _
  · refine (hV.block _ (by omega)).trans ?_
    have := heap_alloc_new ((w.alloc (.cells #[.int .i64 op, .int .i64 a, .int .i64 b, .int .i64 c] 55)).alloc (setO f)) (setO noS)
    rw [World.size_alloc, World.size_alloc] at this
    exact this
  · exact ((((Below.refl _ _).alloc (Nat.le_refl _) _).alloc (by simp) _).alloc (by simp; omega) _).trans (hV.mono (by omega))
section
variable {w V : World} {op a b c : Int} {g : Nat → Nat}
theorem NdB.lt (h : NdB w V op a b c g) : w.heap.size + 1 + 1 < V.heap.size := lt_of_cell (set_lay h.res).1
theorem NdB.below (h : NdB w V op a b c g) {V' : World} (hb : Below V.heap.size V V') : NdB w V' op a b c g := by
  have := h.lt
  exact ⟨(hb.block _ (by omega)).trans h.ord, (hb.block _ (by omega)).trans h.set, (hb.block _ this).trans h.res, h.low.trans (hb.mono h.low.size)⟩
theorem NdB.drew (h : NdB w V op a b c g) : NdB w V.drew op a b c g := h.below ((Below.refl _ _).drew)
theorem NdB.put (h : NdB w V op a b c g) (f : Nat → Nat) : NdB w ((((V.setCell ⟨w.heap.size + 1, 0, none⟩ (.int .u64 (f 0))).setCell ⟨w.heap.size + 1, 1, none⟩ (.int .u64 (f 1))).setCell ⟨w.heap.size + 1, 2, none⟩ (.int .u64 (f 2))).setCell ⟨w.heap.size + 1, 3, none⟩ (.int .u64 (f 3))) op a b c f :=
  ⟨(heap_store (by omega) _ _ _ _).trans h.ord, set_store h.set f, (heap_store (by omega) _ _ _ _).trans h.res, below_store h.low (by omega) _ _ _ _⟩
theorem NdB.cells (h : NdB w V op a b c g) : (V.cell? ⟨w.heap.size, 0, none⟩ = some (.int .i64 op) ∧ V.cell? ⟨w.heap.size, 1, none⟩ = some (.int .i64 a) ∧ V.cell? ⟨w.heap.size, 2, none⟩ = some (.int .i64 b) ∧ V.cell? ⟨w.heap.size, 3, none⟩ = some (.int .i64 c)) ∧
    (V.cell? ⟨w.heap.size + 1, 0, none⟩ = some (.int .u64 (g 0)) ∧ V.cell? ⟨w.heap.size + 1, 1, none⟩ = some (.int .u64 (g 1)) ∧ V.cell? ⟨w.heap.size + 1, 2, none⟩ = some (.int .u64 (g 2)) ∧ V.cell? ⟨w.heap.size + 1, 3, none⟩ = some (.int .u64 (g 3))) ∧
    (V.frozen? ⟨w.heap.size + 1, 0, none⟩ = false ∧ V.frozen? ⟨w.heap.size + 1, 1, none⟩ = false ∧ V.frozen? ⟨w.heap.size + 1, 2, none⟩ = false ∧ V.frozen? ⟨w.heap.size + 1, 3, none⟩ = false) :=
  ⟨⟨box_cell h.ord rfl, box_cell h.ord rfl, box_cell h.ord rfl, box_cell h.ord rfl⟩, set_lay h.set, box_free h.set, box_free h.set, box_free h.set, box_free h.set⟩
theorem NdB.outs (h : NdB w V op a b c g) : (V.cell? ⟨w.heap.size + 1 + 1, 0, none⟩ = some (.int .u64 0) ∧ V.cell? ⟨w.heap.size + 1 + 1, 1, none⟩ = some (.int .u64 0) ∧ V.cell? ⟨w.heap.size + 1 + 1, 2, none⟩ = some (.int .u64 0) ∧ V.cell? ⟨w.heap.size + 1 + 1, 3, none⟩ = some (.int .u64 0)) ∧
    (V.frozen? ⟨w.heap.size + 1 + 1, 0, none⟩ = false ∧ V.frozen? ⟨w.heap.size + 1 + 1, 1, none⟩ = false ∧ V.frozen? ⟨w.heap.size + 1 + 1, 2, none⟩ = false ∧ V.frozen? ⟨w.heap.size + 1 + 1, 3, none⟩ = false) :=
  ⟨set_lay h.res, box_free h.res, box_free h.res, box_free h.res, box_free h.res⟩
end
set_option maxRecDepth 100000 in
set_option maxHeartbeats 6400000 in
theorem needed_any (w : World) (op a b c : Int) (rg m lk l : Nat) (f : Nat → Nat) (hf : W64 f) (hok : ordE rg m lk l op a b c = 0) (hrg : rg ≤ 200) :
    Calls Tryd.prog 50 #[ints4 op a b c, setV f] w fun e w' => e = .returned (setV (addS (if wrL op a b = -1 then f else wout f (wrL op a b).toNat) (rdL op a b c))) ∧ Below w.heap.size w w' := by
  have ho := ok_op hok
  have HW : Hid (∀ V, Calls Tryd.prog 52 #[ints4 op a b c] V fun e w' => ((∃ x, e = .returned (.tuple #[.int .i64 x, .bool true]) ∧ x = wrL op a b ∧ (op = 1 ∨ op = 2 ∨ op = 3 ∨ op = 4 ∨ op = 5 ∨ op = 6 ∨ op = 7 ∨ op = 8 ∨ op = 10 ∨ op = 13)) ∨ (e = .returned (.tuple #[.int .i64 0, .bool false]) ∧ wrL op a b = -1)) ∧ Below V.heap.size V w') := fun V => writes_any op a b c ho V
  have HR : Hid (∀ V, Calls Tryd.prog 61 #[ints4 op a b c] V fun e w' => ∃ ra rc, e = .returned (.slice ra (rdL op a b c).length rc) ∧ SIs w' ra (rdL op a b c) ∧ Below V.heap.size V w') := fun V => reads_any op a b c ho V
  have hrd := ok_rd hok
  have hrl : (rdL op a b c).length ≤ 4 := by
    unfold rdL
    split
    · simp
    · split
      · simp
      · split
        · simp
        · split <;> simp
  obtain ⟨rs, hrs⟩ : ∃ rs, rdL op a b c = rs := ⟨_, rfl⟩
  rw [hrs] at HR hrd hrl ⊢
  have HWT : Hid (∀ g V ra rc, W64 g → SIs V ra rs → Calls Tryd.prog 55 #[setV g, .slice ra rs.length rc] V fun e w' => e = .returned (setV (addS g rs)) ∧ Below V.heap.size V w') := fun g V ra rc hg hs => with_any g hg rs ra rc (fun r hr => by have := hrd r hr; omega) hrl V hs
  have HF := Hid.out (p := Hid _) hf
  have hwr : wrL op a b = -1 ∨ ∃ r : Nat, wrL op a b = (r : Int) ∧ r < 256 := by
    rcases ok_wr hok with h | h
    · exact Or.inl h
    · exact Or.inr ⟨(wrL op a b).toNat, by omega, by omega⟩
  have HWR := Hid.out (p := Hid _) hwr
  have hne : (op = 1 ∨ op = 2 ∨ op = 3 ∨ op = 4 ∨ op = 5 ∨ op = 6 ∨ op = 7 ∨ op = 8 ∨ op = 10 ∨ op = 13) → wrL op a b ≠ -1 := fun h => wr_some hok h
  have HNE := Hid.out (p := Hid _) hne
  obtain ⟨wv, hwv⟩ : ∃ x, wrL op a b = x := ⟨_, rfl⟩
  rw [hwv] at HW HWR HNE ⊢
  obtain ⟨g0, hg0⟩ : ∃ g, (if wv = -1 then f else wout f wv.toNat) = g := ⟨_, rfl⟩
  have HG0 : Hid ((wv = -1 → g0 = f) ∧ ∀ r : Nat, wv = (r : Int) → g0 = wout f r) := by
    refine (⟨fun e => ?_, fun r e => ?_⟩ : _ ∧ _)
    · rw [← hg0, if_pos e]
    · rw [← hg0, if_neg (by omega), e, Int.toNat_natCast]
  rw [hg0]
  clear hrd hrs hf hwr hwv hrl hok hg0 hne
  obtain ⟨ni, hni⟩ : ∃ n, rs.length = n := ⟨_, rfl⟩
  rw [hni] at HR HWT
  clear hni
  go_enter Tryd.func50, Tryd.ntmps50
  go_wp2_with fail
  refine Calls.mono (HW.out _) ?_
  rintro e w2 ⟨h2, hb2⟩
  have HB : Hid (∀ V, Below (w.heap.size + 3) (((w.alloc (.cells #[.int .i64 op, .int .i64 a, .int .i64 b, .int .i64 c] 55)).alloc (setO f)).alloc (setO noS)) V → NdB w V op a b c f) := fun V hV => ndB_new w op a b c f hV
  have h3 := HB.out w2 (hb2.mono (by simp))
  clear HB hb2
  rcases h2 with ⟨x, rfl, hx, hop⟩ | ⟨rfl, hx⟩
  · subst hx
    have hxn : x ≠ -1 := HNE.out hop
    clear hop
    obtain ⟨r, hr, hr2⟩ : ∃ r : Nat, x = (r : Int) ∧ r < 256 := by
      rcases HWR.out with h | h
      · exact absurd h hxn
      · exact h
    subst hr
    have hgf := HG0.out.2 r rfl
    have HGF := Hid.out (p := Hid _) hgf
    have hg : W64 g0 := by rw [hgf]; exact W64.wout HF.out r
    have HG := Hid.out (p := Hid _) hg
    have HWO : Hid (∀ V, Calls Tryd.prog 53 #[setV f, .int .i64 r] V fun e w' => e = .returned (setV (wout f r)) ∧ Below V.heap.size V w') := fun V => without_any f r hr2 V
    rw [← hgf] at HWO
    have HN0 := Hid.out (p := Hid _) h3
    obtain ⟨⟨o0, o1, o2, o3⟩, ⟨c0, c1, c2, c3⟩, -⟩ := h3.cells
    clear h3 hg hgf HG0 HW HWR hxn
    go_wp2_with fail
    refine Calls.mono (HWO.out _) ?_
    rintro e w3 ⟨rfl, hb3⟩
    have HN3 := Hid.out (p := Hid _) (HN0.out.below hb3)
    obtain ⟨⟨p0, p1, p2, p3⟩, ⟨q0, q1, q2, q3⟩, ⟨f0, f1, f2, f3⟩⟩ := HN3.out.cells
    clear hb3 o0 o1 o2 o3 c0 c1 c2 c3
    go_wp2_with fail
    have hN := HN3.out.put g0
    obtain ⟨U, hU⟩ : ∃ U, ((((w3.setCell ⟨w.heap.size + 1, 0, none⟩ (.int .u64 (g0 0))).setCell ⟨w.heap.size + 1, 1, none⟩ (.int .u64 (g0 1))).setCell ⟨w.heap.size + 1, 2, none⟩ (.int .u64 (g0 2))).setCell ⟨w.heap.size + 1, 3, none⟩ (.int .u64 (g0 3))) = U := ⟨_, rfl⟩
    rw [hU] at hN ⊢
    have HN := Hid.out (p := Hid _) hN
    obtain ⟨⟨o0, o1, o2, o3⟩, ⟨c0, c1, c2, c3⟩, -⟩ := hN.drew.cells
    clear hN hU p0 p1 p2 p3 q0 q1 q2 q3 f0 f1 f2 f3
    go_region_with (first | (go_at_call 61; refine Calls.mono (HR.out _) ?_; rintro e w5 ⟨ra, rc, rfl, hs5, hb5⟩; have HN5 := Hid.out (p := Hid _) (HN.out.drew.below hb5); obtain ⟨-, ⟨d0, d1, d2, d3⟩, -⟩ := HN5.out.cells; have HS5 := Hid.out (p := Hid _) hs5; clear hs5 hb5) | (go_at_call 55; refine Calls.mono (HWT.out g0 _ _ _ HG.out HS5.out) ?_; rintro e w6 ⟨rfl, hb6⟩; have HN6 := Hid.out (p := Hid _) (HN5.out.below hb6); obtain ⟨⟨x0, x1, x2, x3⟩, ⟨z0, z1, z2, z3⟩⟩ := HN6.out.outs; clear hb6))
    all_goals go_wp2
    all_goals
      have hs := set_store HN6.out.res (addS g0 rs)
      have hb := below_store HN6.out.low (show w.heap.size ≤ w.heap.size + 1 + 1 by omega) (.int .u64 (addS g0 rs 0)) (.int .u64 (addS g0 rs 1)) (.int .u64 (addS g0 rs 2)) (.int .u64 (addS g0 rs 3))
      obtain ⟨V, hV⟩ : ∃ V, ((((w6.setCell ⟨w.heap.size + 1 + 1, 0, none⟩ (.int .u64 (addS g0 rs 0))).setCell ⟨w.heap.size + 1 + 1, 1, none⟩ (.int .u64 (addS g0 rs 1))).setCell ⟨w.heap.size + 1 + 1, 2, none⟩ (.int .u64 (addS g0 rs 2))).setCell ⟨w.heap.size + 1 + 1, 3, none⟩ (.int .u64 (addS g0 rs 3))) = V := ⟨_, rfl⟩
      rw [hV] at hs hb ⊢
      obtain ⟨t0, t1, t2, t3⟩ := set_lay hs
      refine bodyPost_ret (v := setV (addS g0 rs)) ?_ rfl ⟨rfl, hb⟩
      simp [results, Tryd.results50, go_sem, setV, t0, t1, t2, t3]
  · subst hx
    have HN := Hid.out (p := Hid _) h3
    have hgf := HG0.out.1 rfl
    subst hgf
    clear HG0
    obtain ⟨⟨o0, o1, o2, o3⟩, ⟨c0, c1, c2, c3⟩, -⟩ := h3.drew.cells
    have hg : W64 g0 := HF.out
    have HG := Hid.out (p := Hid _) hg
    clear h3 hg
    go_wp2_with fail
    go_region_with (first | (go_at_call 61; refine Calls.mono (HR.out _) ?_; rintro e w5 ⟨ra, rc, rfl, hs5, hb5⟩; have HN5 := Hid.out (p := Hid _) (HN.out.drew.below hb5); obtain ⟨-, ⟨d0, d1, d2, d3⟩, -⟩ := HN5.out.cells; have HS5 := Hid.out (p := Hid _) hs5; clear hs5 hb5) | (go_at_call 55; refine Calls.mono (HWT.out g0 _ _ _ HG.out HS5.out) ?_; rintro e w6 ⟨rfl, hb6⟩; have HN6 := Hid.out (p := Hid _) (HN5.out.below hb6); obtain ⟨⟨x0, x1, x2, x3⟩, ⟨z0, z1, z2, z3⟩⟩ := HN6.out.outs; clear hb6))
    all_goals go_wp2
    all_goals
      have hs := set_store HN6.out.res (addS g0 rs)
      have hb := below_store HN6.out.low (show w.heap.size ≤ w.heap.size + 1 + 1 by omega) (.int .u64 (addS g0 rs 0)) (.int .u64 (addS g0 rs 1)) (.int .u64 (addS g0 rs 2)) (.int .u64 (addS g0 rs 3))
      obtain ⟨V, hV⟩ : ∃ V, ((((w6.setCell ⟨w.heap.size + 1 + 1, 0, none⟩ (.int .u64 (addS g0 rs 0))).setCell ⟨w.heap.size + 1 + 1, 1, none⟩ (.int .u64 (addS g0 rs 1))).setCell ⟨w.heap.size + 1 + 1, 2, none⟩ (.int .u64 (addS g0 rs 2))).setCell ⟨w.heap.size + 1 + 1, 3, none⟩ (.int .u64 (addS g0 rs 3))) = V := ⟨_, rfl⟩
      rw [hV] at hs hb ⊢
      obtain ⟨t0, t1, t2, t3⟩ := set_lay hs
      refine bodyPost_ret (v := setV (addS g0 rs)) ?_ rfl ⟨rfl, hb⟩
      simp [results, Tryd.results50, go_sem, setV, t0, t1, t2, t3]
end

section
open Go.RowKit Go.Shelf

attribute [local go_sem] Oper.semAt_some

/-- From A to B nothing below n₀ has turned but blocks x and y. -/
structure KpL (n₀ x y : Nat) (A B : World) : Prop where
  size : A.heap.size ≤ B.heap.size
  block : ∀ k, k < n₀ → k ≠ x → k ≠ y → B.heap[k]? = A.heap[k]?
theorem KpL.refl (n₀ x y : Nat) (A : World) : KpL n₀ x y A A := ⟨Nat.le_refl _, fun _ _ _ _ => rfl⟩
theorem kpL_t {n₀ x y : Nat} {A B C : World} (h : KpL n₀ x y A B) (k : KpL n₀ x y B C) : KpL n₀ x y A C := ⟨Nat.le_trans h.size k.size, fun i h1 h2 h3 => (k.block i h1 h2 h3).trans (h.block i h1 h2 h3)⟩
theorem kpL_b {n₀ x y : Nat} {w : World} (hn : n₀ ≤ w.heap.size) (W : World) (l : Nat) (o o' : Obj) (hl : w.heap.size ≤ l) (h : W.heap[l]? = some o) (h1 : o.isCells = false) (h2 : o.isWalk = false) : KpL n₀ x y W (W.putObj l o') := by
  have hb := belowK_b (n₀ := n₀) hn W l o o' hl h h1 h2
  exact ⟨hb.size, fun k hk _ _ => hb.block k hk⟩
theorem KpL.cell {n₀ x y : Nat} {A B : World} (h : KpL n₀ x y A B) {b o : Nat} {v : Value} (hc : A.cell? ⟨b, o, none⟩ = some v) (h1 : b < n₀) (h2 : b ≠ x) (h3 : b ≠ y) : B.cell? ⟨b, o, none⟩ = some v := by
  rw [World.cell?_of_block (w := A) (h.block b h1 h2 h3)]
  exact hc
theorem KpL.of_below {n₀ x y m : Nat} {A B : World} (h : Below m A B) (hm : n₀ ≤ m) : KpL n₀ x y A B := ⟨h.size, fun k hk _ _ => h.block k (by omega)⟩

/-- A place of a thread, as it is handed on. -/
def orV (X : Nat → Nat → Int) (l : Nat) (p : Fin l) : Array Value := #[.int .i64 (p.1 : Int), ints4 (X p.1 0) (X p.1 1) (X p.1 2) (X p.1 3)]
/-- What has come when k rounds are over, from behind. -/
def bckF (l k : Nat) : List (Fin l) := (List.finRange l).reverse.take k
theorem bckF_succ {l k : Nat} {p : Fin l} (hk : k < l) (hp : p.1 = l - 1 - k) : bckF l (k + 1) = bckF l k ++ [p] := by
  unfold bckF
  have hl : k < (List.finRange l).reverse.length := by simpa using hk
  rw [List.take_add_one, List.getElem?_eq_getElem hl]
  simp only [Option.toList_some, List.append_cancel_left_eq, List.cons.injEq, and_true]
  apply Fin.ext
  rw [hp]
  simp
theorem bckF_length (l k : Nat) (hk : k ≤ l) : (bckF l k).length = k := by
  unfold bckF
  rw [List.length_take]
  simp
  omega
set_option maxRecDepth 100000 in
set_option maxHeartbeats 2000000 in
theorem bckF1_in (F : Fence) (n : Nat) (hF : F.fn 83) (hro : F.round = none) (hn : 1 ≤ n) (lp Bs n₀ x y : Nat) (ca : Option Addr) (cc : Nat) (X : Nat → Nat → Int) (l : Nat) (hl : l ≤ 1000) (J Jx : List (Fin l) → World → Prop)
    (hY : ∀ pre z W, J pre W → pre.length < l → YieldAt F (n - 1) Tryd.prog lp (orV X l z) W fun e W' =>
      (e = .returned (.bool true) ∧ J (pre ++ [z]) W' ∧ KpL n₀ x y W W') ∨ (e = .returned (.bool false) ∧ Jx (pre ++ [z]) W'))
    (W : World) (hBs : W.cell? ⟨Bs, 0, none⟩ = some (.slice ca l cc)) (hBn : Bs < n₀ ∧ Bs ≠ x ∧ Bs ≠ y) (hc : ∀ p, p < l → OrdAt W ca p (X p 0) (X p 1) (X p 2) (X p 3)) (hcn : ∀ b o, ca = some ⟨b, o, none⟩ → 0 < l → b < n₀ ∧ b ≠ x ∧ b ≠ y) (h0 : J [] W) :
    CallsIn F n Tryd.prog 83 #[.func (.yield lp) #[] #[], .pointer (some ⟨Bs, 0, none⟩)] W fun e W' => (∃ v, e = .returned v) ∧
      ((∃ ys, ys = bckF l l ∧ J ys W') ∨ (∃ pre, (∃ k, k ≤ l ∧ pre = bckF l k) ∧ Jx pre W')) := by
  refine callsIn_of_wp Tryd.func83 rfl hF ?_ hro
  simp only [Tryd.ntmps83, List.size_toArray, List.length_cons, List.length_nil, Nat.reduceAdd, Nat.reduceSub, Array.replicate_succ, Array.replicate_zero, List.push_toArray, List.append_toArray, List.nil_append, List.cons_append]
  have HC := Hid.out (p := Hid _) hc
  have HCN := Hid.out (p := Hid _) hcn
  have HY := Hid.out (p := Hid _) hY
  have HBN := Hid.out (p := Hid _) hBn
  clear hc hY hcn hBn
  gi_wp2
  gi_loopw [3] (fun i wr => ∃ k : Nat, k ≤ l ∧ i = .int .i64 ((l : Int) - 1 - (k : Int)) ∧ Hid (J (bckF l k) wr) ∧ KpL n₀ x y W wr) (fun i _ => (intOf i + 1).toNat)
  case atStart => exact ⟨0, Nat.zero_le _, by simp, h0, KpL.refl _ _ _ _⟩
  case round =>
    obtain ⟨k, hk, rfl, hJs, hnx⟩ := hrel
    have hbx : wr.cell? ⟨Bs, 0, none⟩ = some (.slice ca l cc) := hnx.cell hBs HBN.out.1 HBN.out.2.1 HBN.out.2.2
    by_cases hlt : k < l
    · obtain ⟨p, hp⟩ : ∃ p : Nat, (l : Int) - 1 - (k : Int) = (p : Int) := ⟨l - 1 - k, by omega⟩
      have hpl : p < l := by omega
      obtain ⟨b, o, rfl, c0, c1, c2, c3⟩ := HC.out p hpl
      obtain ⟨n1, n2, n3⟩ := HCN.out b o rfl (by omega)
      have d0 := hnx.cell c0 n1 n2 n3
      have d1 := hnx.cell c1 n1 n2 n3
      have d2 := hnx.cell c2 n1 n2 n3
      have d3 := hnx.cell c3 n1 n2 n3
      obtain ⟨fn, tmps, assign, body, hy, hR⟩ := HY.out (bckF l k) ⟨p, hpl⟩ wr hJs.out (by rw [bckF_length _ _ hk]; omega)
      have hbk : bckF l (k + 1) = bckF l k ++ [⟨p, hpl⟩] := bckF_succ hlt (by show p = _; omega)
      simp only [orV] at hy
      rw [hp]
      have HBK := Hid.out (p := Hid _) hbk
      have HP := Hid.out (p := Hid _) hp
      clear hbk c0 c1 c2 c3 n1 n2 n3
      obtain ⟨x0, hx0⟩ : ∃ v, X p 0 = v := ⟨_, rfl⟩
      obtain ⟨x1, hx1⟩ : ∃ v, X p 1 = v := ⟨_, rfl⟩
      obtain ⟨x2, hx2⟩ : ∃ v, X p 2 = v := ⟨_, rfl⟩
      obtain ⟨x3, hx3⟩ : ∃ v, X p 3 = v := ⟨_, rfl⟩
      rw [hx0] at d0 hy
      rw [hx1] at d1 hy
      rw [hx2] at d2 hy
      rw [hx3] at d3 hy
      clear hx0 hx1 hx2 hx3
      gi_wp2
      refine hR.mono ?_
      rintro e W3 (⟨rfl, hJ3, hk3⟩ | ⟨rfl, hJx3⟩)
      · gi_wp2
        go_roundw
        case rel => exact ⟨k + 1, by omega, by rw [← HP.out]; simp <;> omega, (by rw [HBK.out]; exact hJ3 : Hid (J (bckF l (k + 1)) W3)), kpL_t hnx hk3⟩
        case measure => first | (simp [intOf]; done) | (simp [intOf]; omega)
      · gi_wp2
        refine bodyPost_ret (results_none rfl _ _ _) rfl ?_
        exact ⟨⟨_, rfl⟩, .inr ⟨_, ⟨k + 1, by omega, HBK.out.symm⟩, hJx3⟩⟩
    · obtain rfl : k = l := by omega
      have hneg : (k : Int) - 1 - (k : Int) = -1 := by omega
      rw [hneg]
      gi_wp2
      go_end0
      exact ⟨⟨_, rfl⟩, .inl ⟨_, rfl, hJs.out⟩⟩
set_option maxHeartbeats 1000000 in
theorem bckF_in (F : Fence) (n : Nat) (hF : F.fn 49) (hro : F.round = none) (a : Option Addr) (len cap : Nat) (w : World) :
    CallsIn F n Tryd.prog 49 #[.slice a len cap] w fun e w' => e = .returned (.func (.func 83) #[] #[.pointer (some ⟨w.heap.size, 0, none⟩)]) ∧ w' = w.alloc (.cells #[.slice a len cap] 36) := by
  refine callsIn_of_wp Tryd.func49 rfl hF ?_ hro
  simp only [Tryd.ntmps49, List.size_toArray, List.length_cons, List.length_nil, Nat.reduceAdd, Nat.reduceSub, Array.replicate_succ, Array.replicate_zero, List.push_toArray, List.append_toArray, List.nil_append, List.cons_append]
  gi_wp2
  go_ret
  exact ⟨rfl, rfl⟩
theorem bckF_stops (F : Fence) (n : Nat) (hF : F.fn 83) (hro : F.round = none) (hn : 1 ≤ n) (Bs n₀ x y : Nat) (ca : Option Addr) (cc : Nat) (X : Nat → Nat → Int) (l : Nat) (hl : l ≤ 1000) (w : World) (hBs : w.cell? ⟨Bs, 0, none⟩ = some (.slice ca l cc)) (hBn : Bs < n₀ ∧ Bs ≠ x ∧ Bs ≠ y) (hn₀ : n₀ ≤ w.heap.size) (hc : ∀ p, p < l → OrdAt w ca p (X p 0) (X p 1) (X p 2) (X p 3)) (hcn : ∀ b o, ca = some ⟨b, o, none⟩ → 0 < l → b < n₀ ∧ b ≠ x ∧ b ≠ y) :
    SeqStopsK F n Tryd.prog 83 #[.pointer (some ⟨Bs, 0, none⟩)] (orV X l) (KpL n₀ x y) (fun ys => ys = bckF l l) (fun pre => ∃ k, k ≤ l ∧ pre = bckF l k) l w := fun lp J Jx W hW _ _ hY h0 =>
  bckF1_in F n hF hro hn lp Bs n₀ x y ca cc X l hl J Jx hY W ((hW.cell (p := ⟨Bs, 0, none⟩) (by show Bs < _; omega)).trans hBs) hBn (fun p hp => (hc p hp).below hW) hcn h0

/-! Rows of four cells each. -/
def rows4 (n : Nat) (f : Nat → Nat → Value) : List Value := (List.range (n * 4)).map fun i => f (i / 4) (i % 4)
theorem rows4_len (n : Nat) (f : Nat → Nat → Value) : (rows4 n f).length = n * 4 := by simp [rows4]
theorem rows4_at (n : Nat) (f : Nat → Nat → Value) (i : Nat) : (rows4 n f)[i]? = if i < n * 4 then some (f (i / 4) (i % 4)) else none := by
  unfold rows4
  rw [List.getElem?_map]
  by_cases h : i < n * 4
  · rw [if_pos h, List.getElem?_range h]; rfl
  · rw [if_neg h, List.getElem?_eq_none (by simp; omega)]; rfl
theorem rows4_get {n : Nat} {f : Nat → Nat → Value} {t j : Nat} (ht : t < n) (hj : j < 4) : (rows4 n f)[t * 4 + j]? = some (f t j) := by
  rw [rows4_at, if_pos (by omega), show (t * 4 + j) / 4 = t by omega, show (t * 4 + j) % 4 = j by omega]
theorem rows4_put {n t : Nat} {f g : Nat → Nat → Value} (hne : ∀ a, a ≠ t → g a = f a) : rows4 n g = ((((rows4 n f).set (t * 4) (g t 0)).set (t * 4 + 1) (g t 1)).set (t * 4 + 2) (g t 2)).set (t * 4 + 3) (g t 3) := by
  refine List.ext_getElem? fun i => ?_
  simp only [List.getElem?_set, List.length_set, rows4_len, rows4_at]
  by_cases hi : i < n * 4
  · rw [if_pos hi]
    by_cases e3 : t * 4 + 3 = i
    · subst e3
      rw [if_pos rfl, if_pos hi, show (t * 4 + 3) / 4 = t by omega, show (t * 4 + 3) % 4 = 3 by omega]
    · rw [if_neg e3]
      by_cases e2 : t * 4 + 2 = i
      · subst e2
        rw [if_pos rfl, if_pos hi, show (t * 4 + 2) / 4 = t by omega, show (t * 4 + 2) % 4 = 2 by omega]
      · rw [if_neg e2]
        by_cases e1 : t * 4 + 1 = i
        · subst e1
          rw [if_pos rfl, if_pos hi, show (t * 4 + 1) / 4 = t by omega, show (t * 4 + 1) % 4 = 1 by omega]
        · rw [if_neg e1]
          by_cases e0 : t * 4 = i
          · subst e0
            rw [if_pos rfl, if_pos hi, show t * 4 / 4 = t by omega, show t * 4 % 4 = 0 by omega]
          · rw [if_neg e0, if_pos hi, hne (i / 4) (by omega)]
  · rw [if_neg hi]
    have h0 : ¬ t * 4 = i ∨ ¬ t * 4 < n * 4 := by omega
    repeat' split
    all_goals first | rfl | omega
def u4 (S : Nat → Nat → Nat) : Nat → Nat → Value := fun j q => .int .u64 (S j q)
/-- Sets in a row that was made. -/
def RowZ (w : World) (B ab n : Nat) (S : Nat → Nat → Nat) : Prop := w.ownsRow B 88 4 (.slice (some ⟨ab, 0, none⟩) n n) n (rows4 n (u4 S))
section
variable {w w' : World} {B ab n : Nat} {S : Nat → Nat → Nat}
theorem RowZ.below (h : RowZ w B ab n S) (hb : Below w.heap.size w w') : RowZ w' B ab n S := owns_below2 h hb
theorem RowZ.keep (h : RowZ w B ab n S) (hb : w'.heap[ab]? = w.heap[ab]?) : RowZ w' B ab n S := fam_keeps h (fun g hg => by
  have e : ab = g := by simpa [Value.ownBlock] using hg
  rw [← e]; exact hb)
theorem RowZ.lt (h : RowZ w B ab n S) : B ≤ ab ∧ ab < w.heap.size := World.ownsRow.lt h ab rfl
theorem RowZ.sets (h : RowZ w B ab n S) : SetsAt w ab n S := fun j hj =>
  ⟨fam_cell h rfl (rows4_get (f := u4 S) hj (by omega : 0 < 4)), fam_cell h rfl (rows4_get (f := u4 S) hj (by omega : 1 < 4)), fam_cell h rfl (rows4_get (f := u4 S) hj (by omega : 2 < 4)), fam_cell h rfl (rows4_get (f := u4 S) hj (by omega : 3 < 4))⟩
theorem RowZ.free (h : RowZ w B ab n S) (i : Nat) : w.frozen? ⟨ab, i, none⟩ = false := fam_frozen h rfl i
theorem RowZ.put (h : RowZ w B ab n S) (t : Nat) (f : Nat → Nat) : RowZ ((((w.setCell ⟨ab, t * 4, none⟩ (.int .u64 (f 0))).setCell ⟨ab, t * 4 + 1, none⟩ (.int .u64 (f 1))).setCell ⟨ab, t * 4 + 2, none⟩ (.int .u64 (f 2))).setCell ⟨ab, t * 4 + 3, none⟩ (.int .u64 (f 3))) B ab n (putS S t f) := by
  have h1 := fam_put (fam_put (fam_put (fam_put h (g := ab) rfl (t * 4) (.int .u64 (f 0))) rfl (t * 4 + 1) (.int .u64 (f 1))) rfl (t * 4 + 2) (.int .u64 (f 2))) rfl (t * 4 + 3) (.int .u64 (f 3))
  have e := rows4_put (n := n) (t := t) (f := u4 S) (g := u4 (putS S t f)) (fun a ha => by unfold u4; rw [putS_ne _ _ ha])
  unfold RowZ
  rw [e]
  unfold u4
  rw [putS_self]
  exact h1
end
theorem infoSt : (Tryd.prog.info? 88).map (fun i => (i.zero, i.size, i.bytes)) = some (some (setV noS), 4, 32) := by kernel_rfl
theorem made_sets (n : Nat) : (madeCells #[Value.int .u64 0, .int .u64 0, .int .u64 0, .int .u64 0] (n * 4)).toList = rows4 n (u4 fun _ => noS) := by
  apply List.ext_getElem?
  intro i
  rw [rows4_at]
  simp only [madeCells, u4, noS]
  by_cases h : i < n * 4
  · rw [if_pos h]
    have : i % 4 = 0 ∨ i % 4 = 1 ∨ i % 4 = 2 ∨ i % 4 = 3 := by omega
    rcases this with e | e | e | e <;> simp [h, e]
  · rw [if_neg h]
    simp; omega
theorem sets_start (w : World) (n : Nat) (hn : n ≤ 1001) : ∃ w1, (Instr.makeSlice 62 (.int .i64 (n : Int)) (.int .i64 (n : Int))).run Tryd.prog w = .ok (.slice (some ⟨w.heap.size, 0, none⟩) n n) w1 ∧ RowZ w1 w.heap.size w.heap.size n (fun _ => noS) ∧ Below w.heap.size w w1 := by
  obtain ⟨i, hi, hz0, hz1, hz2⟩ := info_is infoSt
  obtain ⟨w1, r1, r2, r3⟩ := run_makeSlice_full (P := Tryd.prog) w w.heap.size 62 88 i (setV noS) 4 Tryd.underlying62 hi hz0 hz1 .i64 .i64 n (by omega) (by rw [hz2]; omega) (by unfold maxLen; omega) (Nat.le_refl _)
  have hlow : Below w.heap.size w w1 := (Below.refl _ _).grown r3 (Nat.le_refl _) (fun k hk => by cases hk)
  refine ⟨w1, by simpa using r1, ?_, hlow⟩
  have e : (setV noS).cells = #[Value.int .u64 0, .int .u64 0, .int .u64 0, .int .u64 0] := rfl
  rw [e, made_sets] at r2
  exact r2
end

end Go.Proofs.YtocfocjnnjdcgaaDoor
