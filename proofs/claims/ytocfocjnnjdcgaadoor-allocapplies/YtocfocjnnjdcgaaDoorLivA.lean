/-
  Sets of registers: what the program's small functions make of them.
-/
import Derived.Test.YtocfocjnnjdcgaaDoorLivS
import Derived.Test.YtocfocjnnjdcgaaDoorRead
import Derived.Test.YtocfocjnnjdcgaaDoorAppB
import Derived.BigRegion
import Derived.LoopN
namespace Go.Proofs.YtocfocjnnjdcgaaDoor
open Go.RowKit

/-- A set as a value. -/
abbrev setV (f : Nat → Nat) : Value := .agg #[.int .u64 (f 0), .int .u64 (f 1), .int .u64 (f 2), .int .u64 (f 3)]
/-- A set in a box. -/
abbrev setO (f : Nat → Nat) : Obj := .cells #[.int .u64 (f 0), .int .u64 (f 1), .int .u64 (f 2), .int .u64 (f 3)] 88
theorem div_fact (r : Nat) : (r : Int).tdiv 64 = ((r / 64 : Nat) : Int) ∧ (r : Int).tmod 64 = ((r % 64 : Nat) : Int) := ⟨(Int.ofNat_tdiv r 64).symm, (Int.ofNat_tmod r 64).symm⟩

set_option maxHeartbeats 1600000 in
theorem without_any (f : Nat → Nat) (r : Nat) (hr : r < 256) (w : World) :
    Calls Tryd.prog 53 #[setV f, .int .i64 r] w fun e w' => e = .returned (setV (wout f r)) ∧ Below w.heap.size w w' := by
  obtain ⟨h1, h2⟩ := div_fact r
  obtain ⟨q, hq⟩ : ∃ q, r / 64 = q := ⟨_, rfl⟩
  obtain ⟨k, hk⟩ : ∃ k, r % 64 = k := ⟨_, rfl⟩
  have hk64 : k < 64 := by omega
  have hq4 : q = 0 ∨ q = 1 ∨ q = 2 ∨ q = 3 := by omega
  have HE : Hid (∀ i, (if i = q then (bits .andNot .u64 (f i) (IntKind.u64.wrap (2 ^ min k 64))) else ((f i : Nat) : Int)) = ((wout f r i : Nat) : Int)) := fun i => by
    unfold wout
    rw [hq, hk]
    split
    · rw [shl_run hk64, clr_run]
    · rfl
  rw [hq] at h1
  rw [hk] at h2
  clear hq hk
  have HK := Hid.out (p := Hid _) hk64
  clear hk64
  rcases hq4 with rfl | rfl | rfl | rfl
  all_goals
    go_enter Tryd.func53, Tryd.ntmps53
    go_wp2
    go_region
    all_goals go_wp2
    all_goals
      have e0 := HE.out 0
      have e1 := HE.out 1
      have e2 := HE.out 2
      have e3 := HE.out 3
      simp at e0 e1 e2 e3
      refine bodyPost_ret (v := setV (wout f r)) ?_ rfl ⟨rfl, ?_⟩
      · simp [results, Tryd.results53, go_sem, setV, ← e0, ← e1, ← e2, ← e3]
      · exact (((Below.refl _ _).alloc (Nat.le_refl _) _).alloc (by simp) _).drew

/-- One of a set's words. -/
theorem idx_set (g : Nat → Nat) : (∀ W, (Instr.index 88 (setV g) (.int .i64 0)).run Tryd.prog W = .ok (.int .u64 (g 0)) W) ∧ (∀ W, (Instr.index 88 (setV g) (.int .i64 1)).run Tryd.prog W = .ok (.int .u64 (g 1)) W) ∧ (∀ W, (Instr.index 88 (setV g) (.int .i64 2)).run Tryd.prog W = .ok (.int .u64 (g 2)) W) ∧ (∀ W, (Instr.index 88 (setV g) (.int .i64 3)).run Tryd.prog W = .ok (.int .u64 (g 3)) W) :=
  ⟨fun _ => by kernel_rfl, fun _ => by kernel_rfl, fun _ => by kernel_rfl, fun _ => by kernel_rfl⟩
set_option maxHeartbeats 1600000 in
theorem setJoined_any (f g : Nat → Nat) (hf : W64 f) (hg : W64 g) (w : World) :
    Calls Tryd.prog 54 #[setV f, setV g] w fun e w' => e = .returned (setV (jnd f g)) ∧ Below w.heap.size w w' := by
  have HE : Hid (∀ i, bits .or .u64 ((f i : Nat) : Int) ((g i : Nat) : Int) = ((jnd f g i : Nat) : Int)) := fun i => bits_or_u64_nat (f i) (g i) (hf i) (hg i)
  obtain ⟨i0, i1, i2, i3⟩ := idx_set g
  go_enter Tryd.func54, Tryd.ntmps54
  go_wp2
  refine wp_loop_rounds 5 ?_
  iterate 5 (rw [rounds_succ]; go_wp2)
  have e0 := HE.out 0
  have e1 := HE.out 1
  have e2 := HE.out 2
  have e3 := HE.out 3
  refine bodyPost_ret (v := setV (jnd f g)) ?_ rfl ⟨rfl, ?_⟩
  · simp [results, Tryd.results54, go_sem, setV, ← e0, ← e1, ← e2, ← e3]
  · exact ((((Below.refl _ _).alloc (Nat.le_refl _) _).alloc (by simp) _).alloc (by simp; omega) _)

theorem set_lay {w : World} {b : Nat} {f : Nat → Nat} (h : w.heap[b]? = some (setO f)) : w.cell? ⟨b, 0, none⟩ = some (.int .u64 (f 0)) ∧ w.cell? ⟨b, 1, none⟩ = some (.int .u64 (f 1)) ∧ w.cell? ⟨b, 2, none⟩ = some (.int .u64 (f 2)) ∧ w.cell? ⟨b, 3, none⟩ = some (.int .u64 (f 3)) :=
  ⟨box_cell h rfl, box_cell h rfl, box_cell h rfl, box_cell h rfl⟩

/-- A set that is stored over another one. -/
theorem set_store {w : World} {b : Nat} {f : Nat → Nat} (h : w.heap[b]? = some (setO f)) (g : Nat → Nat) : ((((w.setCell ⟨b, 0, none⟩ (.int .u64 (g 0))).setCell ⟨b, 1, none⟩ (.int .u64 (g 1))).setCell ⟨b, 2, none⟩ (.int .u64 (g 2))).setCell ⟨b, 3, none⟩ (.int .u64 (g 3))).heap[b]? = some (setO g) :=
  (heap_set_same (heap_set_same (heap_set_same (heap_set_same h)))).trans rfl
theorem cell_oth {w : World} {b o b' o' : Nat} {u v : Value} (h : w.cell? ⟨b, o, none⟩ = some v) (hne : b ≠ b') : (w.setCell ⟨b', o', none⟩ u).cell? ⟨b, o, none⟩ = some v := by
  rw [World.cell?_of_block (w := w) (Below.heap_setCell _ _ _ _ (fun x => hne (by simpa using x)))]
  exact h
/-- A number of a list lies in no set. -/
theorem set_not {w : World} {b o : Nat} {f : Nat → Nat} {x : Int} (h : w.heap[b]? = some (setO f)) (hc : w.cell? ⟨b, o, none⟩ = some (.int .i64 x)) : False := by
  unfold World.cell? at hc
  rw [h] at hc
  rcases (by omega : o = 0 ∨ o = 1 ∨ o = 2 ∨ o = 3 ∨ 4 ≤ o) with rfl | rfl | rfl | rfl | h4
  · simp at hc
  · simp at hc
  · simp at hc
  · simp at hc
  · simp [Array.getElem?_eq_none (xs := #[Value.int .u64 (f 0), .int .u64 (f 1), .int .u64 (f 2), .int .u64 (f 3)]) (i := o) (by simpa using h4)] at hc
theorem sis_store {w : World} {b : Nat} {f : Nat → Nat} {a : Option Addr} {l : List Int} (hs : SIs w a l) (h : w.heap[b]? = some (setO f)) (u0 u1 u2 u3 : Value) : SIs ((((w.setCell ⟨b, 0, none⟩ u0).setCell ⟨b, 1, none⟩ u1).setCell ⟨b, 2, none⟩ u2).setCell ⟨b, 3, none⟩ u3) a l := fun i hi => by
  obtain ⟨g, o, e, hc⟩ := hs i hi
  have hne : g ≠ b := fun e2 => by rw [e2] at hc; exact set_not h hc
  exact ⟨g, o, e, cell_oth (cell_oth (cell_oth (cell_oth hc hne) hne) hne) hne⟩
theorem below_store {w V : World} {n b : Nat} (h : Below n w V) (hb : n ≤ b) (u0 u1 u2 u3 : Value) : Below n w ((((V.setCell ⟨b, 0, none⟩ u0).setCell ⟨b, 1, none⟩ u1).setCell ⟨b, 2, none⟩ u2).setCell ⟨b, 3, none⟩ u3) := (((h.setCell hb _).setCell hb _).setCell hb _).setCell hb _
theorem heap_store {w : World} {b g : Nat} (hne : g ≠ b) (u0 u1 u2 u3 : Value) : ((((w.setCell ⟨b, 0, none⟩ u0).setCell ⟨b, 1, none⟩ u1).setCell ⟨b, 2, none⟩ u2).setCell ⟨b, 3, none⟩ u3).heap[g]? = w.heap[g]? := by
  rw [Below.heap_setCell _ _ _ _ (fun x => hne (by simpa using x)), Below.heap_setCell _ _ _ _ (fun x => hne (by simpa using x)), Below.heap_setCell _ _ _ _ (fun x => hne (by simpa using x)), Below.heap_setCell _ _ _ _ (fun x => hne (by simpa using x))]
set_option maxHeartbeats 3200000 in
theorem with_any (f : Nat → Nat) (hf : W64 f) (rs : List Int) (a : Option Addr) (c : Nat) (hrs : ∀ r, r ∈ rs → 0 ≤ r ∧ r < 256) (hl : rs.length ≤ 4) (w : World) (hs : SIs w a rs) :
    Calls Tryd.prog 55 #[setV f, .slice a rs.length c] w fun e w' => e = .returned (setV (addS f rs)) ∧ Below w.heap.size w w' := by
  obtain ⟨n, hn⟩ : ∃ n, rs.length = n := ⟨_, rfl⟩
  have HN := Hid.out (p := Hid _) hn
  have HRS := Hid.out (p := Hid _) hrs
  have HF := Hid.out (p := Hid _) hf
  have HS := Hid.out (p := Hid _) hs
  rw [hn] at hl ⊢
  clear hn hrs hf hs
  go_enter Tryd.func55, Tryd.ntmps55
  go_wp2
  have H0 : Hid (((w.alloc (setO f)).alloc (setO noS)).heap[w.heap.size]? = some (setO (addS f (rs.take 0))) ∧ ((w.alloc (setO f)).alloc (setO noS)).heap[w.heap.size + 1]? = some (setO noS) ∧ Below w.heap.size w ((w.alloc (setO f)).alloc (setO noS))) := by
    refine ⟨box_later (heap_alloc_new w _) _, ?_, ((Below.refl _ _).alloc (Nat.le_refl _) _).alloc (by simp) _⟩
    have := heap_alloc_new (w.alloc (setO f)) (setO noS)
    rwa [World.size_alloc] at this
  go_loopw [9] (fun i wr => ∃ k : Nat, k ≤ n ∧ i = .int .i64 k ∧ Hid (wr.heap[w.heap.size]? = some (setO (addS f (rs.take k))) ∧ wr.heap[w.heap.size + 1]? = some (setO noS) ∧ Below w.heap.size w wr)) (fun i _ => n - (intOf i).toNat)
  case atStart => exact ⟨0, Nat.zero_le _, rfl, H0⟩
  case round =>
    obtain ⟨k, hk, rfl, HI⟩ := hrel
    clear H0
    by_cases hlt : k < n
    · obtain ⟨b, o, rfl, hc⟩ := HS.out k (by rw [HN.out]; exact hlt)
      obtain ⟨r, hr⟩ : ∃ r : Nat, rs.getD k 0 = (r : Int) ∧ r < 256 ∧ rs.take (k + 1) = rs.take k ++ [(r : Int)] := by
        have hkl : k < rs.length := by rw [HN.out]; exact hlt
        have hm := HRS.out _ (List.getElem_mem hkl)
        have e : rs.getD k 0 = rs[k] := by simp [List.getD, hkl]
        obtain ⟨r, hr⟩ : ∃ r : Nat, rs[k] = (r : Int) := ⟨rs[k].toNat, by omega⟩
        rw [hr] at hm e
        refine ⟨r, e, by omega, ?_⟩
        rw [List.take_add_one, List.getElem?_eq_getElem hkl, hr]
        rfl
      have hcw := (HI.out.2.2.cell (lt_of_cell hc)).trans hc
      rw [hr.1] at hcw
      obtain ⟨g, hg⟩ : ∃ g, addS f (rs.take k) = g := ⟨_, rfl⟩
      have HG := Hid.out (p := Hid _) hg
      have hbx := HI.out.1
      rw [hg] at hbx
      have hW : W64 g := by rw [← hg]; exact W64.addS HF.out
      obtain ⟨h1, h2⟩ := div_fact r
      obtain ⟨q, hq⟩ : ∃ q, r / 64 = q := ⟨_, rfl⟩
      obtain ⟨kk, hkk⟩ : ∃ kk, r % 64 = kk := ⟨_, rfl⟩
      have hk64 : kk < 64 := by omega
      have hq4 : q = 0 ∨ q = 1 ∨ q = 2 ∨ q = 3 := by omega
      have HE : Hid (∀ i, (if i = q then (bits .or .u64 (g i) (IntKind.u64.wrap (2 ^ min kk 64))) else ((g i : Nat) : Int)) = ((wth g r i : Nat) : Int)) := fun i => by
        unfold wth
        rw [hq, hkk]
        split
        · rw [shl_run hk64, bits_or_u64_nat _ _ (hW i) (pow_lt64 hk64)]
        · rfl
      have HR := Hid.out (p := Hid _) hr
      have HK := Hid.out (p := Hid _) hk64
      rw [hq] at h1
      rw [hkk] at h2
      obtain ⟨c0, c1, c2, c3⟩ := set_lay hbx
      have f0 := box_free (i := 0) hbx
      have f1 := box_free (i := 1) hbx
      have f2 := box_free (i := 2) hbx
      have f3 := box_free (i := 3) hbx
      clear hq hkk hr hk64 hg hc hW hbx
      rcases hq4 with rfl | rfl | rfl | rfl
      all_goals
        have e0 := HE.out 0
        have e1 := HE.out 1
        have e2 := HE.out 2
        have e3 := HE.out 3
        simp at e0 e1 e2 e3
        have HEE := Hid.out (p := Hid _) (And.intro e0 (And.intro e1 (And.intro e2 e3)))
        clear e0 e1 e2 e3 HE
        go_wp2
        go_region
        all_goals go_wp2
        all_goals go_roundw
        case rel =>
          have hbg := HI.out.1
          rw [HG.out] at hbg
          refine ⟨k + 1, by omega, by go_num, ?_⟩
          refine (⟨?_, ?_, ?_⟩ : _ ∧ _ ∧ _)
          · rw [HR.out.2.2, addS_snoc, HG.out, Int.toNat_natCast]
            refine (heap_set_same hbg).trans ?_
            simp [setO, ← HEE.out.1, ← HEE.out.2.1, ← HEE.out.2.2.1, ← HEE.out.2.2.2]
          · exact (Below.heap_setCell _ _ _ _ (by simp)).trans HI.out.2.1
          · exact (HI.out.2.2.setCell (by simp) _).drew
        case measure => simp [intOf]; omega
    · obtain rfl : k = n := by omega
      have hbx := HI.out.1
      rw [List.take_of_length_le (by rw [HN.out]; exact Nat.le_refl _)] at hbx
      obtain ⟨c0, c1, c2, c3⟩ := set_lay hbx
      obtain ⟨d0, d1, d2, d3⟩ := set_lay HI.out.2.1
      have f0 := box_free (i := 0) HI.out.2.1
      have f1 := box_free (i := 1) HI.out.2.1
      have f2 := box_free (i := 2) HI.out.2.1
      have f3 := box_free (i := 3) HI.out.2.1
      go_wp2
      have hs := set_store HI.out.2.1 (addS f rs)
      have hb : Below w.heap.size w ((((wr.setCell ⟨w.heap.size + 1, 0, none⟩ (.int .u64 (addS f rs 0))).setCell ⟨w.heap.size + 1, 1, none⟩ (.int .u64 (addS f rs 1))).setCell ⟨w.heap.size + 1, 2, none⟩ (.int .u64 (addS f rs 2))).setCell ⟨w.heap.size + 1, 3, none⟩ (.int .u64 (addS f rs 3))) := (((HI.out.2.2.setCell (by simp) _).setCell (by simp) _).setCell (by simp) _).setCell (by simp) _
      obtain ⟨V, hV⟩ : ∃ V, ((((wr.setCell ⟨w.heap.size + 1, 0, none⟩ (.int .u64 (addS f rs 0))).setCell ⟨w.heap.size + 1, 1, none⟩ (.int .u64 (addS f rs 1))).setCell ⟨w.heap.size + 1, 2, none⟩ (.int .u64 (addS f rs 2))).setCell ⟨w.heap.size + 1, 3, none⟩ (.int .u64 (addS f rs 3))) = V := ⟨_, rfl⟩
      rw [hV] at hs hb ⊢
      obtain ⟨t0, t1, t2, t3⟩ := set_lay hs
      refine bodyPost_ret (v := setV (addS f rs)) ?_ rfl ⟨rfl, hb⟩
      simp [results, Tryd.results55, go_sem, setV, t0, t1, t2, t3]

end Go.Proofs.YtocfocjnnjdcgaaDoor
