/-
  Where something may wait, by the program: the walk.
-/
import Derived.Test.YtgofbkgfonlceacMwM
import Derived.Deep.LoopGhost
import Derived.Deep.RegionHeld3
namespace Go.Proofs.Ytgofbkgfonlceac
open Go.RowKit

theorem zeroU4 (w : World) : (zeroValue 79).run Try.prog w = .ok (.agg #[]) w := by kernel_rfl
theorem made_bools (n : Nat) : (madeCells #[Value.bool false] n).toList = boolsV (wsL n []) := by
  apply List.ext_getElem?
  intro i
  simp only [madeCells, boolsV, wsL]
  by_cases h : i < n
  · simp [h, Nat.mod_one]
  · simp [h]
theorem mw_start (w : World) (l : Nat) (hl : l ≤ 400) : ∃ w1, (Instr.makeSlice 55 (.int .i64 (l : Int)) (.int .i64 (l : Int))).run Try.prog w = .ok (.slice (some ⟨w.heap.size, 0, none⟩) l l) w1 ∧ w.heap.size < w1.heap.size ∧ MwM w l ((w1.alloc (.map #[] 0)).alloc (.cells #[.int .i64 0, .bool false] 77)) w.heap.size w1.heap.size (.slice (some ⟨w1.heap.size + 1, 0, none⟩) 1 1) [] [(0, false)] := by
  obtain ⟨i, hi, hz0, hz1, hz2⟩ := info_is infoB
  obtain ⟨w1, r1, r2, r3⟩ := run_makeSlice_full (P := Try.prog) w w.heap.size 55 4 i (.bool false) 1 Try.underlying55 hi hz0 hz1 .i64 .i64 l (by omega) (by rw [hz2]; omega) (by unfold maxLen; omega) (Nat.le_refl _)
  have hlt : w.heap.size < w1.heap.size := (r2.lt w.heap.size rfl).2
  have hlow : Below w.heap.size w w1 := (Below.refl _ _).grown r3 (Nat.le_refl _) (fun k hk => by cases hk)
  have hb1 : Below w1.heap.size w1 (w1.alloc (.map #[] 0)) := (Below.refl _ _).alloc (Nat.le_refl _) _
  refine ⟨w1, r1, hlt, ?_⟩
  have hb2 : Below w1.heap.size w1 ((w1.alloc (.map #[] 0)).alloc (.cells #[.int .i64 0, .bool false] 77)) := hb1.alloc (by simp) _
  refine ⟨hlow.trans (hb2.mono hlow.size), ?_, ⟨0, _, Nat.le_refl _, (World.ownsMap_made (H := Unit) w1 Try.prog 77 (unitElem (H := Unit))).alloc _, fun q => ?_⟩, by omega, ?_⟩
  · rw [Nat.mul_one] at r2
    have e : (Value.bool false).cells = #[Value.bool false] := rfl
    rw [e, made_bools] at r2
    exact owns_below2 r2 hb2
  · constructor
    · intro h; cases h
    · rintro ⟨s, h, _⟩; cases h
  · have h := heap_alloc_new (w1.alloc (.map #[] 0)) (.cells #[.int .i64 0, .bool false] 77)
    refine ⟨rfl, Or.inr ⟨w1.heap.size + 1, 1, _, rfl, by omega, by simpa using h, Nat.le_refl _, by unfold maxLen; omega, rfl, rfl⟩⟩
attribute [local go_sem ↓] appS_eq in
set_option maxRecDepth 100000 in
set_option maxHeartbeats 3200000 in
theorem mayWait_any (w : World) (a : Option Addr) (l cc : Nat) (X : Nat → Nat → Int) (rg m lk : Nat) (hl : l ≤ 400) (hord : ∀ i, i < l → ∃ b o, a = some ⟨b, o, none⟩ ∧ w.cell? ⟨b, o + i * 4, none⟩ = some (.int .i64 (X i 0)) ∧ w.cell? ⟨b, o + i * 4 + 1, none⟩ = some (.int .i64 (X i 1)) ∧ w.cell? ⟨b, o + i * 4 + 2, none⟩ = some (.int .i64 (X i 2)) ∧ w.cell? ⟨b, o + i * 4 + 3, none⟩ = some (.int .i64 (X i 3))) (hok : ∀ i, i < l → ordE rg m lk l (X i 0) (X i 1) (X i 2) (X i 3) = 0) :
    Calls Try.prog 23 #[.slice a l cc] w fun e w' => ∃ g K, e = .returned (.slice (some ⟨g, 0, none⟩) l l) ∧ w'.ownsRow w.heap.size 4 1 (.slice (some ⟨g, 0, none⟩) l l) l (boolsV (wsL l K)) ∧ (∀ i, i < l → ((i, true) ∈ K ↔ Way l X i true)) ∧ Below w.heap.size w w' := by
  obtain ⟨w1, hrun1, hlt1, hM⟩ := mw_start w l hl
  have hmm := @run_makeMap Try.prog
  have HM := Hid.out (p := Hid _) hM
  have HORD := Hid.out (p := Hid _) hord
  have HOK := Hid.out (p := Hid _) hok
  clear hM hord hok
  go_enter Try.func23, Try.ntmps23
  go_wp2
  obtain ⟨W1, hW1⟩ : ∃ V, (w1.alloc (.map #[] 0)).alloc (.cells #[.int .i64 0, .bool false] 77) = V := ⟨_, rfl⟩
  rw [hW1] at HM ⊢
  obtain ⟨km, hkm⟩ : ∃ k, w1.heap.size = k := ⟨_, rfl⟩
  rw [hkm] at HM ⊢
  clear hW1 hkm hrun1 hlt1 hmm
  go_loopg [5] (6 * l + 1) (fun gk ov wr => ∃ (K O : List Sp) (oa : Option Addr) (ol oc : Nat), ov = .slice oa ol oc ∧ ol ≤ 2401 ∧ Hid (ol = O.length ∧ MwM w l wr w.heap.size km (.slice oa ol oc) K O ∧ MwP l X K O ∧ 3 * (2 * l - K.length) + O.length = gk ∧ gk ≤ 2401))
  case atStart => exact ⟨[], [(0, false)], _, 1, 1, rfl, by omega, rfl, HM.out, MwP.begin l X, by simp; omega, by omega⟩
  case round =>
    obtain ⟨K, O, oa, ol, oc, rfl, hol, HI⟩ := hrel
    clear HM
    by_cases h0 : ol = 0
    · subst h0
      have HO : Hid (O = []) := List.eq_nil_of_length_eq_zero HI.out.1.symm
      go_wp2
      go_ret
      have hM := HI.out.2.1
      have hP := HI.out.2.2.1
      rw [HO.out] at hP
      exact ⟨_, K, rfl, hM.ws, fun i hi => hP.iff hi, hM.low⟩
    · obtain ⟨O', s, hO⟩ : ∃ O' s, O = O' ++ [s] := by
        rcases List.eq_nil_or_concat O with h | ⟨O', s, h⟩
        · exact absurd (by rw [HI.out.1, h]; rfl) h0
        · exact ⟨O', s, by rw [h, List.concat_eq_append]⟩
      subst hO
      obtain ⟨k, hk⟩ : ∃ k, ol = k + 1 := ⟨ol - 1, by omega⟩
      subst hk
      have hkO : k = O'.length := by have := HI.out.1; rw [List.length_append, List.length_singleton] at this; omega
      obtain ⟨g, cap, eg, _⟩ := fam_block HI.out.2.1.op (by simp)
      have eg' : oa = some ⟨g, 0, none⟩ := by
        simp only [Value.slice.injEq] at eg
        exact eg.1
      subst eg'
      have hM0 := HI.out.2.1
      have hocap : k + 1 ≤ oc := by
        rcases hM0.op.2 with ⟨h1, _⟩ | ⟨g', cap', cur, hv, _, _, h3, _⟩
        · simp at h1
        · simp only [Value.slice.injEq] at hv
          rw [hv.2.2, hv.2.1]; exact h3
      rw [hkO] at hM0
      obtain ⟨c0, c1, hM1⟩ := hM0.pop
      rw [← hkO] at c0 c1 hM1
      obtain ⟨s1, s2⟩ := s
      simp only at c0 c1
      have HM1 : Hid (MwM w l wr w.heap.size km (.slice (some ⟨g, 0, none⟩) k oc) K O' ∧ k = O'.length) := ⟨hM1, hkO⟩
      have hsl : s1 ≤ l := HI.out.2.2.1.ol (s1, s2) (by simp)
      obtain ⟨n, D, hn, hown, hhas⟩ := hM1.kn
      have HMAP := Hid.out (p := Hid _) hown
      have HHAS := Hid.out (p := Hid _) (And.intro hn hhas)
      have hgl : g < wr.heap.size := lt_of_cell c0
      have hkml : km < wr.heap.size := box_lt (map_obj hown).choose_spec.choose_spec
      clear hM0 hM1 hn hown hhas eg hkO
      have hkey := spKey (s := (s1, s2)) (wf_nat (by omega))
      obtain ⟨has, hh⟩ : ∃ b, Maps.has D (spL (s1, s2)) = b := ⟨_, rfl⟩
      have HH := Hid.out (p := Hid _) hh
      have c0u := cell_up c0
      have c1u := cell_up c1
      obtain ⟨SB, hSB⟩ : ∃ o : Obj, o = .cells #[.int .i64 (s1 : Int), .bool s2] 77 := ⟨_, rfl⟩
      obtain ⟨UB, hUB⟩ : ∃ o : Obj, o = .cells #[] 79 := ⟨_, rfl⟩
      have hb2 : Below wr.heap.size wr ((wr.alloc SB).alloc UB) := ((Below.refl _ _).alloc (Nat.le_refl _) _).alloc (by simp) _
      have hsb : ((wr.alloc SB).alloc UB).heap[wr.heap.size]? = some SB := box_later (heap_alloc_new _ _) _
      obtain ⟨W2, hW2⟩ : ∃ V, (wr.alloc SB).alloc UB = V := ⟨_, rfl⟩
      rw [hW2] at hb2 hsb
      have HW2 : Hid ((wr.alloc (.cells #[.int .i64 (s1 : Int), .bool s2] 77)).alloc (.cells #[] 79) = W2) := by rw [← hW2, hSB, hUB]; exact rfl
      rw [hSB] at hsb
      have HB2 : Hid (Below wr.heap.size wr W2 ∧ W2.heap[wr.heap.size]? = some (.cells #[.int .i64 (s1 : Int), .bool s2] 77)) := ⟨hb2, hsb⟩
      have t1 := World.ownsMap.alloc HMAP.out (.cells #[.int .i64 (s1 : Int), .bool s2] 77)
      have t2 : keyOf Try.prog 77 (.agg #[.int .i64 (s1 : Int), .bool s2]) = some (spL (s1, s2)) := hkey
      have HT1 := Hid.out (p := Hid _) t1
      have HGK : Hid (3 * (2 * l - K.length) + O'.length + 1 = gk ∧ gk ≤ 2401) := by have := HI.out.2.2.2.1; rw [List.length_append, List.length_singleton] at this; exact ⟨by omega, HI.out.2.2.2.2⟩
      have HSK : Hid ((s1, s2) ∈ K ∨ s1 = l → MwM w l W2 w.heap.size km (.slice (some ⟨g, 0, none⟩) k oc) K O' ∧ MwP l X K O') := fun h => ⟨HM1.out.1.below hb2, HI.out.2.2.1.skip h⟩
      clear t1 hkey hb2 hsb hW2 hSB hUB
      cases has with
      | true =>
        have HR := Hid.out (p := Hid _) (HSK.out (Or.inl (by
          obtain ⟨q, h1, h2⟩ := (HHAS.out.2 _).1 HH.out
          have : q = (s1, s2) := spL_inj (wf_nat (by have := HI.out.2.2.1.kl q h1; omega)) (wf_nat (by simp only; omega)) h2
          rw [← this]; exact h1)))
        clear HSK HHAS HMAP HB2
        go_wp2_with (at_lookup; refine wpList_lookup_own_unit _ rfl _ _ 75 rfl 77 79 spKeyed Try.underlying75 (zeroU4 _) km n D rfl HT1.out _ _ rfl t2 ?_)
        rw [HW2.out]
        go_roundg (gk - 1)
        case rel => exact ⟨K, O', _, k, oc, rfl, by omega, HM1.out.2, HR.out.1, HR.out.2, by have := HGK.out.1; omega, by have := HGK.out.2; omega⟩
        case measure => have := HGK.out.1; omega
      | false =>
        have hnk : (s1, s2) ∉ K := fun hin => by
          have := (HHAS.out.2 (spL (s1, s2))).2 ⟨_, hin, rfl⟩
          rw [HH.out] at this
          cases this
        have HNK := Hid.out (p := Hid _) hnk
        clear hnk
        by_cases hse : s1 = l
        · subst hse
          have HR := Hid.out (p := Hid _) (HSK.out (Or.inr rfl))
          clear HSK HHAS HMAP HB2
          go_wp2_with (at_lookup; refine wpList_lookup_own_unit _ rfl _ _ 75 rfl 77 79 spKeyed Try.underlying75 (zeroU4 _) km n D rfl HT1.out _ _ rfl t2 ?_)
          rw [HW2.out]
          go_roundg (gk - 1)
          case rel => exact ⟨K, O', _, k, oc, rfl, by omega, HM1.out.2, HR.out.1, HR.out.2, by have := HGK.out.1; omega, by have := HGK.out.2; omega⟩
          case measure => have := HGK.out.1; omega
        · have hslt : s1 < l := by omega
          have hse' : ((s1 : Int) == (l : Int)) = false := by simp; omega
          have HM2 : Hid (MwM w l W2 w.heap.size km (.slice (some ⟨g, 0, none⟩) k oc) K O') := HM1.out.1.below HB2.out.1
          have hmap2 : W2.ownsMap Try.prog 77 (unitElem (H := Unit)) km n D := map_kept HMAP.out (HB2.out.1.block _ hkml)
          have HMAP2 := Hid.out (p := Hid _) hmap2
          clear HSK hmap2
          go_wp2_with (first | (at_lookup; refine wpList_lookup_own_unit _ rfl _ _ 75 rfl 77 79 spKeyed Try.underlying75 (zeroU4 _) km n D rfl HT1.out _ _ rfl t2 ?_) | (at_mapUpdate; rw [HW2.out]; refine wpList_mapUpdate_own _ rfl _ _ _ 75 rfl 77 79 spKeyed Try.underlying75 _ km n D rfl HMAP2.out (by have := HHAS.out.1; have := HI.out.2.2.1.len; unfold maxLen; omega) _ _ _ rfl rfl t2 _ [] unitElem_mk ?_; intro w4 hm4 hg4; refine Hid.out ?_))
          unfold Hid
          obtain ⟨z0, z1, hb4, hM4⟩ := HM2.out.know (s := (s1, s2)) hslt (by omega) HI.out.2.2.1.kl HHAS.out.1 HMAP2.out HHAS.out.2 hm4 hg4
          obtain ⟨old, hold⟩ : ∃ b : Bool, decide ((s1, true) ∈ K) = b := ⟨_, rfl⟩
          simp only at z0 z1 hM4
          rw [hold] at z0 hM4
          have hkw : wr.heap.size ≠ km := by omega
          have hbx4 : w4.heap[wr.heap.size]? = some (.cells #[.int .i64 (s1 : Int), .bool s2] 77) := by
            rw [grown_block hg4 (box_lt HB2.out.2) (by simpa using hkw.symm)]
            exact HB2.out.2
          have x0 := box_cell (i := 0) hbx4 rfl
          have x1 := box_cell (i := 1) hbx4 rfl
          have hwne : wr.heap.size ≠ w.heap.size := by have := HM1.out.1.low.size; have := (HM1.out.1.ws.lt w.heap.size rfl).2; omega
          have hwlt : w.heap.size < w4.heap.size := lt_of_cell z0
          have HM4 : Hid (MwM w l (w4.setCell ⟨w.heap.size, s1, none⟩ (.bool (old || s2))) w.heap.size km (.slice (some ⟨g, 0, none⟩) k oc) ((s1, s2) :: K) O' ∧ w4.heap[wr.heap.size]? = some (.cells #[.int .i64 (s1 : Int), .bool s2] 77)) := ⟨hM4, hbx4⟩
          have HB4 := Hid.out (p := Hid _) hb4
          clear hold hM4 hbx4 hm4 hg4 HMAP2 HT1 HHAS HMAP HM2 hb4 c0 c1 c0u c1u t2
          obtain ⟨cb, co, rfl, y0, y1, y2, y3⟩ := HORD.out s1 hslt
          have hcbl : cb < w.heap.size := lt_of_cell y0
          have hb4 : Below w.heap.size w w4 := HB4.out
          have v0 := (hb4.cell (p := ⟨cb, co + s1 * 4, none⟩) hcbl).trans y0
          have v1 := (hb4.cell (p := ⟨cb, co + s1 * 4 + 1, none⟩) hcbl).trans y1
          have v2 := (hb4.cell (p := ⟨cb, co + s1 * 4 + 2, none⟩) hcbl).trans y2
          have v3 := (hb4.cell (p := ⟨cb, co + s1 * 4 + 3, none⟩) hcbl).trans y3
          have n1 : cb ≠ w.heap.size := by omega
          have n2 : w.heap.size ≠ cb := by omega
          have n3 : w.heap.size ≠ wr.heap.size := fun e => hwne e.symm
          obtain ⟨op, hop⟩ : ∃ x, X s1 0 = x := ⟨_, rfl⟩
          obtain ⟨oA, hoA⟩ : ∃ x, X s1 1 = x := ⟨_, rfl⟩
          obtain ⟨oB, hoB⟩ : ∃ x, X s1 2 = x := ⟨_, rfl⟩
          obtain ⟨oC, hoC⟩ : ∃ x, X s1 3 = x := ⟨_, rfl⟩
          have HX : Hid (X s1 0 = op ∧ X s1 1 = oA ∧ X s1 2 = oB ∧ X s1 3 = oC) := ⟨hop, hoA, hoB, hoC⟩
          rw [hop] at v0; rw [hoA] at v1; rw [hoB] at v2; rw [hoC] at v3
          clear hop hoA hoB hoC y0 y1 y2 y3 hb4
          have hwrl : wr.heap.size < w4.heap.size := lt_of_cell x0
          have HNX : Hid ((op = 14 → 0 ≤ oA) ∧ (op = 15 → 0 ≤ oB) ∧ (∀ j, j ∈ nextO op oA oB s1 → j ≤ l) ∧ nextS X (s1, s2) = (nextO op oA oB s1).map fun j => (j, wbO op s2)) := by
            have h := HOK.out s1 hslt
            have hw := HI.out.2.2.1.way (s1, s2) (Or.inr (by simp))
            rw [HX.out.1, HX.out.2.1, HX.out.2.2.1, HX.out.2.2.2] at h
            refine ⟨fun e => ?_, fun e => ?_, fun j hj => ?_, ?_⟩
            · rw [e] at h; exact (ok_jump h).1
            · rw [e] at h; exact (ok_zero h).2.1
            · exact way_le HOK.out (hw.step hslt (by rw [HX.out.1, HX.out.2.1, HX.out.2.2.1]; exact hj))
            · unfold nextS
              simp only
              rw [HX.out.1, HX.out.2.1, HX.out.2.2.1]
          cases old
          · have HM5 : Hid (MwM w l (w4.setCell ⟨w.heap.size, s1, none⟩ (.bool s2)) w.heap.size km (.slice (some ⟨g, 0, none⟩) k oc) ((s1, s2) :: K) O') := by have := HM4.out.1; rw [show (false || s2) = s2 by simp] at this; exact this
            go_wp2
            refine region_tail 13 (by kernel_rfl) (by kernel_rfl) ?_
            simp only [List.take_succ_cons, List.take_zero, List.drop_succ_cons, List.drop_zero]
            repeat still_step
            refine wpStill_nil ?_
            go_wp2_with fail
            obtain ⟨W5, hW5⟩ : ∃ V, ((w4.setCell ⟨w.heap.size, s1, none⟩ (.bool s2)).alloc (.cells #[.int .i64 op, .int .i64 oA, .int .i64 oB, .int .i64 oC] 52)).drew = V := ⟨_, rfl⟩
            rw [hW5]
            have h5 : Below (w4.setCell ⟨w.heap.size, s1, none⟩ (.bool s2)).heap.size (w4.setCell ⟨w.heap.size, s1, none⟩ (.bool s2)) W5 := by rw [← hW5]; exact ((Below.refl _ _).alloc (Nat.le_refl _) _).drew
            have hz5 : w4.heap.size < W5.heap.size := by rw [← hW5]; show w4.heap.size < (World.alloc _ _).heap.size; simp
            have hs5 : W5.heap[wr.heap.size]? = some (.cells #[.int .i64 (s1 : Int), .bool s2] 77) := by
              rw [h5.block _ (by simpa using hwrl), Below.heap_setCell _ _ _ _ (fun e => hwne (by simpa using e))]
              exact HM4.out.2
            have ho5 : W5.heap[w4.heap.size]? = some (.cells #[.int .i64 op, .int .i64 oA, .int .i64 oB, .int .i64 oC] 52) := by
              rw [← hW5, show ∀ Z : World, Z.drew.heap = Z.heap from fun _ => rfl]
              have := heap_alloc_new (w4.setCell ⟨w.heap.size, s1, none⟩ (.bool s2)) (.cells #[.int .i64 op, .int .i64 oA, .int .i64 oB, .int .i64 oC] 52)
              simpa using this
            have H5 : Hid (MwM w l W5 w.heap.size km (.slice (some ⟨g, 0, none⟩) k oc) ((s1, s2) :: K) O' ∧ W5.heap[wr.heap.size]? = some (.cells #[.int .i64 (s1 : Int), .bool s2] 77) ∧ W5.heap[w4.heap.size]? = some (.cells #[.int .i64 op, .int .i64 oA, .int .i64 oB, .int .i64 oC] 52)) := ⟨HM5.out.below h5, hs5, ho5⟩
            clear hW5 h5 hs5 ho5 HM5 HM4 v0 v1 v2 v3 z0 z1 x0 x1
            refine Calls.mono (next_any W5 op oA oB oC s1 HNX.out.1 HNX.out.2.1 (by omega)) ?_
            rintro e w6 ⟨g6, cap6, rfl, hs6, hb6, hg6⟩
            obtain ⟨nl, hnl⟩ : ∃ x, (nextO op oA oB s1).length = x := ⟨_, rfl⟩
            have HNL : Hid ((nextO op oA oB s1).length = nl) := hnl
            rw [hnl]
            have H6 : Hid (MwM w l w6 w.heap.size km (.slice (some ⟨g, 0, none⟩) k oc) ((s1, s2) :: K) O' ∧ w6.heap[wr.heap.size]? = some (.cells #[.int .i64 (s1 : Int), .bool s2] 77) ∧ w6.heap[w4.heap.size]? = some (.cells #[.int .i64 op, .int .i64 oA, .int .i64 oB, .int .i64 oC] 52) ∧ SIs w6 (some ⟨g6, 0, none⟩) ((nextO op oA oB s1).map fun (j : Nat) => (j : Int))) := ⟨H5.out.1.below hb6, (hb6.block _ (box_lt H5.out.2.1)).trans H5.out.2.1, (hb6.block _ hz5).trans H5.out.2.2, hs6⟩
            have hnl2 : nl ≤ 2 := by have := next_len X (s1, s2); rw [HNX.out.2.2.2, List.length_map, hnl] at this; exact this
            have hne0 : g ≠ wr.heap.size ∧ g ≠ w4.heap.size ∧ g ≠ g6 := by omega
            clear hnl hs6 hb6 H5
            go_wp2_with fail
            obtain ⟨wq, rfl⟩ : ∃ V, V = wr := ⟨_, rfl⟩
            go_loopw [5, 72] (fun ov iv wi => ∃ (j : Nat) (oa2 : Option Addr) (ol2 oc2 : Nat), j ≤ nl ∧ iv = .int .i64 j ∧ ov = .slice oa2 ol2 oc2 ∧ ol2 = k + j ∧ Hid (MwM w l wi w.heap.size km (.slice oa2 ol2 oc2) ((s1, s2) :: K) (O' ++ (nextS X (s1, s2)).take j) ∧ wi.heap[wq.heap.size]? = some (.cells #[.int .i64 (s1 : Int), .bool s2] 77) ∧ wi.heap[w4.heap.size]? = some (.cells #[.int .i64 op, .int .i64 oA, .int .i64 oB, .int .i64 oC] 52) ∧ SIs wi (some ⟨g6, 0, none⟩) ((nextO op oA oB s1).map fun (j : Nat) => (j : Int)) ∧ ∀ q, (Value.slice oa2 ol2 oc2).ownBlock = some q → q ≠ wq.heap.size ∧ q ≠ w4.heap.size ∧ q ≠ g6)) (fun _ iv _ => nl - (intOf iv).toNat)
            case atStart => exact ⟨0, _, k, oc, Nat.zero_le _, rfl, rfl, rfl, by simpa using H6.out.1, H6.out.2.1, H6.out.2.2.1, H6.out.2.2.2, fun q hq => (by have : g = q := (by simpa [Value.ownBlock] using hq); rw [← this]; exact hne0)⟩
            case round =>
              obtain ⟨j, oa2, ol2, oc2, hj, rfl, rfl, rfl, HJ⟩ := hrel
              by_cases hjl : j < nl
              · obtain ⟨b6, o6, e6, hc6⟩ := HJ.out.2.2.2.1 j (by rw [List.length_map, HNL.out]; exact hjl)
                simp only [Option.some.injEq, Addr.mk.injEq, and_true] at e6
                obtain ⟨rfl, rfl⟩ := e6
                obtain ⟨nx, hnx⟩ : ∃ x, (nextO op oA oB s1).getD j 0 = x := ⟨_, rfl⟩
                have hjn : j < (nextO op oA oB s1).length := by rw [HNL.out]; exact hjl
                have e7 : ((nextO op oA oB s1).map fun (j : Nat) => (j : Int)).getD j 0 = (nx : Int) := by
                  rw [← hnx]
                  simp [List.getD, hjn]
                rw [e7, Nat.zero_add] at hc6
                have q0 := box_cell (i := 0) HJ.out.2.1 rfl
                have q1 := box_cell (i := 1) HJ.out.2.1 rfl
                have r0 := box_cell (i := 0) HJ.out.2.2.1 rfl
                have htk : ((nextS X (s1, s2)).take j).length = j := by rw [List.length_take, HNX.out.2.2.2, List.length_map]; omega
                have hOl : (O' ++ (nextS X (s1, s2)).take j).length = k + j := by rw [List.length_append, htk, ← HM1.out.2]
                obtain ⟨g8, cap8, w8, hrun8, hM8, hg8, hat8⟩ := HJ.out.1.push (Below.refl _ _) (nx, wbO op s2) (by rw [hOl]; omega)
                rw [hOl] at hrun8 hM8
                simp only at hrun8
                have hbA : ∀ o, Below wr.heap.size wr (wr.alloc o) := fun o => (Below.refl _ _).alloc (Nat.le_refl _) _
                have hkeep : ∀ q, q < wr.heap.size → (Value.slice oa2 (k + j) oc2).ownBlock ≠ some q → w8.heap[q]? = wr.heap[q]? := fun q hq hne => by
                  rw [grown_block hg8 (by simp; omega) hne]
                  exact (hbA _).block q hq
                have hne : ∀ q, q = wq.heap.size ∨ q = w4.heap.size ∨ q = g6 → (Value.slice oa2 (k + j) oc2).ownBlock ≠ some q := fun q hq e => by
                  have := HJ.out.2.2.2.2 q e
                  omega
                have hl1 := box_lt HJ.out.2.1
                have hl2 := box_lt HJ.out.2.2.1
                have hl3 : g6 < wr.heap.size := lt_of_cell hc6
                have HR8 : Hid (MwM w l w8 w.heap.size km (.slice (some ⟨g8, 0, none⟩) (k + j + 1) cap8) ((s1, s2) :: K) (O' ++ (nextS X (s1, s2)).take (j + 1)) ∧ w8.heap[wq.heap.size]? = some (.cells #[.int .i64 (s1 : Int), .bool s2] 77) ∧ w8.heap[w4.heap.size]? = some (.cells #[.int .i64 op, .int .i64 oA, .int .i64 oB, .int .i64 oC] 52) ∧ SIs w8 (some ⟨g6, 0, none⟩) ((nextO op oA oB s1).map fun (j : Nat) => (j : Int)) ∧ ∀ q, (Value.slice (some ⟨g8, 0, none⟩) (k + j + 1) cap8).ownBlock = some q → q ≠ wq.heap.size ∧ q ≠ w4.heap.size ∧ q ≠ g6) := by
                  refine ⟨?_, (hkeep _ hl1 (hne _ (Or.inl rfl))).trans HJ.out.2.1, (hkeep _ hl2 (hne _ (Or.inr (Or.inl rfl)))).trans HJ.out.2.2.1, fun i hi => ?_, fun q hq => ?_⟩
                  · have e8 : (nextS X (s1, s2)).take (j + 1) = (nextS X (s1, s2)).take j ++ [(nx, wbO op s2)] := by
                      rw [List.take_add_one, HNX.out.2.2.2, List.getElem?_map, List.getElem?_eq_getElem hjn, ← hnx]
                      simp [List.getD, hjn]
                    rw [e8, ← List.append_assoc]
                    exact hM8
                  · obtain ⟨b7, o7, e9, hc7⟩ := HJ.out.2.2.2.1 i hi
                    simp only [Option.some.injEq, Addr.mk.injEq, and_true] at e9
                    obtain ⟨rfl, rfl⟩ := e9
                    exact ⟨_, _, rfl, (World.cell?_of_block (hkeep _ hl3 (hne _ (Or.inr (Or.inr rfl))))).trans hc7⟩
                  · have eq : g8 = q := by simpa [Value.ownBlock] using hq
                    rw [← eq]
                    rcases hat8 with h | h
                    · exact HJ.out.2.2.2.2 g8 h
                    · omega
                have hcap6 := HNL.out
                clear hM8 hg8 hat8 hkeep hne hbA htk hOl e7
                go_wp2_with fail
                refine Calls.mono (behind_any _ op s2) ?_
                rintro e w9 ⟨rfl, rfl⟩
                go_wp2_with fail
                go_roundw
                case rel => exact ⟨j + 1, _, _, _, by omega, by go_num, rfl, by omega, HR8⟩
                case measure => simp [intOf]; omega
              · have HR : Hid (MwM w l wr w.heap.size km (.slice oa2 (k + j) oc2) ((s1, s2) :: K) (O' ++ nextS X (s1, s2)) ∧ MwP l X ((s1, s2) :: K) (O' ++ nextS X (s1, s2)) ∧ k + j = (O' ++ nextS X (s1, s2)).length ∧ 3 * (2 * l - ((s1, s2) :: K).length) + (O' ++ nextS X (s1, s2)).length < gk) := by
                  have e1 : (nextS X (s1, s2)).take j = nextS X (s1, s2) := List.take_of_length_le (by rw [HNX.out.2.2.2, List.length_map, HNL.out]; omega)
                  have hM := HJ.out.1
                  rw [e1] at hM
                  have hP : MwP l X ((s1, s2) :: K) (O' ++ nextS X (s1, s2)) := HI.out.2.2.1.more HNK.out hslt (fun q hq => HNX.out.2.2.1 q (by simp only at hq; rw [HX.out.1, HX.out.2.1, HX.out.2.2.1] at hq; exact hq))
                  refine ⟨hM, hP, ?_, ?_⟩
                  · rw [List.length_append, HNX.out.2.2.2, List.length_map, HNL.out, ← HM1.out.2]; omega
                  · have h1 := hP.len
                    have h2 := next_len X (s1, s2)
                    have h3 := HGK.out.1
                    rw [List.length_append]
                    simp only [List.length_cons] at h1 ⊢
                    omega
                go_wp2
                go_roundg (3 * (2 * l - ((s1, s2) :: K).length) + (O' ++ nextS X (s1, s2)).length)
                case rel => exact ⟨_, _, _, _, _, rfl, by have := HR.out.2.2.1; have := HR.out.2.2.2; have := HGK.out.2; omega, HR.out.2.2.1, HR.out.1, HR.out.2.1, rfl, by have := HR.out.2.2.2; have := HGK.out.2; omega⟩
                case measure => exact HR.out.2.2.2
          · have HM5 : Hid (MwM w l (w4.setCell ⟨w.heap.size, s1, none⟩ (.bool true)) w.heap.size km (.slice (some ⟨g, 0, none⟩) k oc) ((s1, s2) :: K) O') := by have := HM4.out.1; rw [show (true || s2) = true by simp] at this; exact this
            go_wp2
            refine region_tail 13 (by kernel_rfl) (by kernel_rfl) ?_
            simp only [List.take_succ_cons, List.take_zero, List.drop_succ_cons, List.drop_zero]
            repeat still_step
            refine wpStill_nil ?_
            go_wp2_with fail
            obtain ⟨W5, hW5⟩ : ∃ V, ((w4.setCell ⟨w.heap.size, s1, none⟩ (.bool true)).alloc (.cells #[.int .i64 op, .int .i64 oA, .int .i64 oB, .int .i64 oC] 52)).drew = V := ⟨_, rfl⟩
            rw [hW5]
            have h5 : Below (w4.setCell ⟨w.heap.size, s1, none⟩ (.bool true)).heap.size (w4.setCell ⟨w.heap.size, s1, none⟩ (.bool true)) W5 := by rw [← hW5]; exact ((Below.refl _ _).alloc (Nat.le_refl _) _).drew
            have hz5 : w4.heap.size < W5.heap.size := by rw [← hW5]; show w4.heap.size < (World.alloc _ _).heap.size; simp
            have hs5 : W5.heap[wr.heap.size]? = some (.cells #[.int .i64 (s1 : Int), .bool s2] 77) := by
              rw [h5.block _ (by simpa using hwrl), Below.heap_setCell _ _ _ _ (fun e => hwne (by simpa using e))]
              exact HM4.out.2
            have ho5 : W5.heap[w4.heap.size]? = some (.cells #[.int .i64 op, .int .i64 oA, .int .i64 oB, .int .i64 oC] 52) := by
              rw [← hW5, show ∀ Z : World, Z.drew.heap = Z.heap from fun _ => rfl]
              have := heap_alloc_new (w4.setCell ⟨w.heap.size, s1, none⟩ (.bool true)) (.cells #[.int .i64 op, .int .i64 oA, .int .i64 oB, .int .i64 oC] 52)
              simpa using this
            have H5 : Hid (MwM w l W5 w.heap.size km (.slice (some ⟨g, 0, none⟩) k oc) ((s1, s2) :: K) O' ∧ W5.heap[wr.heap.size]? = some (.cells #[.int .i64 (s1 : Int), .bool s2] 77) ∧ W5.heap[w4.heap.size]? = some (.cells #[.int .i64 op, .int .i64 oA, .int .i64 oB, .int .i64 oC] 52)) := ⟨HM5.out.below h5, hs5, ho5⟩
            clear hW5 h5 hs5 ho5 HM5 HM4 v0 v1 v2 v3 z0 z1 x0 x1
            refine Calls.mono (next_any W5 op oA oB oC s1 HNX.out.1 HNX.out.2.1 (by omega)) ?_
            rintro e w6 ⟨g6, cap6, rfl, hs6, hb6, hg6⟩
            obtain ⟨nl, hnl⟩ : ∃ x, (nextO op oA oB s1).length = x := ⟨_, rfl⟩
            have HNL : Hid ((nextO op oA oB s1).length = nl) := hnl
            rw [hnl]
            have H6 : Hid (MwM w l w6 w.heap.size km (.slice (some ⟨g, 0, none⟩) k oc) ((s1, s2) :: K) O' ∧ w6.heap[wr.heap.size]? = some (.cells #[.int .i64 (s1 : Int), .bool s2] 77) ∧ w6.heap[w4.heap.size]? = some (.cells #[.int .i64 op, .int .i64 oA, .int .i64 oB, .int .i64 oC] 52) ∧ SIs w6 (some ⟨g6, 0, none⟩) ((nextO op oA oB s1).map fun (j : Nat) => (j : Int))) := ⟨H5.out.1.below hb6, (hb6.block _ (box_lt H5.out.2.1)).trans H5.out.2.1, (hb6.block _ hz5).trans H5.out.2.2, hs6⟩
            have hnl2 : nl ≤ 2 := by have := next_len X (s1, s2); rw [HNX.out.2.2.2, List.length_map, hnl] at this; exact this
            have hne0 : g ≠ wr.heap.size ∧ g ≠ w4.heap.size ∧ g ≠ g6 := by omega
            clear hnl hs6 hb6 H5
            go_wp2_with fail
            obtain ⟨wq, rfl⟩ : ∃ V, V = wr := ⟨_, rfl⟩
            go_loopw [5, 72] (fun ov iv wi => ∃ (j : Nat) (oa2 : Option Addr) (ol2 oc2 : Nat), j ≤ nl ∧ iv = .int .i64 j ∧ ov = .slice oa2 ol2 oc2 ∧ ol2 = k + j ∧ Hid (MwM w l wi w.heap.size km (.slice oa2 ol2 oc2) ((s1, s2) :: K) (O' ++ (nextS X (s1, s2)).take j) ∧ wi.heap[wq.heap.size]? = some (.cells #[.int .i64 (s1 : Int), .bool s2] 77) ∧ wi.heap[w4.heap.size]? = some (.cells #[.int .i64 op, .int .i64 oA, .int .i64 oB, .int .i64 oC] 52) ∧ SIs wi (some ⟨g6, 0, none⟩) ((nextO op oA oB s1).map fun (j : Nat) => (j : Int)) ∧ ∀ q, (Value.slice oa2 ol2 oc2).ownBlock = some q → q ≠ wq.heap.size ∧ q ≠ w4.heap.size ∧ q ≠ g6)) (fun _ iv _ => nl - (intOf iv).toNat)
            case atStart => exact ⟨0, _, k, oc, Nat.zero_le _, rfl, rfl, rfl, by simpa using H6.out.1, H6.out.2.1, H6.out.2.2.1, H6.out.2.2.2, fun q hq => (by have : g = q := (by simpa [Value.ownBlock] using hq); rw [← this]; exact hne0)⟩
            case round =>
              obtain ⟨j, oa2, ol2, oc2, hj, rfl, rfl, rfl, HJ⟩ := hrel
              by_cases hjl : j < nl
              · obtain ⟨b6, o6, e6, hc6⟩ := HJ.out.2.2.2.1 j (by rw [List.length_map, HNL.out]; exact hjl)
                simp only [Option.some.injEq, Addr.mk.injEq, and_true] at e6
                obtain ⟨rfl, rfl⟩ := e6
                obtain ⟨nx, hnx⟩ : ∃ x, (nextO op oA oB s1).getD j 0 = x := ⟨_, rfl⟩
                have hjn : j < (nextO op oA oB s1).length := by rw [HNL.out]; exact hjl
                have e7 : ((nextO op oA oB s1).map fun (j : Nat) => (j : Int)).getD j 0 = (nx : Int) := by
                  rw [← hnx]
                  simp [List.getD, hjn]
                rw [e7, Nat.zero_add] at hc6
                have q0 := box_cell (i := 0) HJ.out.2.1 rfl
                have q1 := box_cell (i := 1) HJ.out.2.1 rfl
                have r0 := box_cell (i := 0) HJ.out.2.2.1 rfl
                have htk : ((nextS X (s1, s2)).take j).length = j := by rw [List.length_take, HNX.out.2.2.2, List.length_map]; omega
                have hOl : (O' ++ (nextS X (s1, s2)).take j).length = k + j := by rw [List.length_append, htk, ← HM1.out.2]
                obtain ⟨g8, cap8, w8, hrun8, hM8, hg8, hat8⟩ := HJ.out.1.push (Below.refl _ _) (nx, wbO op s2) (by rw [hOl]; omega)
                rw [hOl] at hrun8 hM8
                simp only at hrun8
                have hbA : ∀ o, Below wr.heap.size wr (wr.alloc o) := fun o => (Below.refl _ _).alloc (Nat.le_refl _) _
                have hkeep : ∀ q, q < wr.heap.size → (Value.slice oa2 (k + j) oc2).ownBlock ≠ some q → w8.heap[q]? = wr.heap[q]? := fun q hq hne => by
                  rw [grown_block hg8 (by simp; omega) hne]
                  exact (hbA _).block q hq
                have hne : ∀ q, q = wq.heap.size ∨ q = w4.heap.size ∨ q = g6 → (Value.slice oa2 (k + j) oc2).ownBlock ≠ some q := fun q hq e => by
                  have := HJ.out.2.2.2.2 q e
                  omega
                have hl1 := box_lt HJ.out.2.1
                have hl2 := box_lt HJ.out.2.2.1
                have hl3 : g6 < wr.heap.size := lt_of_cell hc6
                have HR8 : Hid (MwM w l w8 w.heap.size km (.slice (some ⟨g8, 0, none⟩) (k + j + 1) cap8) ((s1, s2) :: K) (O' ++ (nextS X (s1, s2)).take (j + 1)) ∧ w8.heap[wq.heap.size]? = some (.cells #[.int .i64 (s1 : Int), .bool s2] 77) ∧ w8.heap[w4.heap.size]? = some (.cells #[.int .i64 op, .int .i64 oA, .int .i64 oB, .int .i64 oC] 52) ∧ SIs w8 (some ⟨g6, 0, none⟩) ((nextO op oA oB s1).map fun (j : Nat) => (j : Int)) ∧ ∀ q, (Value.slice (some ⟨g8, 0, none⟩) (k + j + 1) cap8).ownBlock = some q → q ≠ wq.heap.size ∧ q ≠ w4.heap.size ∧ q ≠ g6) := by
                  refine ⟨?_, (hkeep _ hl1 (hne _ (Or.inl rfl))).trans HJ.out.2.1, (hkeep _ hl2 (hne _ (Or.inr (Or.inl rfl)))).trans HJ.out.2.2.1, fun i hi => ?_, fun q hq => ?_⟩
                  · have e8 : (nextS X (s1, s2)).take (j + 1) = (nextS X (s1, s2)).take j ++ [(nx, wbO op s2)] := by
                      rw [List.take_add_one, HNX.out.2.2.2, List.getElem?_map, List.getElem?_eq_getElem hjn, ← hnx]
                      simp [List.getD, hjn]
                    rw [e8, ← List.append_assoc]
                    exact hM8
                  · obtain ⟨b7, o7, e9, hc7⟩ := HJ.out.2.2.2.1 i hi
                    simp only [Option.some.injEq, Addr.mk.injEq, and_true] at e9
                    obtain ⟨rfl, rfl⟩ := e9
                    exact ⟨_, _, rfl, (World.cell?_of_block (hkeep _ hl3 (hne _ (Or.inr (Or.inr rfl))))).trans hc7⟩
                  · have eq : g8 = q := by simpa [Value.ownBlock] using hq
                    rw [← eq]
                    rcases hat8 with h | h
                    · exact HJ.out.2.2.2.2 g8 h
                    · omega
                have hcap6 := HNL.out
                clear hM8 hg8 hat8 hkeep hne hbA htk hOl e7
                go_wp2_with fail
                refine Calls.mono (behind_any _ op s2) ?_
                rintro e w9 ⟨rfl, rfl⟩
                go_wp2_with fail
                go_roundw
                case rel => exact ⟨j + 1, _, _, _, by omega, by go_num, rfl, by omega, HR8⟩
                case measure => simp [intOf]; omega
              · have HR : Hid (MwM w l wr w.heap.size km (.slice oa2 (k + j) oc2) ((s1, s2) :: K) (O' ++ nextS X (s1, s2)) ∧ MwP l X ((s1, s2) :: K) (O' ++ nextS X (s1, s2)) ∧ k + j = (O' ++ nextS X (s1, s2)).length ∧ 3 * (2 * l - ((s1, s2) :: K).length) + (O' ++ nextS X (s1, s2)).length < gk) := by
                  have e1 : (nextS X (s1, s2)).take j = nextS X (s1, s2) := List.take_of_length_le (by rw [HNX.out.2.2.2, List.length_map, HNL.out]; omega)
                  have hM := HJ.out.1
                  rw [e1] at hM
                  have hP : MwP l X ((s1, s2) :: K) (O' ++ nextS X (s1, s2)) := HI.out.2.2.1.more HNK.out hslt (fun q hq => HNX.out.2.2.1 q (by simp only at hq; rw [HX.out.1, HX.out.2.1, HX.out.2.2.1] at hq; exact hq))
                  refine ⟨hM, hP, ?_, ?_⟩
                  · rw [List.length_append, HNX.out.2.2.2, List.length_map, HNL.out, ← HM1.out.2]; omega
                  · have h1 := hP.len
                    have h2 := next_len X (s1, s2)
                    have h3 := HGK.out.1
                    rw [List.length_append]
                    simp only [List.length_cons] at h1 ⊢
                    omega
                go_wp2
                go_roundg (3 * (2 * l - ((s1, s2) :: K).length) + (O' ++ nextS X (s1, s2)).length)
                case rel => exact ⟨_, _, _, _, _, rfl, by have := HR.out.2.2.1; have := HR.out.2.2.2; have := HGK.out.2; omega, HR.out.2.2.1, HR.out.1, HR.out.2.1, rfl, by have := HR.out.2.2.2; have := HGK.out.2; omega⟩
                case measure => exact HR.out.2.2.2

end Go.Proofs.Ytgofbkgfonlceac
