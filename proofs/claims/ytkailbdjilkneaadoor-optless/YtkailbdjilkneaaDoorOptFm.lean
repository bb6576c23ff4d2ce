/-
  What always is a number, by the program: the least solution.
-/
import Derived.Test.YtkailbdjilkneaaDoorOptFl
namespace Go.Proofs.YtkailbdjilkneaaDoor
open Go.RowKit

attribute [local go_sem ↓] appS_eq in
set_option maxRecDepth 100000 in
set_option maxHeartbeats 1600000 in
theorem follow_any (w : World) (l cc rg m lk : Nat) (ca : Option Addr) (X : Nat → Nat → Int) (hl : l ≤ 1000) (hrg0 : 0 < rg) (hrg : rg ≤ 200) (hord : ∀ i, i < l → OrdAt w ca i (X i 0) (X i 1) (X i 2) (X i 3)) (hok : ∀ i, i < l → ordE rg m lk l (X i 0) (X i 1) (X i 2) (X i 3) = 0) :
    Calls Tryd.prog 29 #[.slice ca l cc, .int .i64 (rg : Int)] w fun e w' => ∃ fb ga ac MB ov E, e = .returned (.pointer (some ⟨fb, 0, none⟩)) ∧ FlV w w' fb ga ac l cc rg ca MB ov E [] ∧ LsV X l rg E := by
  have HOK := Hid.out (p := Hid _) (And.intro hord hok)
  have hB0 : FlB w (w.alloc (.cells #[.slice ca l cc, .int .i64 (rg : Int), nilV, nilV] 109)) w.heap.size l cc rg 0 ca (fun _ => 0) nilV := ⟨low1 _ _, ⟨Nat.le_refl _, fun i h => absurd h (Nat.not_lt_zero i)⟩, heap_alloc_new _ _, World.ownsRow_nil _ _ _ _, fun i h => absurd h (Nat.not_lt_zero i), fun i j h => absurd h (Nat.not_lt_zero i)⟩
  obtain ⟨fb, hfb⟩ : ∃ q, w.heap.size = q := ⟨_, rfl⟩
  obtain ⟨W0, hW0⟩ : ∃ V, w.alloc (.cells #[.slice ca l cc, .int .i64 (rg : Int), nilV, nilV] 109) = V := ⟨_, rfl⟩
  have HFB := Hid.out (p := Hid _) hfb
  have HW0 := Hid.out (p := Hid _) hW0
  have HB0' : FlB w W0 fb l cc rg 0 ca (fun _ => 0) nilV := by rw [← hfb, ← hW0]; exact hB0
  have HB0 := Hid.out (p := Hid _) HB0'
  clear hord hok hB0 hfb hW0 HB0'
  go_enter Tryd.func29, Tryd.ntmps29
  go_wp2_with fail
  rw [HW0.out, HFB.out]
  as_aux_lemma =>
    go_loopw [16] (fun xv wr => ∃ (k : Nat) (MB : Nat → Nat) (va : Option Addr) (vc : Nat), k ≤ l + 1 ∧ xv = .int .i64 k ∧ Hid (FlB w wr fb l cc rg k ca MB (.slice va k vc))) (fun xv _ => l + 1 - (intOf xv).toNat)
    case atStart => exact ⟨0, _, none, 0, Nat.zero_le _, rfl, HB0.out⟩
    case round =>
      obtain ⟨k, MB, va, vc, hk, rfl, HI⟩ := hrel
      clear HB0
      by_cases hlt : k < l + 1
      · as_aux_lemma =>
          have hkI : (k : Int) < (l : Int) + 1 := by omega
          have c2 : wr.cell? ⟨fb, 2, none⟩ = some (.slice va k vc) := box_cell HI.out.box rfl
          obtain ⟨g, cap, w3, r3, hb3, h3⟩ := HI.out.push (by omega)
          have e2 : w3.cell? ⟨fb, 2, none⟩ = some (.slice va k vc) := box_cell (hb3.trans HI.out.box) rfl
          have ef : w3.frozen? ⟨fb, 2, none⟩ = false := box_free (hb3.trans HI.out.box)
          have HN := Hid.out (p := Hid _) h3
          have hmm := @run_makeMap Tryd.prog
          have c2u := fun o => cell_up c2 o
          have c2v := fun o o' => cell_up (cell_up c2 o) o'
          clear h3 hb3
          go_wp2
          go_roundw
          case rel => exact ⟨k + 1, _, _, _, by omega, by go_num, HN.out⟩
          case measure => simp [intOf]; omega
      · obtain rfl : k = l + 1 := by omega
        obtain ⟨ga, ac, hva, hF⟩ := HI.out.done hl hrg
        have HF0 : Hid (FlV w wr fb ga ac l cc rg ca MB nilV (fun _ _ => .no) [] ∧ WkV X l rg 0 (fun _ _ => .no) [] (fun _ _ _ => False)) := ⟨hF, wkV_start⟩
        have hkI : ¬ ((l + 1 : Nat) : Int) < (l : Int) + 1 := by omega
        clear hva hF HI
        as_aux_lemma =>
          go_wp2_with fail
          go_loopw [30] (fun xv wi => ∃ (r : Nat) (oa : Option Addr) (oc : Nat) (E : Nat → Nat → Vl) (O : List (Nat × Nat)), r ≤ rg ∧ xv = .int .i64 r ∧ Hid (FlV w wi fb ga ac l cc rg ca MB (.slice oa O.length oc) E O ∧ WkV X l rg r E O (fun _ _ _ => False))) (fun xv _ => rg - (intOf xv).toNat)
          case atStart => exact ⟨0, none, 0, _, [], Nat.zero_le _, rfl, HF0.out⟩
          case round =>
            obtain ⟨r, oa, oc, E, O, hr, rfl, HL⟩ := hrel
            clear HF0
            by_cases hlt : r < rg
            · as_aux_lemma =>
                have hrI : (r : Int) < (rg : Int) := by omega
                have HAL : Hid (∀ V, Below wr.heap.size wr V → Calls Tryd.prog 60 #[.int .i64 0] V fun e w' => e = .returned (.agg #[.int .i64 1, .int .i64 0]) ∧ Hid (Below wr.heap.size wr w')) := fun V hV => (always_any 0 V).mono fun e w' ⟨h1, h2⟩ => ⟨h1, hV.trans (h2.mono hV.size)⟩
                have HM : Hid (∀ V, Below wr.heap.size wr V → Calls Tryd.prog 59 #[.pointer (some ⟨fb, 0, none⟩), .agg #[.int .i64 0, .int .i64 (r : Int)], .agg #[.int .i64 1, .int .i64 0]] V fun e w' => ∃ ov2, e = .returned (.tuple #[]) ∧ Hid (FlV w w' fb ga ac l cc rg ca MB ov2 (updE E 0 r ((E 0 r).meet (.num 0))) (newO E 0 r (.num 0) O))) := fun V hV => (fmeet_any w V fb ga ac l cc rg ca MB (.slice oa O.length oc) E O (HL.out.1.below hV) 0 r (Nat.zero_le _) hlt hrg (.num 0)).mono fun e w' ⟨ov2, h1, h2, _⟩ => ⟨ov2, h1, h2⟩
                go_wp2_with fail
                refine Calls.mono (HAL.out _ (Below.refl _ _)) ?_
                rintro e w4 ⟨rfl, H4⟩
                go_wp2_with fail
                refine Calls.mono (HM.out _ H4.out) ?_
                rintro e w5 ⟨ov2, rfl, H5⟩
                obtain ⟨oa2, oc2, rfl⟩ := fam_form H5.out.op
                have HN : Hid (FlV w w5 fb ga ac l cc rg ca MB (.slice oa2 (newO E 0 r (.num 0) O).length oc2) (updE E 0 r ((E 0 r).meet (.num 0))) (newO E 0 r (.num 0) O) ∧ WkV X l rg (r + 1) (updE E 0 r ((E 0 r).meet (.num 0))) (newO E 0 r (.num 0) O) (fun _ _ _ => False)) := ⟨H5.out, HL.out.2.first hlt⟩
                clear H5 HM HAL H4
                go_wp2_with fail
                go_roundw
                case rel => exact ⟨r + 1, _, _, _, _, by omega, by go_num, HN.out⟩
                case measure => simp [intOf]; omega
            · obtain rfl : r = rg := by omega
              have hrI : ¬ (r : Int) < (r : Int) := by omega
              as_aux_lemma =>
                go_wp2_with fail
                obtain ⟨M0, hM0⟩ : ∃ M, M = O.length + meas l r E := ⟨_, rfl⟩
                have HL1 : Hid (FlV w wr fb ga ac l cc r ca MB (.slice oa O.length oc) E O ∧ WkV X l r r E O (fun _ _ _ => False) ∧ M0 = O.length + meas l r E) := ⟨HL.out.1, HL.out.2, hM0⟩
                clear HL hM0
                go_loopg [43] M0 (fun gk xv wi => ∃ (oa : Option Addr) (oc : Nat) (E : Nat → Nat → Vl) (O : List (Nat × Nat)), xv = xv ∧ Hid (FlV w wi fb ga ac l cc r ca MB (.slice oa O.length oc) E O ∧ WkV X l r r E O (fun _ _ _ => False) ∧ gk = O.length + meas l r E))
                case atStart => exact ⟨_, _, E, O, rfl, HL1.out⟩
                case round =>
                  obtain ⟨oa, oc, E, O, -, HI⟩ := hrel
                  clear HL1
                  rcases List.eq_nil_or_concat O with rfl | ⟨O1, ⟨a, s⟩, rfl⟩
                  · as_aux_lemma =>
                      have c3 : wr.cell? ⟨fb, 3, none⟩ = some (.slice oa 0 oc) := box_cell HI.out.1.box rfl
                      go_wp2_with fail
                      refine bodyPost_ret (v := .pointer (some ⟨fb, 0, none⟩)) (by simp [results, Tryd.results29, go_sem]) rfl ⟨fb, rfl, ga, ac, MB, _, E, HI.out.1, HI.out.2.1.done⟩
                  · as_aux_lemma =>
                      have HI2 : Hid (FlV w wr fb ga ac l cc r ca MB (.slice oa (O1.length + 1) oc) E (O1 ++ [(a, s)]) ∧ WkV X l r r E (O1 ++ [(a, s)]) (fun _ _ _ => False) ∧ gk = O1.length + 1 + meas l r E) := by
                        have h0 := HI.out
                        rw [List.concat_eq_append, List.length_append, List.length_singleton] at h0
                        exact h0
                      have hop := HI2.out.1.op
                      rw [List.length_append, List.length_singleton] at hop
                      obtain ⟨g, cp, hoa, hob, -, -⟩ := fam_block hop (by omega)
                      simp only [Value.slice.injEq, true_and] at hoa
                      obtain ⟨rfl, rfl⟩ := hoa
                      have hx0 : (spL (O1 ++ [(a, s)]))[O1.length * 2]? = some (.int .i64 (a : Int)) := by
                        rw [spL_snoc, List.getElem?_append_right (by rw [spL_len]; omega), spL_len, show O1.length * 2 - 2 * O1.length = 0 by omega]
                        rfl
                      have hx1 : (spL (O1 ++ [(a, s)]))[O1.length * 2 + 1]? = some (.int .i64 (s : Int)) := by
                        rw [spL_snoc, List.getElem?_append_right (by rw [spL_len]; omega), spL_len, show O1.length * 2 + 1 - 2 * O1.length = 1 by omega]
                        rfl
                      have k0 := fam_cell hop hob hx0
                      have k1 := fam_cell hop hob hx1
                      have hcap : O1.length + 1 ≤ oc := by
                        rcases hop.2 with ⟨h0, h1⟩ | ⟨g', cap', cur, hv, _, _, h1, _⟩
                        · omega
                        · simp only [Value.slice.injEq, true_and] at hv
                          omega
                      obtain ⟨hal, hsr, hne⟩ := HI2.out.2.1.opn a s (by simp)
                      have hol : O1.length ≤ 1000000 := by have := HI2.out.1.olen; rw [List.length_append] at this; omega
                      have c3 : wr.cell? ⟨fb, 3, none⟩ = some (.slice (some ⟨g, 0, none⟩) (O1.length + 1) oc) := box_cell HI2.out.1.box rfl
                      have f3 : wr.frozen? ⟨fb, 3, none⟩ = false := box_free HI2.out.1.box
                      have c3u := fun o => cell_up c3 o
                      have f3u : ∀ o, (wr.alloc o).frozen? ⟨fb, 3, none⟩ = false := fun o => box_free (box_later HI2.out.1.box o)
                      obtain ⟨n1, hn1⟩ : ∃ q, O1.length = q := ⟨_, rfl⟩
                      rw [hn1] at hcap k0 k1 c3 c3u hol
                      have hn0 : (n1 : Int) < ((n1 + 1 : Nat) : Int) := by omega
                      have hpos : (0 : Int) < ((n1 + 1 : Nat) : Int) := by omega
                      have hle : (n1 : Int) ≤ (oc : Int) := by omega
                      have hlen : (n1 : Nat) ≤ oc := by omega
                      have HN1 := Hid.out (p := Hid _) hn1
                      have HNE := Hid.out (p := Hid _) (And.intro hsr hne)
                      clear HI hop hob hx0 hx1 hn1 hsr hne
                      have hM : HdV X l r r a s (n1 + meas l r E) (fun i j q => i = a ∧ depV X a q s ∧ j ∈ wyX X a (E a)) E O1 := ⟨HI2.out.2.1.pop, HNE.out.2, by rw [HN1.out]; exact Nat.le_refl _⟩
                      have hF : FlV w ((wr.alloc (.cells #[.int .i64 (a : Int), .int .i64 (s : Int)] 113)).setCell ⟨fb, 3, none⟩ (.slice (some ⟨g, 0, none⟩) n1 oc)) fb ga ac l cc r ca MB (.slice (some ⟨g, 0, none⟩) n1 oc) E O1 := by
                        have h0 := (HI2.out.1.below (low1 wr (.cells #[.int .i64 (a : Int), .int .i64 (s : Int)] 113))).cut
                        rw [HN1.out] at h0
                        exact h0
                      by_cases hal2 : a < l
                      · have haI : (a : Int) < (l : Int) := by omega
                        have HH := Hid.out (p := Hid _) (fhand_any w _ fb ga ac l cc r m lk ca MB _ E O1 X r a s (n1 + meas l r E) hF hl hrg0 hrg HOK.out.1 HOK.out.2 hal2 HNE.out.1 hM)
                        have HGK : Hid (gk = n1 + 1 + meas l r E) := by have := HI2.out.2.2; rw [HN1.out] at this; exact this
                        clear hF hM hal hal2 HI2
                        go_wp2_with fail
                        refine Calls.mono HH.out ?_
                        rintro e w9 ⟨ov9, E9, O9, rfl, h9, _, z9⟩
                        obtain ⟨oa9, oc9, rfl⟩ := fam_form h9.op
                        have HN9 := Hid.out (p := Hid _) (And.intro h9 z9)
                        clear h9 z9 HH
                        go_wp2_with fail
                        go_roundg (O9.length + meas l r E9)
                        case rel => exact ⟨_, _, E9, O9, True.intro, HN9.out.1, HN9.out.2.wk, rfl⟩
                        case measure => have h1 := HGK.out; have h2 := HN9.out.2.ms; omega
                      · have haI : ¬ (a : Int) < (l : Int) := by omega
                        have HW : Hid (FlV w ((wr.alloc (.cells #[.int .i64 (a : Int), .int .i64 (s : Int)] 113)).setCell ⟨fb, 3, none⟩ (.slice (some ⟨g, 0, none⟩) n1 oc)) fb ga ac l cc r ca MB (.slice (some ⟨g, 0, none⟩) O1.length oc) E O1 ∧ WkV X l r r E O1 (fun _ _ _ => False)) := ⟨by rw [HN1.out]; exact hF, HI2.out.2.1.pop.mono fun i j q hi hp => by rw [hp.1] at hi; exact hal2 hi⟩
                        have HGK : Hid (gk = n1 + 1 + meas l r E) := by have := HI2.out.2.2; rw [HN1.out] at this; exact this
                        clear hF hM hal HI2
                        go_wp2_with fail
                        go_roundg (O1.length + meas l r E)
                        case rel => exact ⟨_, _, E, O1, True.intro, HW.out.1, HW.out.2, rfl⟩
                        case measure => have h1 := HGK.out; have h2 := HN1.out; omega

end Go.Proofs.YtkailbdjilkneaaDoor
