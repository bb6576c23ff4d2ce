/-
  Orders anew, by the document, each up to four.
-/
import Derived.Test.YtocfocjnnjdcgaaDoorFRewI
namespace Go.Proofs.YtocfocjnnjdcgaaDoor
open Go.RowKit

attribute [local go_sem ↓] appS_eq in
set_option maxRecDepth 100000 in
set_option maxHeartbeats 3200000 in
theorem put6_four (w : World) (ba : Option Addr) (bc : Nat) (ca : Option Addr) (l cc : Nat) (b : Nat → List I4) (X : Nat → Nat → Int) (hl : l ≤ 1000) (hbe : BeIn w ba l b) (hord : ∀ i, i < l → ∃ g o, ca = some ⟨g, o, none⟩ ∧ w.cell? ⟨g, o + i * 4, none⟩ = some (.int .i64 (X i 0))) (hb2 : ∀ i, i < l → (b i).length ≤ 4)
    (hx : ∀ i x, i < l → x ∈ b i → (x.1 = 14 → (X i 0 = 14 ∨ X i 0 = 15) ∧ 0 ≤ x.2.1 ∧ x.2.1 ≤ l) ∧ (x.1 = 15 → X i 0 = 15 ∧ 0 ≤ x.2.2.1 ∧ x.2.2.1 ≤ l)) :
    Calls Tryd.prog 43 #[.slice ba l bc, .slice ca l cc] w fun e w' => ∃ v, e = .returned v ∧ OwnC w' w.heap.size v (codeR b l) ∧ Below w.heap.size w w' := by
  obtain ⟨w1, hrun1, hP1, hB1⟩ := put_start w b l hl
  have HS : Hid (w1.ownsRow w.heap.size 3 1 (.slice (some ⟨w.heap.size, 0, none⟩) (l + 1) (l + 1)) (l + 1) (intsV (pcsL b l 0)) ∧ Below w.heap.size w w1) := ⟨hP1, hB1⟩
  have HBE := Hid.out (p := Hid _) hbe
  have HORD := Hid.out (p := Hid _) hord
  have HB2 := Hid.out (p := Hid _) hb2
  have HX := Hid.out (p := Hid _) hx
  have hpl2 : ∀ i, i ≤ l → plR b i ≤ 4 * i := fun i => by
    induction i with
    | zero => intro _; exact Nat.le_refl _
    | succ i ih =>
      intro h
      rw [plR]
      have := hb2 i (by omega)
      have := ih (by omega)
      omega
  have HPL := Hid.out (p := Hid _) hpl2
  clear hP1 hB1 hbe hord hb2 hx hpl2
  go_enter Tryd.func43, Tryd.ntmps43
  go_wp2
  clear hrun1
  go_loopw [6, 7] (fun nv iv wr => ∃ (j : Nat) (q : Nat), j ≤ l ∧ iv = .int .i64 j ∧ nv = .int .i64 q ∧ q ≤ 4 * j ∧ Hid (q = plR b j ∧ wr.ownsRow w.heap.size 3 1 (.slice (some ⟨w.heap.size, 0, none⟩) (l + 1) (l + 1)) (l + 1) (intsV (pcsL b l j)) ∧ Below w.heap.size w wr)) (fun _ iv _ => l - (intOf iv).toNat)
  case atStart => exact ⟨0, 0, Nat.zero_le _, rfl, rfl, by omega, rfl, HS.out⟩
  case round =>
    obtain ⟨j, q, hj, rfl, rfl, hq, HI⟩ := hrel
    clear HS
    by_cases hjl : j < l
    · obtain ⟨g, o, sa, c, rfl, hc1, _⟩ := (BeIn.below HBE.out HI.out.2.2) j hjl
      have hne : g ≠ w.heap.size := by
        obtain ⟨g', o', sa', c', e', hc', _⟩ := HBE.out j hjl
        simp only [Option.some.injEq, Addr.mk.injEq, and_true] at e'
        have := lt_of_cell hc'
        rw [← e'.1] at this
        have h : g < w.heap.size := this
        omega
      have hne' : w.heap.size ≠ g := fun e => hne e.symm
      have y0 := fam_cell HI.out.2.1 (g := w.heap.size) rfl (intsV_at (l := pcsL b l j) (i := j) (by rw [pcs_len]; omega))
      have yf : wr.frozen? ⟨w.heap.size, j, none⟩ = false := fam_frozen HI.out.2.1 rfl _
      have hbl := HB2.out j hjl
      obtain ⟨bl, hbl'⟩ : ∃ x, (b j).length = x := ⟨_, rfl⟩
      have HR : Hid (q + bl = plR b (j + 1) ∧ (wr.setCell ⟨w.heap.size, j, none⟩ (.int .i64 q)).ownsRow w.heap.size 3 1 (.slice (some ⟨w.heap.size, 0, none⟩) (l + 1) (l + 1)) (l + 1) (intsV (pcsL b l (j + 1))) ∧ Below w.heap.size w (wr.setCell ⟨w.heap.size, j, none⟩ (.int .i64 q))) := by
        refine ⟨by rw [plR, HI.out.1, hbl'], ?_, HI.out.2.2.setCell (Nat.le_refl _) _⟩
        have := fam_put HI.out.2.1 (g := w.heap.size) rfl j (.int .i64 (q : Int))
        have e : (intsV (pcsL b l j)).set j (.int .i64 (q : Int)) = intsV (pcsL b l (j + 1)) := by
          rw [← pcs_set, intsV_set, HI.out.1]
        rw [e] at this
        exact this
      rw [hbl'] at hc1 hbl
      clear hbl'
      go_wp2
      go_roundw
      case rel => exact ⟨j + 1, q + bl, by omega, by go_num, by go_num, by omega, HR⟩
      case measure => simp [intOf]; omega
    · have hjl' : j = l := by omega
      subst hjl'
      have y0 := fam_cell HI.out.2.1 (g := w.heap.size) rfl (intsV_at (l := pcsL b j j) (i := j) (by rw [pcs_len]; omega))
      have yf : wr.frozen? ⟨w.heap.size, j, none⟩ = false := fam_frozen HI.out.2.1 rfl _
      have HR : Hid (PuI w b j (wr.setCell ⟨w.heap.size, j, none⟩ (.int .i64 q)) nilV []) := by
        refine ⟨HI.out.2.2.setCell (Nat.le_refl _) _, ?_, World.ownsRow_nil _ _ _ _⟩
        have := fam_put HI.out.2.1 (g := w.heap.size) rfl j (.int .i64 (q : Int))
        have e : (intsV (pcsL b j j)).set j (.int .i64 (q : Int)) = intsV (pcsL b j (j + 1)) := by
          rw [← pcs_set, intsV_set, HI.out.1]
        rw [e] at this
        exact this
      obtain ⟨W2, hW2⟩ : ∃ V, wr.setCell ⟨w.heap.size, j, none⟩ (.int .i64 (q : Int)) = V := ⟨_, rfl⟩
      rw [hW2] at HR
      have HW2 := Hid.out (p := Hid _) hW2
      clear HI hW2
      go_wp2
      rw [HW2.out]
      clear HW2 y0 yf
      obtain ⟨l, rfl⟩ : ∃ l, l = j := ⟨_, rfl⟩
      go_loopw [8, 9] (fun ov iv wr => ∃ (j : Nat) (oa : Option Addr) (ol oc : Nat), j ≤ l ∧ iv = .int .i64 j ∧ ov = .slice oa ol oc ∧ ol ≤ 4 * j ∧ Hid (ol = plR b j ∧ PuI w b l wr (.slice oa ol oc) ((rawR b j).map (ledO (plR b))))) (fun _ iv _ => l - (intOf iv).toNat)
      case atStart => exact ⟨0, none, 0, 0, Nat.zero_le _, rfl, rfl, by omega, rfl, HR.out⟩
      case round =>
        obtain ⟨j, oa, ol, oc, hj, rfl, rfl, hol, HI⟩ := hrel
        clear HR
        by_cases hjl : j < l
        · go_wp2
          obtain ⟨S, rfl⟩ : ∃ V, V = wr := ⟨_, rfl⟩
          have hbl := HB2.out j hjl
          obtain ⟨bl, hbl'⟩ : ∃ x, (b j).length = x := ⟨_, rfl⟩
          have HBL : Hid ((b j).length = bl) := hbl'
          rw [hbl'] at hbl
          clear hbl'
          go_loopw [8, 10] (fun ov kv wi => ∃ (k : Nat) (oa2 : Option Addr) (oc2 : Nat), k ≤ bl ∧ kv = .int .i64 k ∧ ov = .slice oa2 (ol + k) oc2 ∧ Hid (PuI w b l wi (.slice oa2 (ol + k) oc2) ((rawR b j ++ (b j).take k).map (ledO (plR b))))) (fun _ kv _ => bl - (intOf kv).toNat)
          case atStart => exact ⟨0, oa, oc, Nat.zero_le _, rfl, rfl, by show PuI _ _ _ _ _ _; simpa using HI.out.2⟩
          case round =>
            obtain ⟨k, oa2, oc2, hk, rfl, rfl, HJ⟩ := hrel
            obtain ⟨g, o, sa, c, rfl, hc1, hs1⟩ := (BeIn.below HBE.out HJ.out.low) j hjl
            rw [HBL.out] at hc1
            by_cases hkl : k < bl
            · obtain ⟨sg, so, rfl, c0, c1, c2, c3⟩ := srcL_order hs1 (k := k) (by rw [HBL.out]; exact hkl) fenceI
              obtain ⟨⟨xo, xa, xb, xc⟩, hxx⟩ : ∃ x, (b j).getD k fenceI = x := ⟨_, rfl⟩
              rw [hxx] at c0 c1 c2 c3
              simp only at c0 c1 c2 c3
              have hkb : k < (b j).length := by rw [HBL.out]; exact hkl
              have hmem : (xo, xa, xb, xc) ∈ b j := by rw [← hxx, List.getD_eq_getElem?_getD, List.getElem?_eq_getElem hkb]; exact List.getElem_mem hkb
              have hX := HX.out j _ hjl hmem
              have HTK : Hid ((b j).take (k + 1) = (b j).take k ++ [(xo, xa, xb, xc)]) := by
                show _ = _
                rw [List.take_add_one, ← hxx, List.getElem?_eq_getElem hkb]
                simp [List.getD, hkb]
              have hrl : ((rawR b j ++ (b j).take k).map (ledO (plR b))).length = ol + k := by
                rw [List.length_map, List.length_append, raw_len, List.length_take, HBL.out, HI.out.1]; omega
              obtain ⟨cg, co, rfl, hcc⟩ := HORD.out j hjl
              have hcl : cg < w.heap.size := lt_of_cell hcc
              have hcw := (HJ.out.low.cell (p := ⟨cg, co + j * 4, none⟩) hcl).trans hcc
              have u0 := cell_up c0
              have u1 := cell_up c1
              have u2 := cell_up c2
              have u3 := cell_up c3
              have uc := cell_up hcw
              have uc1 := cell_up hc1
              have HFIN : Hid (∀ W' v, PuI w b l W' v ((rawR b j ++ (b j).take k).map (ledO (plR b)) ++ [ledO (plR b) (xo, xa, xb, xc)]) → PuI w b l W' v ((rawR b j ++ (b j).take (k + 1)).map (ledO (plR b)))) := fun W' v h => by
                rw [HTK.out, ← List.append_assoc, List.map_append, List.map_singleton]
                exact h
              simp only at hX
              clear hxx hmem hs1 hcc
              by_cases e14 : xo = 14
              · subst e14
                obtain ⟨hX0, hxa, hxb⟩ := hX.1 rfl
                obtain ⟨n, rfl⟩ : ∃ n : Nat, xa = n := ⟨xa.toNat, by omega⟩
                rcases hX0 with hX0 | hX0
                · rw [hX0] at hcw uc
                  have hn : n < l + 1 := by omega
                  have y0 := fam_cell HJ.out.pls (g := w.heap.size) rfl (intsV_at (l := pcsL b l (l + 1)) (i := n) (by rw [pcs_len]; omega))
                  rw [pcs_at hn, if_pos hn] at y0
                  have y0u := cell_up y0
                  obtain ⟨pn, hpn⟩ : ∃ x : Int, (plR b n : Int) = x := ⟨_, rfl⟩
                  rw [hpn] at y0 y0u
                  obtain ⟨g8, cap8, w8, hrun8, hU8⟩ := HJ.out.push (V := wr.alloc (.cells #[.int .i64 14, .int .i64 pn, .int .i64 xb, .int .i64 xc] 55)) ((Below.refl _ _).alloc (Nat.le_refl _) _) (14, pn, xb, xc) (by rw [hrl]; omega)
                  rw [hrl, World.size_alloc] at hrun8
                  rw [hrl] at hU8
                  simp only at hrun8
                  have HU8 := Hid.out (p := Hid _) (HFIN.out _ _ (by
                    have e : ledO (plR b) (14, (n : Int), xb, xc) = (14, pn, xb, xc) := by unfold ledO; simp [hpn]
                    rw [e]; exact hU8))
                  clear hU8 HFIN HTK hX hpn hrl
                  go_wp2
                  go_roundw
                  case rel => exact ⟨k + 1, _, _, by omega, by go_num, rfl, HU8⟩
                  case measure => simp [intOf]; omega
                · rw [hX0] at hcw uc
                  have hn : n < l + 1 := by omega
                  have y0 := fam_cell HJ.out.pls (g := w.heap.size) rfl (intsV_at (l := pcsL b l (l + 1)) (i := n) (by rw [pcs_len]; omega))
                  rw [pcs_at hn, if_pos hn] at y0
                  have y0u := cell_up y0
                  obtain ⟨pn, hpn⟩ : ∃ x : Int, (plR b n : Int) = x := ⟨_, rfl⟩
                  rw [hpn] at y0 y0u
                  obtain ⟨g8, cap8, w8, hrun8, hU8⟩ := HJ.out.push (V := wr.alloc (.cells #[.int .i64 14, .int .i64 pn, .int .i64 xb, .int .i64 xc] 55)) ((Below.refl _ _).alloc (Nat.le_refl _) _) (14, pn, xb, xc) (by rw [hrl]; omega)
                  rw [hrl, World.size_alloc] at hrun8
                  rw [hrl] at hU8
                  simp only at hrun8
                  have HU8 := Hid.out (p := Hid _) (HFIN.out _ _ (by
                    have e : ledO (plR b) (14, (n : Int), xb, xc) = (14, pn, xb, xc) := by unfold ledO; simp [hpn]
                    rw [e]; exact hU8))
                  clear hU8 HFIN HTK hX hpn hrl
                  go_wp2
                  go_roundw
                  case rel => exact ⟨k + 1, _, _, by omega, by go_num, rfl, HU8⟩
                  case measure => simp [intOf]; omega
              · by_cases e15 : xo = 15
                · subst e15
                  obtain ⟨hX0, hxa, hxb⟩ := hX.2 rfl
                  obtain ⟨n, rfl⟩ : ∃ n : Nat, xb = n := ⟨xb.toNat, by omega⟩
                  rw [hX0] at hcw uc
                  have hn : n < l + 1 := by omega
                  have y0 := fam_cell HJ.out.pls (g := w.heap.size) rfl (intsV_at (l := pcsL b l (l + 1)) (i := n) (by rw [pcs_len]; omega))
                  rw [pcs_at hn, if_pos hn] at y0
                  have y0u := cell_up y0
                  obtain ⟨pn, hpn⟩ : ∃ x : Int, (plR b n : Int) = x := ⟨_, rfl⟩
                  rw [hpn] at y0 y0u
                  obtain ⟨g8, cap8, w8, hrun8, hU8⟩ := HJ.out.push (V := wr.alloc (.cells #[.int .i64 15, .int .i64 xa, .int .i64 pn, .int .i64 xc] 55)) ((Below.refl _ _).alloc (Nat.le_refl _) _) (15, xa, pn, xc) (by rw [hrl]; omega)
                  rw [hrl, World.size_alloc] at hrun8
                  rw [hrl] at hU8
                  simp only at hrun8
                  have HU8 := Hid.out (p := Hid _) (HFIN.out _ _ (by
                    have e : ledO (plR b) (15, xa, (n : Int), xc) = (15, xa, pn, xc) := by unfold ledO; simp [hpn]
                    rw [e]; exact hU8))
                  clear hU8 HFIN HTK hX hpn hrl
                  go_wp2
                  go_roundw
                  case rel => exact ⟨k + 1, _, _, by omega, by go_num, rfl, HU8⟩
                  case measure => simp [intOf]; omega
                · have e14' : (xo == 14) = false := by simpa using e14
                  have e15' : (xo == 15) = false := by simpa using e15
                  obtain ⟨g8, cap8, w8, hrun8, hU8⟩ := HJ.out.push (V := wr.alloc (.cells #[.int .i64 xo, .int .i64 xa, .int .i64 xb, .int .i64 xc] 55)) ((Below.refl _ _).alloc (Nat.le_refl _) _) (xo, xa, xb, xc) (by rw [hrl]; omega)
                  rw [hrl, World.size_alloc] at hrun8
                  rw [hrl] at hU8
                  simp only at hrun8
                  have HU8 := Hid.out (p := Hid _) (HFIN.out _ _ (by
                    have e : ledO (plR b) (xo, xa, xb, xc) = (xo, xa, xb, xc) := by unfold ledO; simp [e14, e15]
                    rw [e]; exact hU8))
                  clear hU8 HFIN HTK hX hrl
                  go_wp2
                  go_roundw
                  case rel => exact ⟨k + 1, _, _, by omega, by go_num, rfl, HU8⟩
                  case measure => simp [intOf]; omega
            · have HR : Hid (ol + k = plR b (j + 1) ∧ PuI w b l wr (.slice oa2 (ol + k) oc2) ((rawR b (j + 1)).map (ledO (plR b)))) := by
                have hkb : k = (b j).length := by rw [HBL.out]; omega
                refine ⟨by rw [plR, HI.out.1, hkb], ?_⟩
                have := HJ.out
                rw [hkb, List.take_length] at this
                rw [rawR, hkb]
                exact this
              go_wp2
              go_roundw
              case rel => exact ⟨j + 1, _, _, _, by omega, by go_num, rfl, by omega, HR⟩
              case measure => simp [intOf]; omega
        · have hjl' : j = l := by omega
          subst hjl'
          go_wp2
          go_ret
          exact ⟨_, rfl, HI.out.2.out, HI.out.2.low⟩

end Go.Proofs.YtocfocjnnjdcgaaDoor
