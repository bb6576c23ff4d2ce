/-
  Of outcomes that are the same one stays, by the program: slices.CompactFunc.
-/
import Derived.Test.YtelckcpjmekgcadGreatDoorOpens3
namespace Go.Proofs.YtelckcpjmekgcadGreatDoor
open Go.RowKit Go.Sort Go.Shelf

theorem run_clear_oc (W : World) (ty : TypeId) (b o m c : Nat) (hm : 0 < m) (hc : ∀ j, j < m * 3 → (W.cell? ⟨b, o + j, none⟩).isSome = true) (hf : ∀ j, j < m * 3 → W.frozen? ⟨b, o + j, none⟩ = false) :
    ∃ vs, (ClS #[44] ty #[.slice (some ⟨b, o, none⟩) m c]).run Tryz.prog W = .ok (.tuple #[]) (W.setCells b o vs) := by
  obtain ⟨i, hi, hz0, _, _⟩ := info_is infoOutcome
  have hv : ∀ w, (zeroValue 73).run Tryz.prog w = .ok (.agg #[.int .i64 0, nilV, nilV]) w := fun w => by simp [zeroValue, typeInfo, hi, hz0]
  obtain ⟨vs, hvs⟩ : ∃ vs, vs = (Builtin.zeroCells (Value.agg #[.int .i64 0, nilV, nilV]).cells m).toList := ⟨_, rfl⟩
  have hl : vs.length = m * 3 := by rw [hvs, Array.length_toList, size_zeroCells]; rfl
  have h1 : ∀ v ∈ vs, v.oneCell' = true := fun v hv' => by
    rw [hvs] at hv'
    unfold Builtin.zeroCells at hv'
    simp only [Array.toList_map, List.mem_map] at hv'
    obtain ⟨k, _, rfl⟩ := hv'
    show ((#[Value.int .i64 0, nilV, nilV] : Array Value)[k % 3]!).oneCell' = true
    rcases (by omega : k % 3 = 0 ∨ k % 3 = 1 ∨ k % 3 = 2) with e | e | e <;> rw [e] <;> rfl
  have hst := run_storeCells_cells (P := Tryz.prog) b o vs 0 W (by rw [hl]; simpa using hc) (by rw [hl]; simpa using hf) h1
  simp only [Nat.add_zero] at hst
  obtain ⟨q, rfl⟩ : ∃ q, m = q + 1 := ⟨m - 1, by omega⟩
  refine ⟨vs, ?_⟩
  unfold ClS
  simp [Builtin.clear_, run_underlying Tryz.underlying44, hv, ← hvs, hst]

attribute [local go_sem ↓] clS_eq
set_option maxRecDepth 100000 in
set_option maxHeartbeats 1600000 in
theorem compact_any (w : World) (B g c : Nat) (es : List En) (h : IsO w B (some ⟨g, 0, none⟩) es.length c es) (hX : ∀ e, e ∈ es → EnX w g e) (hB : B ≤ w.heap.size) (hg : B ≤ g) (hl : es.length ≤ 100000) (hc : es.length ≤ c) :
    Calls Tryz.prog 48 #[.slice (some ⟨g, 0, none⟩) es.length c, .func (.func 34) #[] #[]] w fun e w' => ∃ k es', e = .returned (.slice (some ⟨g, 0, none⟩) k c) ∧ IsO w' B (some ⟨g, 0, none⟩) k c es' ∧ es' = compE es es.length ∧ Srt B w w' (some ⟨g, 0, none⟩) := by
  have HX : Hid (∀ W k, Srt B w W (some ⟨g, 0, none⟩) → k < es.length → EnOk W (es.getD k default)) := fun W k hs hk => (hX _ (getD_in hk)).ok_at hs
  have HSM : Hid (∀ W i j, Srt B w W (some ⟨g, 0, none⟩) → i < es.length → j < es.length → Calls Tryz.prog 34 #[ocV (es.getD i default).o.st (es.getD i default).wa (es.getD i default).o.ws.length (es.getD i default).wc (es.getD i default).pa (es.getD i default).o.pr.length (es.getD i default).pc, ocV (es.getD j default).o.st (es.getD j default).wa (es.getD j default).o.ws.length (es.getD j default).wc (es.getD j default).pa (es.getD j default).o.pr.length (es.getD j default).pc] W fun e w' => e = .returned (.bool (decide ((es.getD i default).o = (es.getD j default).o))) ∧ Below W.heap.size W w') := fun W i j hs hi hj => same_any W _ _ (HX.out W i hs hi) (HX.out W j hs hj)
  have HS : Hid (IsO w B (some ⟨g, 0, none⟩) es.length c es ∧ B ≤ w.heap.size ∧ B ≤ g ∧ ∀ W, Srt B w W (some ⟨g, 0, none⟩) → True) := ⟨h, hB, hg, fun _ _ => trivial⟩
  obtain ⟨n, hn⟩ : ∃ n, es.length = n := ⟨_, rfl⟩
  have HN : Hid (es.length = n) := hn
  rw [hn] at hl hc HSM HS ⊢
  clear h hX hB hg hn HX
  by_cases h2 : n < 2
  · have h2' : (n : Int) < 2 := by omega
    go_enter Tryz.func48, Tryz.ntmps48
    go_wp2_with fail
    go_ret
    refine ⟨n, es, rfl, HS.out.1, ?_, Srt.refl _ _ _⟩
    rw [compE_take (by rw [HN.out]; exact Nat.le_refl _) (fun j h3 h4 => absurd h4 (by omega)), ← HN.out, List.take_length]
  · have h2' : ¬ (n : Int) < 2 := by omega
    go_enter Tryz.func48, Tryz.ntmps48
    go_wp2_with fail
    go_loopw [5] (fun i wr => ∃ k : Nat, 0 < k ∧ k ≤ n ∧ i = .int .i64 k ∧ Hid (IsO wr B (some ⟨g, 0, none⟩) n c es ∧ Srt B w wr (some ⟨g, 0, none⟩) ∧ ∀ j, 0 < j → j < k → (es.getD j default).o ≠ (es.getD (j - 1) default).o)) (fun i _ => n - (intOf i).toNat)
    case atStart => exact ⟨1, by omega, by omega, rfl, HS.out.1, Srt.refl _ _ _, fun j h3 h4 => absurd h4 (by omega)⟩
    case round =>
      obtain ⟨k, hk0, hk, rfl, HI⟩ := hrel
      by_cases hlt : k < n
      · obtain ⟨p, hp⟩ : ∃ p, k - 1 = p := ⟨_, rfl⟩
        have HPK : Hid (k - 1 = p) := hp
        have hpn : p < n := by omega
        have hsub : ((k : Nat) : Int) - 1 = (p : Int) := by omega
        obtain ⟨a0, a1, a2⟩ := HI.out.1.cells (k := k) hlt
        obtain ⟨b0, b1, b2⟩ := HI.out.1.cells (k := p) hpn
        obtain ⟨R, hR⟩ : ∃ R, decide ((es.getD k default).o = (es.getD p default).o) = R := ⟨_, rfl⟩
        have HR : Hid (decide ((es.getD k default).o = (es.getD p default).o) = R) := hR
        have hwr : IntKind.i64.wrap (p : Int) = p := by simp [IntKind.wrap, IntKind.bits, IntKind.signed]; omega
        obtain ⟨⟨⟨s1, l1, m1⟩, wa1, wc1, pa1, pc1⟩, hx1⟩ : ∃ x, es.getD k default = x := ⟨_, rfl⟩
        obtain ⟨⟨⟨s2, l2, m2⟩, wa2, wc2, pa2, pc2⟩, hx2⟩ : ∃ x, es.getD p default = x := ⟨_, rfl⟩
        have HC : Hid (Calls Tryz.prog 34 #[.agg #[.int .i64 s1, .slice wa1 l1.length wc1, .slice pa1 m1.length pc1], .agg #[.int .i64 s2, .slice wa2 l2.length wc2, .slice pa2 m2.length pc2]] wr.drew fun e w' => e = .returned (.bool R) ∧ Below wr.heap.size wr w') := by
          have h := HSM.out wr.drew k p ⟨HI.out.2.1.below.drew, HI.out.2.1.kept⟩ hlt hpn
          rw [hR, hx1, hx2] at h
          exact Calls.mono h fun e w' ⟨h1, h2⟩ => ⟨h1, (Below.refl _ _).drew.trans h2⟩
        rw [hx1] at a0 a1 a2
        rw [hx2] at b0 b1 b2
        dsimp only at a0 a1 a2 b0 b1 b2
        clear hR hp hx1 hx2
        go_wp2_with fail
        refine region_tail 10 (by kernel_rfl) (by kernel_rfl) ?_
        simp only [List.take_succ_cons, List.take_zero, List.drop_succ_cons, List.drop_zero]
        repeat still_step
        refine wpStill_nil ?_
        go_wp2_with fail
        refine Calls.mono HC.out ?_
        rintro e w1 ⟨rfl, hb1⟩
        have HI1 : Hid (IsO w1 B (some ⟨g, 0, none⟩) n c es ∧ Srt B w w1 (some ⟨g, 0, none⟩)) := ⟨HI.out.1.below hb1, HI.out.2.1.then_below HS.out.2.1 hb1⟩
        have HP : Hid (∀ j, 0 < j → j < k → (es.getD j default).o ≠ (es.getD (j - 1) default).o) := HI.out.2.2
        clear HC a0 a1 a2 b0 b1 b2 hb1 HI
        cases R with
        | false =>
          go_wp2_with fail
          go_roundw
          case rel =>
            refine ⟨k + 1, by omega, by omega, by go_num, HI1.out.1, HI1.out.2, fun j h3 h4 => ?_⟩
            rcases Nat.lt_or_ge j k with h5 | h5
            · exact HP.out j h3 h5
            · obtain rfl : j = k := by omega
              have := HR.out
              rw [decide_eq_false_iff_not, ← HPK.out] at this
              exact this
          case measure => simp [intOf]; omega
        | true =>
          have HCP : Hid (CpI w w1 B g n c es es k k 1) := by
            have he : (es.getD k default).o = (es.getD (k - 1) default).o := by rw [HPK.out]; exact of_decide_eq_true HR.out
            refine ⟨HI1.out.1, HI1.out.2, ?_, fun _ _ => rfl, by omega, by omega⟩
            rw [compE_same (by omega) he, compE_take (by rw [HN.out]; exact hk) HP.out]
          have hcp : ¬ c = k := by omega
          have HG : Hid (B ≤ w.heap.size ∧ B ≤ g) := ⟨HS.out.2.1, HS.out.2.2.1⟩
          have HK : Hid (0 < k ∧ k < n) := ⟨hk0, hlt⟩
          clear HI1 HP HR HPK hpn hsub hwr
          go_wp2_with fail
          obtain ⟨m, hm⟩ : ∃ m, n - k = m := ⟨_, rfl⟩
          have hkm : k + m = n := by omega
          rw [hm]
          go_loopw [5, 7] (fun i j wr => ∃ (kk q : Nat) (es2 : List En), 0 < q ∧ q ≤ m ∧ kk < n ∧ i = .int .i64 kk ∧ j = .int .i64 q ∧ Hid (CpI w wr B g n c es es2 k kk q)) (fun _ j _ => m - (intOf j).toNat)
          case atStart => exact ⟨k, 1, es, by omega, by omega, hlt, rfl, rfl, HCP⟩
          case round =>
            obtain ⟨kk, q, es2, hq0, hq, hkk, rfl, rfl, HI⟩ := hrel
            clear HCP
            by_cases hqm : q < m
            · obtain ⟨r, hr⟩ : ∃ r, q - 1 = r := ⟨_, rfl⟩
              have HRQ : Hid (q - 1 = r) := hr
              have hrm : r < m := by omega
              have hsub : ((q : Nat) : Int) - 1 = (r : Int) := by omega
              have hwr : IntKind.i64.wrap (r : Int) = r := by simp [IntKind.wrap, IntKind.bits, IntKind.signed]; omega
              have hk1 := HI.out.k1
              obtain ⟨a0, a1, a2⟩ := HI.out.is.cells (k := k + q) (by omega)
              obtain ⟨b0, b1, b2⟩ := HI.out.is.cells (k := k + r) (by omega)
              rw [HI.out.rest (k + q) (by omega), Nat.add_mul] at a0 a1 a2
              rw [HI.out.rest (k + r) (by omega), Nat.add_mul] at b0 b1 b2
              obtain ⟨R, hR⟩ : ∃ R, decide ((es.getD (k + q) default).o = (es.getD (k + r) default).o) = R := ⟨_, rfl⟩
              have HR : Hid (decide ((es.getD (k + q) default).o = (es.getD (k + r) default).o) = R) := hR
              have HNEW : Hid (∀ W, CpI w W B g n c es es2 k kk q → R = false → CpI w (W.setCells g (kk * 3) [.int .i64 (es.getD (k + q) default).o.st, .slice (es.getD (k + q) default).wa (es.getD (k + q) default).o.ws.length (es.getD (k + q) default).wc, .slice (es.getD (k + q) default).pa (es.getD (k + q) default).o.pr.length (es.getD (k + q) default).pc]) B g n c es (es2.set kk (es.getD (k + q) default)) k (kk + 1) (q + 1)) := fun W h e => by
                refine h.new HG.out.2 (by omega) ?_
                have := HR.out
                rw [e, decide_eq_false_iff_not] at this
                rw [show k + q - 1 = k + r by omega]
                exact this
              have HOLD : Hid (∀ W, CpI w W B g n c es es2 k kk q → R = true → CpI w W B g n c es es2 k kk (q + 1)) := fun W h e => by
                refine h.same ?_
                rw [show k + q - 1 = k + r by omega]
                exact of_decide_eq_true (HR.out.trans e)
              obtain ⟨⟨⟨s3, l3, m3⟩, wa3, wc3, pa3, pc3⟩, hx1⟩ : ∃ x, es.getD (k + q) default = x := ⟨_, rfl⟩
              obtain ⟨⟨⟨s4, l4, m4⟩, wa4, wc4, pa4, pc4⟩, hx2⟩ : ∃ x, es.getD (k + r) default = x := ⟨_, rfl⟩
              have HC : Hid (Calls Tryz.prog 34 #[.agg #[.int .i64 s3, .slice wa3 l3.length wc3, .slice pa3 m3.length pc3], .agg #[.int .i64 s4, .slice wa4 l4.length wc4, .slice pa4 m4.length pc4]] wr.drew fun e w' => e = .returned (.bool R) ∧ Below wr.heap.size wr w') := by
                have h := HSM.out wr.drew (k + q) (k + r) ⟨HI.out.srt.below.drew, HI.out.srt.kept⟩ (by omega) (by omega)
                rw [hR, hx1, hx2] at h
                exact Calls.mono h fun e w' ⟨h1, h2⟩ => ⟨h1, (Below.refl _ _).drew.trans h2⟩
              rw [hx1] at a0 a1 a2 HNEW
              rw [hx2] at b0 b1 b2
              dsimp only at a0 a1 a2 b0 b1 b2 HNEW
              clear hR hr hx1 hx2 hk1 HR
              go_wp2_with fail
              refine region_tail 10 (by kernel_rfl) (by kernel_rfl) ?_
              simp only [List.take_succ_cons, List.take_zero, List.drop_succ_cons, List.drop_zero]
              repeat still_step
              refine wpStill_nil ?_
              go_wp2_with fail
              refine Calls.mono HC.out ?_
              rintro e w2 ⟨rfl, hb2⟩
              have HI2 : Hid (CpI w w2 B g n c es es2 k kk q) := ⟨HI.out.is.below hb2, HI.out.srt.then_below HG.out.1 hb2, HI.out.take, HI.out.rest, HI.out.k1, HI.out.k0⟩
              have z0 := (hb2.cell (lt_of_cell a0)).trans a0
              have z1 := (hb2.cell (lt_of_cell a1)).trans a1
              have z2 := (hb2.cell (lt_of_cell a2)).trans a2
              clear HC a0 a1 a2 b0 b1 b2 hb2 HI
              cases R with
              | true =>
                go_wp2_with fail
                go_roundw
                case rel => exact ⟨kk, q + 1, es2, by omega, by omega, hkk, rfl, by go_num, HOLD.out _ HI2.out (by trivial)⟩
                case measure => simp [intOf]; omega
              | false =>
                have hk1 := HI2.out.k1
                have hkn : kk + 1 < n := by omega
                obtain ⟨c0, c1, c2⟩ := HI2.out.is.cells (k := kk) hkk
                have f0 : ∀ i, w2.frozen? ⟨g, i, none⟩ = false := fun i => fam_frozen HI2.out.is.own rfl i
                have HN2 : Hid (CpI w (((w2.setCell ⟨g, kk * 3, none⟩ (.int .i64 s3)).setCell ⟨g, kk * 3 + 1, none⟩ (.slice wa3 l3.length wc3)).setCell ⟨g, kk * 3 + 2, none⟩ (.slice pa3 m3.length pc3)) B g n c es (es2.set kk ⟨⟨s3, l3, m3⟩, wa3, wc3, pa3, pc3⟩) k (kk + 1) (q + 1)) := HNEW.out _ HI2.out rfl
                clear HNEW HOLD hk1
                go_wp2_with fail
                go_roundw
                case rel => exact ⟨kk + 1, q + 1, _, by omega, by omega, hkn, by go_num, by go_num, HN2⟩
                case measure => simp [intOf]; omega
            · obtain rfl : q = m := by omega
              have hck : ¬ c = kk := by omega
              have hown := HI.out.is.own
              obtain ⟨vs, hcl⟩ := run_clear_oc wr 0 g (kk * 3) (n - kk) (c - kk) (by omega) (fun j hj => by
                have hj' : kk * 3 + j < (ensV es2).length := by rw [ensV_len, HI.out.is.is]; omega
                rw [fam_cell hown rfl (List.getElem?_eq_getElem hj')]; rfl) (fun j hj => fam_frozen hown rfl _)
              have HF : Hid (IsO (wr.setCells g (kk * 3) vs) B (some ⟨g, 0, none⟩) kk c (es2.take kk) ∧ es2.take kk = compE es n ∧ Srt B w (wr.setCells g (kk * 3) vs) (some ⟨g, 0, none⟩)) := by
                refine ⟨⟨by rw [List.length_take, HI.out.is.is]; omega, ?_⟩, by rw [HI.out.take, hkm], HI.out.srt.puts HG.out.2 _ _⟩
                have h3 := fam_shrink (fam_puts rfl vs (kk * 3) wr _ hown) (m := kk) (by omega)
                rw [putL_take _ _ _ _ (Nat.le_refl _), ensV_take _ _ (by rw [HI.out.is.is]; omega)] at h3
                exact h3
              clear HI hown
              go_wp2_with fail
              go_ret
              exact ⟨kk, _, rfl, HF.out⟩
      · obtain rfl : k = n := by omega
        have HF : Hid (IsO wr B (some ⟨g, 0, none⟩) k c es ∧ es = compE es k ∧ Srt B w wr (some ⟨g, 0, none⟩)) := ⟨HI.out.1, by rw [compE_take (by rw [HN.out]; exact Nat.le_refl _) HI.out.2.2, ← HN.out, List.take_length], HI.out.2.1⟩
        clear HI
        go_wp2_with fail
        go_ret
        exact ⟨k, es, rfl, HF.out⟩

end Go.Proofs.YtelckcpjmekgcadGreatDoor
