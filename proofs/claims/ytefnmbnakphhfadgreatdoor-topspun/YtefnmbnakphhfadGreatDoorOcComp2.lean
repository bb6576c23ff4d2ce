/-
  Of outcomes that are the same one stays, by the program: slices.CompactFunc.
  Outcomes are noted down while the program goes through states.
  Those who look on note outcomes down.
  The list of outcomes is sorted, and of like ones one stays.
-/
import Derived.Test.YtefnmbnakphhfadGreatDoorOpens3
import Derived.Deep.RegionWith
import Derived.Shelf.SlSortCmp.NoneTotal
namespace Go.Proofs.YtefnmbnakphhfadGreatDoor
section
open Go.RowKit Go.Sort Go.Shelf

theorem run_clear_oc (W : World) (ty : TypeId) (b o m c : Nat) (hm : 0 < m) (hc : ∀ j, j < m * 3 → (W.cell? ⟨b, o + j, none⟩).isSome = true) (hf : ∀ j, j < m * 3 → W.frozen? ⟨b, o + j, none⟩ = false) :
    ∃ vs, (ClS #[42] ty #[.slice (some ⟨b, o, none⟩) m c]).run Tryz.prog W = .ok (.tuple #[]) (W.setCells b o vs) := by
  obtain ⟨i, hi, hz0, _, _⟩ := info_is infoOutcome
  have hv : ∀ w, (zeroValue 46).run Tryz.prog w = .ok (.agg #[.int .i64 0, nilV, nilV]) w := fun w => by simp [zeroValue, typeInfo, hi, hz0]
  obtain ⟨vs, hvs⟩ : ∃ vs, vs = (Builtin.zeroCells (Value.agg #[.int .i64 0, nilV, nilV]).cells m).toList := ⟨_, rfl⟩
  have hl : vs.length = m * 3 := by rw [hvs, Array.length_toList, size_zeroCells]; rfl
  have h1 : ∀ v ∈ vs, v.oneCell' = true := fun v hv' => by
    rw [hvs] at hv'
    unfold Builtin.zeroCells at hv'
    simp only [Array.toList_map, List.mem_map] at hv'
    obtain ⟨k, _, rfl⟩ := hv'
    show ((#[Value.int .i64 0, nilV, nilV] : Array Value)[k % 3]!).oneCell' = true
    rcases (by omega : k % 3 = 0 ∨ k % 3 = 1 ∨ k % 3 = 2) with e | e | e <;> rw [e] <;> rfl
  have hst := run_storeCells_cells (P := Tryz.prog) b o vs 0 W (by rw [hl]; simpa using hc) (by rw [hl]; simpa using hf) h1
  simp only [Nat.add_zero] at hst
  obtain ⟨q, rfl⟩ : ∃ q, m = q + 1 := ⟨m - 1, by omega⟩
  refine ⟨vs, ?_⟩
  unfold ClS
  simp [Builtin.clear_, run_underlying Tryz.underlying42, hv, ← hvs, hst]

attribute [local go_sem ↓] clS_eq
set_option maxRecDepth 100000 in
set_option maxHeartbeats 1600000 in
theorem compact_any (w : World) (B g c : Nat) (es : List En) (h : IsO w B (some ⟨g, 0, none⟩) es.length c es) (hX : ∀ e, e ∈ es → EnX w g e) (hB : B ≤ w.heap.size) (hg : B ≤ g) (hl : es.length ≤ 100000) (hc : es.length ≤ c) :
    Calls Tryz.prog 57 #[.slice (some ⟨g, 0, none⟩) es.length c, .func (.func 44) #[] #[]] w fun e w' => ∃ k es', e = .returned (.slice (some ⟨g, 0, none⟩) k c) ∧ IsO w' B (some ⟨g, 0, none⟩) k c es' ∧ es' = compE es es.length ∧ Srt B w w' (some ⟨g, 0, none⟩) := by
  have HX : Hid (∀ W k, Srt B w W (some ⟨g, 0, none⟩) → k < es.length → EnOk W (es.getD k default)) := fun W k hs hk => (hX _ (getD_in hk)).ok_at hs
  have HSM : Hid (∀ W i j, Srt B w W (some ⟨g, 0, none⟩) → i < es.length → j < es.length → Calls Tryz.prog 44 #[ocV (es.getD i default).o.st (es.getD i default).wa (es.getD i default).o.ws.length (es.getD i default).wc (es.getD i default).pa (es.getD i default).o.pr.length (es.getD i default).pc, ocV (es.getD j default).o.st (es.getD j default).wa (es.getD j default).o.ws.length (es.getD j default).wc (es.getD j default).pa (es.getD j default).o.pr.length (es.getD j default).pc] W fun e w' => e = .returned (.bool (decide ((es.getD i default).o = (es.getD j default).o))) ∧ Below W.heap.size W w') := fun W i j hs hi hj => same_any W _ _ (HX.out W i hs hi) (HX.out W j hs hj)
  have HS : Hid (IsO w B (some ⟨g, 0, none⟩) es.length c es ∧ B ≤ w.heap.size ∧ B ≤ g ∧ ∀ W, Srt B w W (some ⟨g, 0, none⟩) → True) := ⟨h, hB, hg, fun _ _ => trivial⟩
  obtain ⟨n, hn⟩ : ∃ n, es.length = n := ⟨_, rfl⟩
  have HN : Hid (es.length = n) := hn
  rw [hn] at hl hc HSM HS ⊢
  clear h hX hB hg hn HX
  by_cases h2 : n < 2
  · have h2' : (n : Int) < 2 := by omega
    go_enter Tryz.func57, Tryz.ntmps57
    go_wp2_with fail
    go_ret
    refine ⟨n, es, rfl, HS.out.1, ?_, Srt.refl _ _ _⟩
    rw [compE_take (by rw [HN.out]; exact Nat.le_refl _) (fun j h3 h4 => absurd h4 (by omega)), ← HN.out, List.take_length]
  · have h2' : ¬ (n : Int) < 2 := by omega
    go_enter Tryz.func57, Tryz.ntmps57
    go_wp2_with fail
    go_loopw [5] (fun i wr => ∃ k : Nat, 0 < k ∧ k ≤ n ∧ i = .int .i64 k ∧ Hid (IsO wr B (some ⟨g, 0, none⟩) n c es ∧ Srt B w wr (some ⟨g, 0, none⟩) ∧ ∀ j, 0 < j → j < k → (es.getD j default).o ≠ (es.getD (j - 1) default).o)) (fun i _ => n - (intOf i).toNat)
    case atStart => exact ⟨1, by omega, by omega, rfl, HS.out.1, Srt.refl _ _ _, fun j h3 h4 => absurd h4 (by omega)⟩
    case round =>
      obtain ⟨k, hk0, hk, rfl, HI⟩ := hrel
      by_cases hlt : k < n
      · obtain ⟨p, hp⟩ : ∃ p, k - 1 = p := ⟨_, rfl⟩
        have HPK : Hid (k - 1 = p) := hp
        have hpn : p < n := by omega
        have hsub : ((k : Nat) : Int) - 1 = (p : Int) := by omega
        obtain ⟨a0, a1, a2⟩ := HI.out.1.cells (k := k) hlt
        obtain ⟨b0, b1, b2⟩ := HI.out.1.cells (k := p) hpn
        obtain ⟨R, hR⟩ : ∃ R, decide ((es.getD k default).o = (es.getD p default).o) = R := ⟨_, rfl⟩
        have HR : Hid (decide ((es.getD k default).o = (es.getD p default).o) = R) := hR
        have hwr : IntKind.i64.wrap (p : Int) = p := by simp [IntKind.wrap, IntKind.bits, IntKind.signed]; omega
        obtain ⟨⟨⟨s1, l1, m1⟩, wa1, wc1, pa1, pc1⟩, hx1⟩ : ∃ x, es.getD k default = x := ⟨_, rfl⟩
        obtain ⟨⟨⟨s2, l2, m2⟩, wa2, wc2, pa2, pc2⟩, hx2⟩ : ∃ x, es.getD p default = x := ⟨_, rfl⟩
        have HC : Hid (Calls Tryz.prog 44 #[.agg #[.int .i64 s1, .slice wa1 l1.length wc1, .slice pa1 m1.length pc1], .agg #[.int .i64 s2, .slice wa2 l2.length wc2, .slice pa2 m2.length pc2]] wr.drew fun e w' => e = .returned (.bool R) ∧ Below wr.heap.size wr w') := by
          have h := HSM.out wr.drew k p ⟨HI.out.2.1.below.drew, HI.out.2.1.kept⟩ hlt hpn
          rw [hR, hx1, hx2] at h
          exact Calls.mono h fun e w' ⟨h1, h2⟩ => ⟨h1, (Below.refl _ _).drew.trans h2⟩
        rw [hx1] at a0 a1 a2
        rw [hx2] at b0 b1 b2
        dsimp only at a0 a1 a2 b0 b1 b2
        clear hR hp hx1 hx2
        go_wp2_with fail
        refine region_tail 10 (by kernel_rfl) (by kernel_rfl) ?_
        simp only [List.take_succ_cons, List.take_zero, List.drop_succ_cons, List.drop_zero]
        repeat still_step
        refine wpStill_nil ?_
        go_wp2_with fail
        refine Calls.mono HC.out ?_
        rintro e w1 ⟨rfl, hb1⟩
        have HI1 : Hid (IsO w1 B (some ⟨g, 0, none⟩) n c es ∧ Srt B w w1 (some ⟨g, 0, none⟩)) := ⟨HI.out.1.below hb1, HI.out.2.1.then_below HS.out.2.1 hb1⟩
        have HP : Hid (∀ j, 0 < j → j < k → (es.getD j default).o ≠ (es.getD (j - 1) default).o) := HI.out.2.2
        clear HC a0 a1 a2 b0 b1 b2 hb1 HI
        cases R with
        | false =>
          go_wp2_with fail
          go_roundw
          case rel =>
            refine ⟨k + 1, by omega, by omega, by go_num, HI1.out.1, HI1.out.2, fun j h3 h4 => ?_⟩
            rcases Nat.lt_or_ge j k with h5 | h5
            · exact HP.out j h3 h5
            · obtain rfl : j = k := by omega
              have := HR.out
              rw [decide_eq_false_iff_not, ← HPK.out] at this
              exact this
          case measure => simp [intOf]; omega
        | true =>
          have HCP : Hid (CpI w w1 B g n c es es k k 1) := by
            have he : (es.getD k default).o = (es.getD (k - 1) default).o := by rw [HPK.out]; exact of_decide_eq_true HR.out
            refine ⟨HI1.out.1, HI1.out.2, ?_, fun _ _ => rfl, by omega, by omega⟩
            rw [compE_same (by omega) he, compE_take (by rw [HN.out]; exact hk) HP.out]
          have hcp : ¬ c = k := by omega
          have HG : Hid (B ≤ w.heap.size ∧ B ≤ g) := ⟨HS.out.2.1, HS.out.2.2.1⟩
          have HK : Hid (0 < k ∧ k < n) := ⟨hk0, hlt⟩
          clear HI1 HP HR HPK hpn hsub hwr
          go_wp2_with fail
          obtain ⟨m, hm⟩ : ∃ m, n - k = m := ⟨_, rfl⟩
          have hkm : k + m = n := by omega
          rw [hm]
          go_loopw [5, 7] (fun i j wr => ∃ (kk q : Nat) (es2 : List En), 0 < q ∧ q ≤ m ∧ kk < n ∧ i = .int .i64 kk ∧ j = .int .i64 q ∧ Hid (CpI w wr B g n c es es2 k kk q)) (fun _ j _ => m - (intOf j).toNat)
          case atStart => exact ⟨k, 1, es, by omega, by omega, hlt, rfl, rfl, HCP⟩
          case round =>
            obtain ⟨kk, q, es2, hq0, hq, hkk, rfl, rfl, HI⟩ := hrel
            clear HCP
            by_cases hqm : q < m
            · obtain ⟨r, hr⟩ : ∃ r, q - 1 = r := ⟨_, rfl⟩
              have HRQ : Hid (q - 1 = r) := hr
              have hrm : r < m := by omega
              have hsub : ((q : Nat) : Int) - 1 = (r : Int) := by omega
              have hwr : IntKind.i64.wrap (r : Int) = r := by simp [IntKind.wrap, IntKind.bits, IntKind.signed]; omega
              have hk1 := HI.out.k1
              obtain ⟨a0, a1, a2⟩ := HI.out.is.cells (k := k + q) (by omega)
              obtain ⟨b0, b1, b2⟩ := HI.out.is.cells (k := k + r) (by omega)
              rw [HI.out.rest (k + q) (by omega), Nat.add_mul] at a0 a1 a2
              rw [HI.out.rest (k + r) (by omega), Nat.add_mul] at b0 b1 b2
              obtain ⟨R, hR⟩ : ∃ R, decide ((es.getD (k + q) default).o = (es.getD (k + r) default).o) = R := ⟨_, rfl⟩
              have HR : Hid (decide ((es.getD (k + q) default).o = (es.getD (k + r) default).o) = R) := hR
              have HNEW : Hid (∀ W, CpI w W B g n c es es2 k kk q → R = false → CpI w (W.setCells g (kk * 3) [.int .i64 (es.getD (k + q) default).o.st, .slice (es.getD (k + q) default).wa (es.getD (k + q) default).o.ws.length (es.getD (k + q) default).wc, .slice (es.getD (k + q) default).pa (es.getD (k + q) default).o.pr.length (es.getD (k + q) default).pc]) B g n c es (es2.set kk (es.getD (k + q) default)) k (kk + 1) (q + 1)) := fun W h e => by
                refine h.new HG.out.2 (by omega) ?_
                have := HR.out
                rw [e, decide_eq_false_iff_not] at this
                rw [show k + q - 1 = k + r by omega]
                exact this
              have HOLD : Hid (∀ W, CpI w W B g n c es es2 k kk q → R = true → CpI w W B g n c es es2 k kk (q + 1)) := fun W h e => by
                refine h.same ?_
                rw [show k + q - 1 = k + r by omega]
                exact of_decide_eq_true (HR.out.trans e)
              obtain ⟨⟨⟨s3, l3, m3⟩, wa3, wc3, pa3, pc3⟩, hx1⟩ : ∃ x, es.getD (k + q) default = x := ⟨_, rfl⟩
              obtain ⟨⟨⟨s4, l4, m4⟩, wa4, wc4, pa4, pc4⟩, hx2⟩ : ∃ x, es.getD (k + r) default = x := ⟨_, rfl⟩
              have HC : Hid (Calls Tryz.prog 44 #[.agg #[.int .i64 s3, .slice wa3 l3.length wc3, .slice pa3 m3.length pc3], .agg #[.int .i64 s4, .slice wa4 l4.length wc4, .slice pa4 m4.length pc4]] wr.drew fun e w' => e = .returned (.bool R) ∧ Below wr.heap.size wr w') := by
                have h := HSM.out wr.drew (k + q) (k + r) ⟨HI.out.srt.below.drew, HI.out.srt.kept⟩ (by omega) (by omega)
                rw [hR, hx1, hx2] at h
                exact Calls.mono h fun e w' ⟨h1, h2⟩ => ⟨h1, (Below.refl _ _).drew.trans h2⟩
              rw [hx1] at a0 a1 a2 HNEW
              rw [hx2] at b0 b1 b2
              dsimp only at a0 a1 a2 b0 b1 b2 HNEW
              clear hR hr hx1 hx2 hk1 HR
              go_wp2_with fail
              refine region_tail 10 (by kernel_rfl) (by kernel_rfl) ?_
              simp only [List.take_succ_cons, List.take_zero, List.drop_succ_cons, List.drop_zero]
              repeat still_step
              refine wpStill_nil ?_
              go_wp2_with fail
              refine Calls.mono HC.out ?_
              rintro e w2 ⟨rfl, hb2⟩
              have HI2 : Hid (CpI w w2 B g n c es es2 k kk q) := ⟨HI.out.is.below hb2, HI.out.srt.then_below HG.out.1 hb2, HI.out.take, HI.out.rest, HI.out.k1, HI.out.k0⟩
              have z0 := (hb2.cell (lt_of_cell a0)).trans a0
              have z1 := (hb2.cell (lt_of_cell a1)).trans a1
              have z2 := (hb2.cell (lt_of_cell a2)).trans a2
              clear HC a0 a1 a2 b0 b1 b2 hb2 HI
              cases R with
              | true =>
                go_wp2_with fail
                go_roundw
                case rel => exact ⟨kk, q + 1, es2, by omega, by omega, hkk, rfl, by go_num, HOLD.out _ HI2.out (by trivial)⟩
                case measure => simp [intOf]; omega
              | false =>
                have hk1 := HI2.out.k1
                have hkn : kk + 1 < n := by omega
                obtain ⟨c0, c1, c2⟩ := HI2.out.is.cells (k := kk) hkk
                have f0 : ∀ i, w2.frozen? ⟨g, i, none⟩ = false := fun i => fam_frozen HI2.out.is.own rfl i
                have HN2 : Hid (CpI w (((w2.setCell ⟨g, kk * 3, none⟩ (.int .i64 s3)).setCell ⟨g, kk * 3 + 1, none⟩ (.slice wa3 l3.length wc3)).setCell ⟨g, kk * 3 + 2, none⟩ (.slice pa3 m3.length pc3)) B g n c es (es2.set kk ⟨⟨s3, l3, m3⟩, wa3, wc3, pa3, pc3⟩) k (kk + 1) (q + 1)) := HNEW.out _ HI2.out rfl
                clear HNEW HOLD hk1
                go_wp2_with fail
                go_roundw
                case rel => exact ⟨kk + 1, q + 1, _, by omega, by omega, hkn, by go_num, by go_num, HN2⟩
                case measure => simp [intOf]; omega
            · obtain rfl : q = m := by omega
              have hck : ¬ c = kk := by omega
              have hown := HI.out.is.own
              obtain ⟨vs, hcl⟩ := run_clear_oc wr 0 g (kk * 3) (n - kk) (c - kk) (by omega) (fun j hj => by
                have hj' : kk * 3 + j < (ensV es2).length := by rw [ensV_len, HI.out.is.is]; omega
                rw [fam_cell hown rfl (List.getElem?_eq_getElem hj')]; rfl) (fun j hj => fam_frozen hown rfl _)
              have HF : Hid (IsO (wr.setCells g (kk * 3) vs) B (some ⟨g, 0, none⟩) kk c (es2.take kk) ∧ es2.take kk = compE es n ∧ Srt B w (wr.setCells g (kk * 3) vs) (some ⟨g, 0, none⟩)) := by
                refine ⟨⟨by rw [List.length_take, HI.out.is.is]; omega, ?_⟩, by rw [HI.out.take, hkm], HI.out.srt.puts HG.out.2 _ _⟩
                have h3 := fam_shrink (fam_puts rfl vs (kk * 3) wr _ hown) (m := kk) (by omega)
                rw [putL_take _ _ _ _ (Nat.le_refl _), ensV_take _ _ (by rw [HI.out.is.is]; omega)] at h3
                exact h3
              clear HI hown
              go_wp2_with fail
              go_ret
              exact ⟨kk, _, rfl, HF.out⟩
      · obtain rfl : k = n := by omega
        have HF : Hid (IsO wr B (some ⟨g, 0, none⟩) k c es ∧ es = compE es k ∧ Srt B w wr (some ⟨g, 0, none⟩)) := ⟨HI.out.1, by rw [compE_take (by rw [HN.out]; exact Nat.le_refl _) HI.out.2.2, ← HN.out, List.take_length], HI.out.2.1⟩
        clear HI
        go_wp2_with fail
        go_ret
        exact ⟨k, es, rfl, HF.out⟩
end

section
open Go.RowKit Go.Sort Go.Shelf

theorem OlI.push_at {W : World} {B km lb : Nat} {es : List En} (h : OlI W B km lb es) (hB : B ≤ W.heap.size) {n : Nat} (hn : es.length = n) (hlen : n ≤ 90000) (e : En) (he : EnJ W B e) {a : Option Addr} {c : Nat} (hc : W.cell? ⟨lb, 0, none⟩ = some (.slice a n c)) : 
    ∃ g cap w3, (AppS #[42, 42] 42 #[.slice a n c, .slice (some ⟨W.heap.size, 0, none⟩) 1 1]).run Tryz.prog (W.alloc (.cells #[.int .i64 e.o.st, .slice e.wa e.o.ws.length e.wc, .slice e.pa e.o.pr.length e.pc] 46)) = .ok (.slice (some ⟨g, 0, none⟩) (n + 1) cap) w3 ∧ w3.cell? ⟨lb, 0, none⟩ = some (.slice a n c) ∧ w3.frozen? ⟨lb, 0, none⟩ = false ∧
      Hid (OlI (w3.setCell ⟨lb, 0, none⟩ (.slice (some ⟨g, 0, none⟩) (n + 1) cap)) B km lb (es ++ [e]) ∧ Fr B (NO km) W (w3.setCell ⟨lb, 0, none⟩ (.slice (some ⟨g, 0, none⟩) (n + 1) cap))) := by
  subst hn
  obtain ⟨a', c', h1, h2⟩ := h.push hB hlen e he
  rw [hc] at h1
  simp only [Option.some.injEq, Value.slice.injEq, true_and] at h1
  obtain ⟨rfl, rfl⟩ := h1
  exact h2

attribute [local go_sem ↓] appS_eq
set_option maxRecDepth 100000 in
set_option maxHeartbeats 1600000 in
/-- One fell. -/
theorem ofell_any (c : Wc) (lb : Nat) (W : World) (es : List En) (sb mb bb : Nat) (v : Rp → Value) (s : Sx) (hI : OlI W c.B c.km lb es) (hl : es.length ≤ 90000) (hq : QSt W 0 (c.Q.at bb) sb mb v s) (hp : s.prints.length ≤ 100000) (hB : c.B ≤ W.heap.size) :
    Calls Tryz.prog 52 #[.pointer (some ⟨sb, 0, none⟩), .pointer (some ⟨lb, 0, none⟩)] W fun e W' => e = .returned (.tuple #[]) ∧ Fr c.B (NO c.km) W W' ∧ ∃ x, x.o = ⟨1, [], s.prints⟩ ∧ OlI W' c.B c.km lb (es ++ [x]) := by
  obtain ⟨a, cp, hbx, _, _⟩ := hI.box
  have hcell : W.cell? ⟨lb, 0, none⟩ = some (.slice a es.length cp) := box_cell hbx rfl
  have HC : Hid (∀ V, Below W.heap.size W V → Calls Tryz.prog 51 #[.pointer (some ⟨sb, 0, none⟩)] V fun e w' => ∃ a c, e = .returned (.slice a s.prints.length c) ∧ w'.ownsRow V.heap.size 3 1 (.slice a s.prints.length c) s.prints.length (intsV s.prints) ∧ Below V.heap.size V w') := fun V hb => prints_any V 0 (c.Q.at bb) sb mb v s (hq.below hb) (by omega)
  have HI := Hid.out (p := Hid _) (And.intro hI hB)
  have HPL : Hid (s.prints.length ≤ 100000) := hp
  obtain ⟨n, hn⟩ : ∃ n, es.length = n := ⟨_, rfl⟩
  have HN : Hid (es.length = n) := hn
  obtain ⟨pn, hpn⟩ : ∃ n, s.prints.length = n := ⟨_, rfl⟩
  have HPN : Hid (s.prints.length = pn) := hpn
  rw [hn] at hcell hl
  rw [hpn] at HC
  have HFIN : Hid (∀ w2 pa pcc, w2.ownsRow W.drew.heap.size 3 1 (.slice pa pn pcc) pn (intsV s.prints) → Below W.drew.heap.size W.drew w2 → w2.cell? ⟨lb, 0, none⟩ = some (.slice a n cp) ∧ ∃ g cap w3, (AppS #[42, 42] 42 #[.slice a n cp, .slice (some ⟨w2.heap.size, 0, none⟩) 1 1]).run Tryz.prog (w2.alloc (.cells #[.int .i64 1, nilV, .slice pa pn pcc] 46)) = .ok (.slice (some ⟨g, 0, none⟩) (n + 1) cap) w3 ∧ w3.cell? ⟨lb, 0, none⟩ = some (.slice a n cp) ∧ w3.frozen? ⟨lb, 0, none⟩ = false ∧
      Hid (∃ x, x.o = ⟨1, [], s.prints⟩ ∧ OlI (w3.setCell ⟨lb, 0, none⟩ (.slice (some ⟨g, 0, none⟩) (n + 1) cap)) c.B c.km lb (es ++ [x]) ∧ Fr c.B (NO c.km) W (w3.setCell ⟨lb, 0, none⟩ (.slice (some ⟨g, 0, none⟩) (n + 1) cap)))) := fun w2 pa pcc h1 h2 => by
    have hb : Below W.heap.size W w2 := (Below.refl _ _).drew.trans h2
    have hc2 := (hb.cell (lt_of_cell hcell)).trans hcell
    refine ⟨hc2, ?_⟩
    have hJ : EnJ w2 c.B ⟨⟨1, [], s.prints⟩, none, 0, pa, pcc⟩ := ⟨World.ownsRow_nil _ _ _ _, by
      show World.ownsRow _ _ _ _ (.slice pa s.prints.length pcc) s.prints.length _
      rw [hpn]
      exact own_low h1 hB, Nat.zero_le _, hp⟩
    obtain ⟨g, cap, w3, r1, z1, z2, HH⟩ := (hI.below hB hb).push_at (Nat.le_trans hB hb.size) hn hl _ hJ hc2
    refine ⟨g, cap, w3, ?_, z1, z2, ⟨_, rfl, HH.out.1, (Fr.of_below hB hb).trans HH.out.2⟩⟩
    rw [← hpn]
    exact r1
  clear hI hbx hq hB hn hpn hp
  go_enter Tryz.func52, Tryz.ntmps52
  go_wp2_with fail
  go_region_with (go_at_call 51; refine Calls.mono (HC.out _ (Below.refl _ _).drew) ?_; rintro e w2 ⟨pa, pcc, rfl, ho2, hb2⟩; have HI2 := HFIN.out w2 pa pcc ho2 hb2; clear ho2 hb2; obtain ⟨z0, g, cap, w3, r1, z1, z2, HR⟩ := HI2; have z4 := cell_up z0)
  all_goals go_end0
  all_goals obtain ⟨x, hx, h1, h2⟩ := HR.out
  all_goals exact ⟨rfl, h2, x, hx, h1⟩
/-- What is noted of one that is seen. -/
def SeeQ (c : Wc) (lb : Nat) (W : World) (es : List En) (s : Sx) (W' : World) : Prop := Fr c.B (NO c.km) W W' ∧ ∃ es', OlI W' c.B c.km lb es' ∧ es'.length ≤ es.length + 1 ∧ ∀ o, o ∈ es'.map En.o ↔ o ∈ es.map En.o ∨ (movesX c.Q.L c.X c.mode s = [] ∧ o = ⟨if endedX c.Q.L s then 0 else 2, s.words, s.prints⟩)
set_option maxRecDepth 100000 in
set_option maxHeartbeats 3200000 in
/-- One is seen. -/
theorem osee_any (c : Wc) (hc : WcOk c) (lb : Nat) (W : World) (es : List En) (sb mb bb : Nat) (v : Rp → Value) (s : Sx) (k : Nat) (hI : OlI W c.B c.km lb es) (hl : es.length ≤ 90000) (hq : QSt W 0 (c.Q.at bb) sb mb v s) (hs : StP c k s) (hk : k ≤ 4500) (hlow : Below c.B c.w0 W) :
    Calls Tryz.prog 48 #[.pointer (some ⟨sb, 0, none⟩), .pointer (some ⟨lb, 0, none⟩)] W fun e W' => e = .returned (.tuple #[]) ∧ SeeQ c lb W es s W' := by
  have hB : c.B ≤ W.heap.size := by rw [hc.Bw]; exact hlow.size
  have HP : Hid (Calls Tryz.prog 49 #[.pointer (some ⟨sb, 0, none⟩)] W fun e w' => ∃ a len cp, e = .returned (.slice a len cp) ∧ (movesX c.Q.L c.X c.mode s).length = len ∧ Below W.heap.size W w') := by
    refine (picks_any W 0 (c.Q.at bb) sb mb v s c.ca c.X c.n c.m c.lk c.rg hc.n0 hq hc.hM (Nat.zero_le _) hc.nt hs.ok hc.cok (hc.prog.below (by have := hlow; rw [hc.Bw] at this; exact this))).mono ?_
    rintro e w' ⟨a, len, cp, he, hp, hb⟩
    exact ⟨a, len, cp, he, hp.is, hb⟩
  have hm16 : (movesX c.Q.L c.X c.mode s).length ≤ 16 := by
    have h1 := mvsT_len c.Q.L c.X c.mode s (fun t ht => hs.ok.wlen t (by rw [← hs.ok.ths]; exact ht)) s.ths.length (Nat.le_refl _)
    rw [mvsT_all] at h1
    have h2 := hs.ok.ths
    have h3 := hc.cok.n4
    omega
  obtain ⟨ML, hML⟩ : ∃ n, (movesX c.Q.L c.X c.mode s).length = n := ⟨_, rfl⟩
  have HML : Hid ((movesX c.Q.L c.X c.mode s).length = ML) := hML
  rw [hML] at HP hm16
  by_cases hz : ML = 0
  · subst hz
    have hnil : movesX c.Q.L c.X c.mode s = [] := List.eq_nil_of_length_eq_zero hML
    obtain ⟨st, hst⟩ : ∃ st : Int, (if endedX c.Q.L s then 0 else 2) = st := ⟨_, rfl⟩
    have HRE : Hid (∀ V, Below W.heap.size W V → Calls Tryz.prog 50 #[.pointer (some ⟨sb, 0, none⟩)] V fun e w' => e = .returned (.int .i64 st) ∧ Below V.heap.size V w') := fun V hb => by
      have h := rest_any V 0 (c.Q.at bb) sb mb v s c.n (hq.below hb) hs.ok.ths hc.n0 hc.cok.n4 hc.cok.L4 hs.ok.pc
      rw [← ended_bare (fun t ht => moves_bare hnil ht)] at h
      rw [← hst]
      exact h
    have HWO : Hid (∀ V, Below W.heap.size W V → Calls Tryz.prog 146 #[.pointer (some ⟨mb, 0, none⟩)] V fun e w' => ∃ a cap, e = .returned (.slice a s.words.length cap) ∧ w'.ownsRow V.heap.size 3 1 (.slice a s.words.length cap) s.words.length (intsV s.words) ∧ Below V.heap.size V w') := fun V hb => words_any V 0 (c.Q.at bb) sb mb v s (hq.below hb) (by rw [hs.ok.words]; exact hc.cok.m64)
    have HPR : Hid (∀ V, Below W.heap.size W V → Calls Tryz.prog 51 #[.pointer (some ⟨sb, 0, none⟩)] V fun e w' => ∃ a c, e = .returned (.slice a s.prints.length c) ∧ w'.ownsRow V.heap.size 3 1 (.slice a s.prints.length c) s.prints.length (intsV s.prints) ∧ Below V.heap.size V w') := fun V hb => prints_any V 0 (c.Q.at bb) sb mb v s (hq.below hb) (by have := hs.pr; omega)
    have HMW : Hid (∀ V, Below W.heap.size W V → (method 325 c.Q.K.tid (.pointer (some ⟨(c.Q.at bb).top mb, 0, none⟩)) "Words").run Tryz.prog V = .ok (146, .pointer (some ⟨mb, 0, none⟩)) V) := fun V hb => hc.hM.mWords V 0 (c.Q.at bb) sb mb v s rfl (hq.below hb)
    have HC0 : Hid (∀ V, Below W.heap.size W V → V.cell? ⟨sb, 0, none⟩ = some (.iface c.Q.K.tid (.pointer (some ⟨(c.Q.at bb).top mb, 0, none⟩)))) := fun V hb => (hq.below hb).c0
    obtain ⟨a, cp, hbx, _, _⟩ := hI.box
    have hcell : W.cell? ⟨lb, 0, none⟩ = some (.slice a es.length cp) := box_cell hbx rfl
    obtain ⟨n, hn⟩ : ∃ n, es.length = n := ⟨_, rfl⟩
    have HN : Hid (es.length = n) := hn
    obtain ⟨pn, hpn⟩ : ∃ n, s.prints.length = n := ⟨_, rfl⟩
    obtain ⟨wn, hwn⟩ : ∃ n, s.words.length = n := ⟨_, rfl⟩
    rw [hn] at hcell hl
    have HFIN : Hid (∀ w3 w4 b wa wcc pa pcc, W.heap.size ≤ b → w3.ownsRow b 3 1 (.slice wa wn wcc) wn (intsV s.words) → Below W.heap.size W w3 → w4.ownsRow w3.heap.size 3 1 (.slice pa pn pcc) pn (intsV s.prints) → Below w3.heap.size w3 w4 → ∃ g cap w5, (AppS #[42, 42] 42 #[.slice a n cp, .slice (some ⟨w4.heap.size, 0, none⟩) 1 1]).run Tryz.prog (w4.alloc (.cells #[.int .i64 st, .slice wa wn wcc, .slice pa pn pcc] 46)) = .ok (.slice (some ⟨g, 0, none⟩) (n + 1) cap) w5 ∧ w5.cell? ⟨lb, 0, none⟩ = some (.slice a n cp) ∧ w5.frozen? ⟨lb, 0, none⟩ = false ∧
        Hid (∃ x, x.o = ⟨st, s.words, s.prints⟩ ∧ OlI (w5.setCell ⟨lb, 0, none⟩ (.slice (some ⟨g, 0, none⟩) (n + 1) cap)) c.B c.km lb (es ++ [x]) ∧ Fr c.B (NO c.km) W (w5.setCell ⟨lb, 0, none⟩ (.slice (some ⟨g, 0, none⟩) (n + 1) cap)))) := fun w3 w4 b wa wcc pa pcc hb0 h1 h2 h3 h4 => by
      have hb : Below W.heap.size W w4 := h2.trans (h4.mono h2.size)
      have hc2 := (hb.cell (lt_of_cell hcell)).trans hcell
      have hJ : EnJ w4 c.B ⟨⟨st, s.words, s.prints⟩, wa, wcc, pa, pcc⟩ := ⟨by
        show World.ownsRow _ _ _ _ (.slice wa s.words.length wcc) s.words.length _
        rw [hwn]
        exact own_low (fam_keeps h1 (fun g hg => h4.block g (h1.lt g hg).2)) (Nat.le_trans hB hb0), by
        show World.ownsRow _ _ _ _ (.slice pa s.prints.length pcc) s.prints.length _
        rw [hpn]
        exact own_low h3 (Nat.le_trans hB h2.size), by
        show s.words.length ≤ _
        rw [hs.ok.words]; have := hc.cok.m64; omega, by
        show s.prints.length ≤ _
        have := hs.pr; omega⟩
      obtain ⟨g, cap, w5, r1, z1, z2, HH⟩ := (hI.below hB hb).push_at (Nat.le_trans hB hb.size) hn hl _ hJ hc2
      refine ⟨g, cap, w5, ?_, z1, z2, ⟨_, rfl, HH.out.1, (Fr.of_below hB hb).trans HH.out.2⟩⟩
      rw [← hpn, ← hwn]
      exact r1
    have HLB : Hid (∀ V, Below W.heap.size W V → V.cell? ⟨lb, 0, none⟩ = some (.slice a n cp)) := fun V hb => (hb.cell (lt_of_cell hcell)).trans hcell
    have HEND : Hid (∀ W', (∃ x, x.o = ⟨st, s.words, s.prints⟩ ∧ OlI W' c.B c.km lb (es ++ [x]) ∧ Fr c.B (NO c.km) W W') → SeeQ c lb W es s W') := fun W' ⟨x, hx, h1, h2⟩ => by
      refine ⟨h2, _, h1, by rw [List.length_append]; exact Nat.le_refl _, fun o => ?_⟩
      rw [List.map_append, List.mem_append, List.map_singleton, List.mem_singleton, hx, hst]
      exact ⟨fun h => h.imp id (fun h => ⟨hnil, h⟩), fun h => h.imp id (·.2)⟩
    rw [hwn] at HWO
    rw [hpn] at HPR
    clear hI hbx hq hB hn hpn hwn hs hk hlow hcell hc hst hML hnil HML
    go_enter Tryz.func48, Tryz.ntmps48
    go_wp2_with fail
    refine Calls.mono HP.out ?_
    rintro e w1 ⟨a1, l1, c1, rfl, rfl, hb1⟩
    have u0 := HC0.out w1 hb1
    have u1 := HLB.out w1 hb1
    clear HP
    go_wp2_with fail
    go_region_with (first | (go_at_call 50; refine Calls.mono (HRE.out _ hb1.drew) ?_; rintro e w2 ⟨rfl, hb2⟩; have hB2 : Below W.heap.size W w2 := hb1.drew.trans (hb2.mono hb1.size); have y0 := HC0.out w2 hB2; have y1 := HLB.out w2 hB2; have y2 := HMW.out w2 hB2) | (go_at_call 146; refine Calls.mono (HWO.out _ hB2) ?_; rintro e w3 ⟨wa, wcc, rfl, ho3, hb3⟩; have hB3 : Below W.heap.size W w3 := hB2.trans (hb3.mono hB2.size); have x1 := HLB.out w3 hB3) | (go_at_call 51; refine Calls.mono (HPR.out _ hB3) ?_; rintro e w4 ⟨pa, pcc, rfl, ho4, hb4⟩; have hB4 : Below W.heap.size W w4 := hB3.trans (hb4.mono hB3.size); have v1 := HLB.out w4 hB4; have v2 := cell_up v1; obtain ⟨g, cap, w5, r1, z1, z2, HR⟩ := HFIN.out w3 w4 _ wa wcc pa pcc hB2.size ho3 hB3 ho4 hb4; clear ho3 ho4))
    all_goals go_end0
    all_goals exact ⟨rfl, HEND.out _ HR.out⟩
  · have hne : movesX c.Q.L c.X c.mode s ≠ [] := fun e => hz (by rw [← hML, e]; rfl)
    have HI : Hid (∀ V, Below W.heap.size W V → SeeQ c lb W es s V) := fun V hb => ⟨Fr.of_below hB hb, es, hI.below hB hb, Nat.le_succ _, fun o => ⟨Or.inl, fun h => h.resolve_right (fun h => hne h.1)⟩⟩
    have hz' : ¬ (ML : Int) = 0 := by omega
    clear hI hq hB hs hk hlow hc hML hne
    go_enter Tryz.func48, Tryz.ntmps48
    go_wp2_with fail
    refine Calls.mono HP.out ?_
    rintro e w1 ⟨a1, l1, c1, rfl, rfl, hb1⟩
    clear HP
    go_wp2_with fail
    go_end0
    exact ⟨rfl, HI.out _ (by first | exact hb1 | exact hb1.drew)⟩
end

section
open Go.RowKit Go.Sort Go.Shelf

section
variable {L : Nat → Nat} {X : Nat → Nat → Nat → Int} {mode : Int} {Z F : List Sx} {s : Sx} {o : Oc}
theorem outc_see : outcX L X mode (Z ++ [s]) F o ↔ outcX L X mode Z F o ∨ (movesX L X mode s = [] ∧ o = ⟨if endedX L s then 0 else 2, s.words, s.prints⟩) := by
  unfold outcX
  constructor
  · rintro (⟨t, ht, h⟩ | h)
    · rcases List.mem_append.mp ht with ht | ht
      · exact Or.inl (Or.inl ⟨t, ht, h⟩)
      · rw [List.mem_singleton.mp ht] at h; exact Or.inr h
    · exact Or.inl (Or.inr h)
  · rintro ((⟨t, ht, h⟩ | h) | h)
    · exact Or.inl ⟨t, List.mem_append_left _ ht, h⟩
    · exact Or.inr h
    · exact Or.inl ⟨s, by simp, h⟩
theorem outc_fell : outcX L X mode Z (F ++ [s]) o ↔ outcX L X mode Z F o ∨ o = ⟨1, [], s.prints⟩ := by
  unfold outcX
  constructor
  · rintro (h | ⟨t, ht, h⟩)
    · exact Or.inl (Or.inl h)
    · rcases List.mem_append.mp ht with ht | ht
      · exact Or.inl (Or.inr ⟨t, ht, h⟩)
      · rw [List.mem_singleton.mp ht] at h; exact Or.inr h
  · rintro ((h | ⟨t, ht, h⟩) | h)
    · exact Or.inl h
    · exact Or.inr ⟨t, List.mem_append_left _ ht, h⟩
    · exact Or.inr ⟨s, by simp, h⟩
end
/-- What was noted down of those that were seen and those that fell. -/
def ObO (c : Wc) (lb : Nat) (W : World) (Z F : List Sx) : Prop := ∃ es, OlI W c.B c.km lb es ∧ (∀ o, o ∈ es.map En.o ↔ outcX c.Q.L c.X c.mode Z F o) ∧ es.length ≤ Z.length + F.length
/-- Outcomes' see and fell. -/
theorem obs_out (c : Wc) (hc : WcOk c) (hty : ∀ r, pTy c.Q.K r ≠ 46 ∧ pTy c.Q.K r ≠ 42) (lb : Nat) : Obs c 48 52 #[.pointer (some ⟨lb, 0, none⟩)] #[.pointer (some ⟨lb, 0, none⟩)] (NO c.km) (ObO c lb) where
  fnS := enters_of Tryz.func48 (by kernel_rfl) rfl
  fnF := enters_of Tryz.func52 (by kernel_rfl) rfl
  n1 k cs t ht := by
    refine no_cells (fun e => ?_) (fun e => ?_)
    · rw [e] at ht; revert ht; unfold wTy; decide
    · rw [e] at ht; revert ht; unfold wTy; decide
  n2 o h := h.1 rfl
  n3 r k cs := no_cells (hty r).1 (hty r).2
  keep W W' Z F h hf := by
    obtain ⟨es, h1, h2⟩ := h
    exact ⟨es, h1.fr hf (fun k c => nw_cells (by unfold wTy; decide)) (fun k c => nw_cells (by unfold wTy; decide)) (fun k c => nw_cells (by unfold wTy; decide)), h2⟩
  see W Z F sb mb bb v s k h hq hs hk hZ hF hlow := by
    obtain ⟨es, h1, h2, h3⟩ := h
    refine Calls.mono (osee_any c hc lb W es sb mb bb v s k h1 (by omega) hq hs hk hlow) ?_
    rintro e W' ⟨he, hfr, es', g1, g2, g3⟩
    refine ⟨he, ⟨es', g1, fun o => ?_, by rw [List.length_append, List.length_singleton]; omega⟩, hfr⟩
    rw [g3 o, h2 o]
    exact outc_see.symm
  fell W Z F sb mb bb v s h hq hp hZ hF hlow := by
    obtain ⟨es, h1, h2, h3⟩ := h
    refine Calls.mono (ofell_any c lb W es sb mb bb v s h1 (by omega) hq (by omega) (by rw [hc.Bw]; exact hlow.size)) ?_
    rintro e W' ⟨he, hfr, x, hx, g1⟩
    refine ⟨he, ⟨es ++ [x], g1, fun o => ?_, by rw [List.length_append, List.length_append, List.length_singleton, List.length_singleton]; omega⟩, hfr⟩
    rw [List.map_append, List.mem_append, h2 o, List.map_singleton, List.mem_singleton, hx]
    exact outc_fell.symm
end

section
open Go.RowKit Go.Sort Go.Shelf

section
variable {w w' : World} {B : Nat} {a : Option Addr} {n c : Nat} {es : List En}
/-- How a list lies. -/
theorem IsO.lies (h : IsO w B a n c es) : (a = none ∧ n = 0 ∧ c = 0) ∨ ∃ g cur, a = some ⟨g, 0, none⟩ ∧ B ≤ g ∧ n ≤ c ∧ w.heap[g]? = some (.cells cur 46) := by
  rcases h.own.2 with ⟨h0, _⟩ | ⟨g, cap, cur, hv, hg, hh, h1, _⟩
  · simp only [Value.slice.injEq] at h0
    exact Or.inl h0
  · simp only [Value.slice.injEq, true_and] at hv
    exact Or.inr ⟨g, cur, hv.1, hg, by rw [hv.2]; exact h1, hh⟩
theorem EnJ.srt {e : En} {g : Nat} {cur : Array Value} (h : EnJ w B e) (hg : w.heap[g]? = some (.cells cur 46)) (hs : Srt B w w' (some ⟨g, 0, none⟩)) : EnJ w' B e := by
  refine ⟨fam_keeps h.ws (fun k hk => hs.kept k (h.ws.lt k hk).2 (fun p hp e => ?_)), fam_keeps h.pr (fun k hk => hs.kept k (h.pr.lt k hk).2 (fun p hp e => ?_)), h.wl, h.pl⟩
  · rw [← Option.some.inj hp] at e
    exact own_type h.ws hg (by decide) (by rw [hk]; exact congrArg some e.symm)
  · rw [← Option.some.inj hp] at e
    exact own_type h.pr hg (by decide) (by rw [hk]; exact congrArg some e.symm)
/-- The list is sorted. -/
theorem sortJ_any (h : IsO w B a es.length c es) (hJ : ∀ e, e ∈ es → EnJ w B e) (hB : B ≤ w.heap.size) (hl : es.length ≤ 100000) :
    Calls Tryz.prog 55 #[.slice a es.length c, .func (.func 56) #[] #[]] w fun e w' => e = .returned (.tuple #[]) ∧ ∃ es', es'.Perm es ∧ es'.Pairwise (fun x y => aheadO y.o x.o = false) ∧ IsO w' B a es.length c es' ∧ (∀ e, e ∈ es' → EnJ w' B e) ∧ Srt B w w' a := by
  rcases Nat.eq_zero_or_pos es.length with h0 | h0
  · have he : es = [] := List.eq_nil_of_length_eq_zero h0
    subst he
    refine Calls.mono (AnyF.slices_SortFunc_none Tryz.sortOc a c _ w) ?_
    rintro e w' ⟨rfl, rfl⟩
    exact ⟨rfl, [], List.Perm.refl _, List.Pairwise.nil, h, hJ, Srt.refl _ _ _⟩
  · rcases h.lies with ⟨_, hz, _⟩ | ⟨g, cur, rfl, _, _, hh⟩
    · omega
    · refine Calls.mono (sort_any w B _ c es h (fun e he p hp => by rw [← Option.some.inj hp]; exact (hJ e he).off hh (by decide)) hB hl h0) ?_
      rintro e w' ⟨rfl, es', h1, h2, h3, h4⟩
      exact ⟨rfl, es', h1, h2, h3, fun e he => (hJ e (h1.mem_iff.mp he)).srt hh h4, h4⟩
end
set_option maxRecDepth 100000 in
set_option maxHeartbeats 800000 in
theorem compact_nil (w : World) :
    Calls Tryz.prog 57 #[nilV, .func (.func 44) #[] #[]] w fun e w' => e = .returned nilV ∧ w' = w := by
  go_enter Tryz.func57, Tryz.ntmps57
  go_wp2_with fail
  go_ret
  exact ⟨rfl, rfl⟩
/-- Of like ones one stays. -/
theorem compactJ_any {w : World} {B : Nat} {a : Option Addr} {c : Nat} {es : List En} (h : IsO w B a es.length c es) (hJ : ∀ e, e ∈ es → EnJ w B e) (hB : B ≤ w.heap.size) (hl : es.length ≤ 100000) :
    Calls Tryz.prog 57 #[.slice a es.length c, .func (.func 44) #[] #[]] w fun e w' => ∃ k es', e = .returned (.slice a k c) ∧ IsO w' B a k c es' ∧ es' = compE es es.length ∧ (∀ e, e ∈ es' → EnJ w' B e) ∧ Srt B w w' a := by
  rcases h.lies with ⟨rfl, hz, rfl⟩ | ⟨g, cur, rfl, hg, hc, hh⟩
  · have he : es = [] := List.eq_nil_of_length_eq_zero hz
    subst he
    refine Calls.mono (compact_nil w) ?_
    rintro e w' ⟨rfl, rfl⟩
    exact ⟨0, [], rfl, h, rfl, hJ, Srt.refl _ _ _⟩
  · refine Calls.mono (compact_any w B g c es h (fun e he => (hJ e he).off hh (by decide)) hB hg hl hc) ?_
    rintro e w' ⟨k, es', rfl, h1, h2, h3⟩
    exact ⟨k, es', rfl, h1, h2, fun e he => (hJ e (by rw [h2] at he; exact compE_mem (Nat.le_refl _) he)).srt hh h3, h3⟩
end

end Go.Proofs.YtefnmbnakphhfadGreatDoor
