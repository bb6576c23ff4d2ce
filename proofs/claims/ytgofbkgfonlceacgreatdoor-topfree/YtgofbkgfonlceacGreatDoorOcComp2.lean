/-
  A clash, into its place, once, by the document.
  Clashes as keys of a map.
  Of outcomes that are the same one stays, by the program: slices.CompactFunc.
  Those who look on note outcomes down.
  The list of outcomes is sorted, and of like ones one stays.
-/
import Derived.Test.YtgofbkgfonlceacGreatDoorRcP
import Derived.Test.YtgofbkgfonlceacGreatDoorRMay
import Derived.Test.YtgofbkgfonlceacGreatDoorRcTp
import Derived.Test.YtgofbkgfonlceacGreatDoorWCome2
import Derived.DeepKeys4
import Derived.Maps.OwnSet
import Derived.Test.YtgofbkgfonlceacGreatDoorOcSame
import Derived.Test.YtgofbkgfonlceacGreatDoorOcList
import Derived.Shelf.SlSortCmp.NoneTotal
namespace Go.Proofs.YtgofbkgfonlceacGreatDoor
section
open Go.RowKit

/-- A clash, as it is handed on. -/
abbrev clV (x0 x1 x2 x3 x4 : Int) : Value := .agg #[.int .i64 x0, .int .i64 x1, .int .i64 x2, .int .i64 x3, .int .i64 x4]
/-- A list of clashes that is being made. -/
structure IsC (w : World) (B : Nat) (a : Option Addr) (len c : Nat) (l : List (List Int)) : Prop where
  is : l.length = len
  five : ∀ x, x ∈ l → x.length = 5
  own : w.ownsRow B 97 5 (.slice a len c) len (intsV l.flatten)
theorem IsC.nil (w : World) (B : Nat) : IsC w B none 0 0 [] := ⟨rfl, fun x hx => (by cases hx), World.ownsRow_nil _ _ _ _⟩
theorem len5 : ∀ {x : List Int}, x.length = 5 → ∃ x0 x1 x2 x3 x4, x = [x0, x1, x2, x3, x4]
  | [a, b, c, d, e], _ => ⟨a, b, c, d, e, rfl⟩
theorem flat_at : ∀ {l : List (List Int)} {i j : Nat}, (∀ x, x ∈ l → x.length = 5) → i < l.length → j < 5 → (intsV l.flatten)[i * 5 + j]? = some (.int .i64 ((l.getD i []).getD j 0))
  | [], i, j, _, h, _ => absurd h (Nat.not_lt_zero _)
  | x :: l, 0, j, h5, _, hj => by
    obtain ⟨x0, x1, x2, x3, x4, rfl⟩ := len5 (h5 x (by simp))
    match j, hj with
    | 0, _ => rfl
    | 1, _ => rfl
    | 2, _ => rfl
    | 3, _ => rfl
    | 4, _ => rfl
  | x :: l, i + 1, j, h5, hi, hj => by
    have ih := flat_at (l := l) (i := i) (j := j) (fun y hy => h5 y (by simp [hy])) (by simpa using hi) hj
    obtain ⟨x0, x1, x2, x3, x4, rfl⟩ := len5 (h5 x (by simp))
    rw [show (i + 1) * 5 + j = i * 5 + j + 1 + 1 + 1 + 1 + 1 by omega]
    exact ih
theorem infoClash : (Tryz.prog.info? 97).map (fun i => (i.zero, i.size, i.bytes)) = some (some (.agg #[.int .i64 0, .int .i64 0, .int .i64 0, .int .i64 0, .int .i64 0]), 5, 40) := by kernel_rfl
theorem IsC.push {w0 w W : World} {B : Nat} {a : Option Addr} {len c : Nat} {l : List (List Int)} (h : IsC w B a len c l) (hb : Below w.heap.size w W) (hB : B ≤ w.heap.size) (hlen : len ≤ 100000) (x0 x1 x2 x3 x4 : Int) (h0 : Below B w0 W) :
    ∃ g cap w3, (AppS #[27, 27] 27 #[.slice a len c, .slice (some ⟨W.heap.size, 0, none⟩) 1 1]).run Tryz.prog (W.alloc (.cells #[.int .i64 x0, .int .i64 x1, .int .i64 x2, .int .i64 x3, .int .i64 x4] 97)) = .ok (.slice (some ⟨g, 0, none⟩) (len + 1) cap) w3 ∧ Hid (IsC w3 B (some ⟨g, 0, none⟩) (len + 1) cap (l ++ [[x0, x1, x2, x3, x4]]) ∧ Below B w0 w3) := by
  obtain ⟨g, cap, w3, r1, r2, r3, _⟩ := app_row (T := 27) Tryz.underlying27 infoClash rfl (by omega) h.own hb hB 1 #[.int .i64 x0, .int .i64 x1, .int .i64 x2, .int .i64 x3, .int .i64 x4] rfl (by simp [Value.oneCell']) (by omega) (by omega) (by omega)
  have hBW := Nat.le_trans hB hb.size
  have e : intsV l.flatten ++ #[Value.int .i64 x0, .int .i64 x1, .int .i64 x2, .int .i64 x3, .int .i64 x4].toList = intsV (l ++ [[x0, x1, x2, x3, x4]]).flatten := by simp [intsV]
  exact ⟨g, cap, w3, r1, ⟨by simp [h.is], fun x hx => by
    rcases List.mem_append.mp hx with hx | hx
    · exact h.five x hx
    · rw [List.mem_singleton.mp hx]; rfl, by rw [← e]; exact r2⟩, (h0.alloc hBW _).grown r3 (by simp; omega) (fun k hk => (h.own.lt k hk).1)⟩
attribute [local go_sem ↓] appS_eq
end

section
open Go.RowKit

theorem rcLaid : laidOutB Tryz.prog = true := by kernel_rfl
theorem cellsCl : Tryz.prog.cellsOf 97 = 5 := by kernel_rfl
theorem cellsIn : Tryz.prog.cellsOf 3 = 1 := by kernel_rfl
theorem clKeyT : Tryz.prog.keyType 97 = true := by kernel_rfl
theorem typesS : ∃ m, Tryz.prog.types.size = m + 1 := ⟨Tryz.prog.types.size - 1, by kernel_rfl⟩
/-- Clashes are keys. -/
theorem clKeyed : Maps.Keyed Tryz.prog 97 := Maps.Keyed.of_law (deep_law_laid rcLaid (m := 3) (by decide) (of_decide_eq_true (by kernel_rfl)) (by kernel_rfl) (by kernel_rfl))
/-- What a clash reads as, as a key. -/
def clL (c : List Int) : Lit := .string (keyBytes (c.map fun x => .int .i64 x))
theorem keyLits_one {d : Nat} {x : Int} (hx : (Lit.int .i64 x).wf = true) : Tryz.prog.keyLits (d + 1) 3 [.int .i64 x] = some [.int .i64 x] := by
  unfold Program.keyLits
  rw [Tryz.underlying3]
  simp [hx]
theorem clKey {x0 x1 x2 x3 x4 : Int} (h0 : (Lit.int .i64 x0).wf = true) (h1 : (Lit.int .i64 x1).wf = true) (h2 : (Lit.int .i64 x2).wf = true) (h3 : (Lit.int .i64 x3).wf = true) (h4 : (Lit.int .i64 x4).wf = true) : keyOf Tryz.prog 97 (clV x0 x1 x2 x3 x4) = some (clL [x0, x1, x2, x3, x4]) := by
  obtain ⟨m, hm⟩ := typesS
  unfold keyOf
  have hu := Tryz.underlying97
  have hf : (clV x0 x1 x2 x3 x4).formed Tryz.prog 97 = true := by
    unfold Value.formed
    rw [hu, cellsCl]
    rfl
  rw [hu]
  simp only [clKeyT, hf, Bool.and_self, if_true]
  rw [hm]
  have hl : Tryz.prog.keyLits (m + 1 + 1) 97 (clV x0 x1 x2 x3 x4).cells.toList = some [.int .i64 x0, .int .i64 x1, .int .i64 x2, .int .i64 x3, .int .i64 x4] := by
    show Tryz.prog.keyLits (m + 1 + 1) 97 [.int .i64 x0, .int .i64 x1, .int .i64 x2, .int .i64 x3, .int .i64 x4] = _
    unfold Program.keyLits
    rw [hu]
    simp only [cellsCl]
    rw [if_pos ⟨rfl, by kernel_rfl⟩]
    simp [cellsIn, keyLits_one h0, keyLits_one h1, keyLits_one h2, keyLits_one h3, keyLits_one h4]
  rw [hl]
  rfl
/-- Two clashes that read alike as keys are the same. -/
theorem clL_inj {a b : List Int} (ha : a.length = 5) (hb : b.length = 5) (wa : ∀ x, x ∈ a → (Lit.int .i64 x).wf = true) (wb : ∀ x, x ∈ b → (Lit.int .i64 x).wf = true) (h : clL a = clL b) : a = b := by
  obtain ⟨a0, a1, a2, a3, a4, rfl⟩ := len5 ha
  obtain ⟨b0, b1, b2, b3, b4, rfl⟩ := len5 hb
  have h1 := clKey (wa a0 (by simp)) (wa a1 (by simp)) (wa a2 (by simp)) (wa a3 (by simp)) (wa a4 (by simp))
  have h2 := clKey (wb b0 (by simp)) (wb b1 (by simp)) (wb b2 (by simp)) (wb b3 (by simp)) (wb b4 (by simp))
  rw [← h] at h2
  have := clKeyed.inj h1 h2
  simp only [Value.agg.injEq, Array.mk.injEq, List.cons.injEq, Value.int.injEq, true_and, and_true] at this
  obtain ⟨rfl, rfl, rfl, rfl, rfl⟩ := this
  rfl
/-- A set of clashes lies in block fm. -/
structure SetC (w : World) (fm : Nat) (k : Nat) (P : List Int → Prop) : Prop where
  own : ∃ n D, n ≤ k ∧ w.ownsMap Tryz.prog 97 (unitElem (H := Unit)) fm n D ∧ ∀ l, Maps.has D l = true ↔ ∃ c, P c ∧ clL c = l
  five : ∀ c, P c → c.length = 5
  wf : ∀ c, P c → ∀ x, x ∈ c → (Lit.int .i64 x).wf = true
end

section
open Go.RowKit Go.Sort Go.Shelf

theorem run_clear_oc (W : World) (ty : TypeId) (b o m c : Nat) (hm : 0 < m) (hc : ∀ j, j < m * 3 → (W.cell? ⟨b, o + j, none⟩).isSome = true) (hf : ∀ j, j < m * 3 → W.frozen? ⟨b, o + j, none⟩ = false) :
    ∃ vs, (ClS #[40] ty #[.slice (some ⟨b, o, none⟩) m c]).run Tryz.prog W = .ok (.tuple #[]) (W.setCells b o vs) := by
  obtain ⟨i, hi, hz0, _, _⟩ := info_is infoOutcome
  have hv : ∀ w, (zeroValue 67).run Tryz.prog w = .ok (.agg #[.int .i64 0, nilV, nilV]) w := fun w => by simp [zeroValue, typeInfo, hi, hz0]
  obtain ⟨vs, hvs⟩ : ∃ vs, vs = (Builtin.zeroCells (Value.agg #[.int .i64 0, nilV, nilV]).cells m).toList := ⟨_, rfl⟩
  have hl : vs.length = m * 3 := by rw [hvs, Array.length_toList, size_zeroCells]; rfl
  have h1 : ∀ v ∈ vs, v.oneCell' = true := fun v hv' => by
    rw [hvs] at hv'
    unfold Builtin.zeroCells at hv'
    simp only [Array.toList_map, List.mem_map] at hv'
    obtain ⟨k, _, rfl⟩ := hv'
    show ((#[Value.int .i64 0, nilV, nilV] : Array Value)[k % 3]!).oneCell' = true
    rcases (by omega : k % 3 = 0 ∨ k % 3 = 1 ∨ k % 3 = 2) with e | e | e <;> rw [e] <;> rfl
  have hst := run_storeCells_cells (P := Tryz.prog) b o vs 0 W (by rw [hl]; simpa using hc) (by rw [hl]; simpa using hf) h1
  simp only [Nat.add_zero] at hst
  obtain ⟨q, rfl⟩ : ∃ q, m = q + 1 := ⟨m - 1, by omega⟩
  refine ⟨vs, ?_⟩
  unfold ClS
  simp [Builtin.clear_, run_underlying Tryz.underlying40, hv, ← hvs, hst]

attribute [local go_sem ↓] clS_eq
set_option maxRecDepth 100000 in
set_option maxHeartbeats 1600000 in
theorem compact_any (w : World) (B g c : Nat) (es : List En) (h : IsO w B (some ⟨g, 0, none⟩) es.length c es) (hX : ∀ e, e ∈ es → EnX w g e) (hB : B ≤ w.heap.size) (hg : B ≤ g) (hl : es.length ≤ 100000) (hc : es.length ≤ c) :
    Calls Tryz.prog 105 #[.slice (some ⟨g, 0, none⟩) es.length c, .func (.func 66) #[] #[]] w fun e w' => ∃ k es', e = .returned (.slice (some ⟨g, 0, none⟩) k c) ∧ IsO w' B (some ⟨g, 0, none⟩) k c es' ∧ es' = compE es es.length ∧ Srt B w w' (some ⟨g, 0, none⟩) := by
  have HX : Hid (∀ W k, Srt B w W (some ⟨g, 0, none⟩) → k < es.length → EnOk W (es.getD k default)) := fun W k hs hk => (hX _ (getD_in hk)).ok_at hs
  have HSM : Hid (∀ W i j, Srt B w W (some ⟨g, 0, none⟩) → i < es.length → j < es.length → Calls Tryz.prog 66 #[ocV (es.getD i default).o.st (es.getD i default).wa (es.getD i default).o.ws.length (es.getD i default).wc (es.getD i default).pa (es.getD i default).o.pr.length (es.getD i default).pc, ocV (es.getD j default).o.st (es.getD j default).wa (es.getD j default).o.ws.length (es.getD j default).wc (es.getD j default).pa (es.getD j default).o.pr.length (es.getD j default).pc] W fun e w' => e = .returned (.bool (decide ((es.getD i default).o = (es.getD j default).o))) ∧ Below W.heap.size W w') := fun W i j hs hi hj => same_any W _ _ (HX.out W i hs hi) (HX.out W j hs hj)
  have HS : Hid (IsO w B (some ⟨g, 0, none⟩) es.length c es ∧ B ≤ w.heap.size ∧ B ≤ g ∧ ∀ W, Srt B w W (some ⟨g, 0, none⟩) → True) := ⟨h, hB, hg, fun _ _ => trivial⟩
  obtain ⟨n, hn⟩ : ∃ n, es.length = n := ⟨_, rfl⟩
  have HN : Hid (es.length = n) := hn
  rw [hn] at hl hc HSM HS ⊢
  clear h hX hB hg hn HX
  by_cases h2 : n < 2
  · have h2' : (n : Int) < 2 := by omega
    go_enter Tryz.func105, Tryz.ntmps105
    go_wp2_with fail
    go_ret
    refine ⟨n, es, rfl, HS.out.1, ?_, Srt.refl _ _ _⟩
    rw [compE_take (by rw [HN.out]; exact Nat.le_refl _) (fun j h3 h4 => absurd h4 (by omega)), ← HN.out, List.take_length]
  · have h2' : ¬ (n : Int) < 2 := by omega
    go_enter Tryz.func105, Tryz.ntmps105
    go_wp2_with fail
    go_loopw [5] (fun i wr => ∃ k : Nat, 0 < k ∧ k ≤ n ∧ i = .int .i64 k ∧ Hid (IsO wr B (some ⟨g, 0, none⟩) n c es ∧ Srt B w wr (some ⟨g, 0, none⟩) ∧ ∀ j, 0 < j → j < k → (es.getD j default).o ≠ (es.getD (j - 1) default).o)) (fun i _ => n - (intOf i).toNat)
    case atStart => exact ⟨1, by omega, by omega, rfl, HS.out.1, Srt.refl _ _ _, fun j h3 h4 => absurd h4 (by omega)⟩
    case round =>
      obtain ⟨k, hk0, hk, rfl, HI⟩ := hrel
      by_cases hlt : k < n
      · obtain ⟨p, hp⟩ : ∃ p, k - 1 = p := ⟨_, rfl⟩
        have HPK : Hid (k - 1 = p) := hp
        have hpn : p < n := by omega
        have hsub : ((k : Nat) : Int) - 1 = (p : Int) := by omega
        obtain ⟨a0, a1, a2⟩ := HI.out.1.cells (k := k) hlt
        obtain ⟨b0, b1, b2⟩ := HI.out.1.cells (k := p) hpn
        obtain ⟨R, hR⟩ : ∃ R, decide ((es.getD k default).o = (es.getD p default).o) = R := ⟨_, rfl⟩
        have HR : Hid (decide ((es.getD k default).o = (es.getD p default).o) = R) := hR
        have hwr : IntKind.i64.wrap (p : Int) = p := by simp [IntKind.wrap, IntKind.bits, IntKind.signed]; omega
        obtain ⟨⟨⟨s1, l1, m1⟩, wa1, wc1, pa1, pc1⟩, hx1⟩ : ∃ x, es.getD k default = x := ⟨_, rfl⟩
        obtain ⟨⟨⟨s2, l2, m2⟩, wa2, wc2, pa2, pc2⟩, hx2⟩ : ∃ x, es.getD p default = x := ⟨_, rfl⟩
        have HC : Hid (Calls Tryz.prog 66 #[.agg #[.int .i64 s1, .slice wa1 l1.length wc1, .slice pa1 m1.length pc1], .agg #[.int .i64 s2, .slice wa2 l2.length wc2, .slice pa2 m2.length pc2]] wr.drew fun e w' => e = .returned (.bool R) ∧ Below wr.heap.size wr w') := by
          have h := HSM.out wr.drew k p ⟨HI.out.2.1.below.drew, HI.out.2.1.kept⟩ hlt hpn
          rw [hR, hx1, hx2] at h
          exact Calls.mono h fun e w' ⟨h1, h2⟩ => ⟨h1, (Below.refl _ _).drew.trans h2⟩
        rw [hx1] at a0 a1 a2
        rw [hx2] at b0 b1 b2
        dsimp only at a0 a1 a2 b0 b1 b2
        clear hR hp hx1 hx2
        go_wp2_with fail
        refine region_tail 10 (by kernel_rfl) (by kernel_rfl) ?_
        simp only [List.take_succ_cons, List.take_zero, List.drop_succ_cons, List.drop_zero]
        repeat still_step
        refine wpStill_nil ?_
        go_wp2_with fail
        refine Calls.mono HC.out ?_
        rintro e w1 ⟨rfl, hb1⟩
        have HI1 : Hid (IsO w1 B (some ⟨g, 0, none⟩) n c es ∧ Srt B w w1 (some ⟨g, 0, none⟩)) := ⟨HI.out.1.below hb1, HI.out.2.1.then_below HS.out.2.1 hb1⟩
        have HP : Hid (∀ j, 0 < j → j < k → (es.getD j default).o ≠ (es.getD (j - 1) default).o) := HI.out.2.2
        clear HC a0 a1 a2 b0 b1 b2 hb1 HI
        cases R with
        | false =>
          go_wp2_with fail
          go_roundw
          case rel =>
            refine ⟨k + 1, by omega, by omega, by go_num, HI1.out.1, HI1.out.2, fun j h3 h4 => ?_⟩
            rcases Nat.lt_or_ge j k with h5 | h5
            · exact HP.out j h3 h5
            · obtain rfl : j = k := by omega
              have := HR.out
              rw [decide_eq_false_iff_not, ← HPK.out] at this
              exact this
          case measure => simp [intOf]; omega
        | true =>
          have HCP : Hid (CpI w w1 B g n c es es k k 1) := by
            have he : (es.getD k default).o = (es.getD (k - 1) default).o := by rw [HPK.out]; exact of_decide_eq_true HR.out
            refine ⟨HI1.out.1, HI1.out.2, ?_, fun _ _ => rfl, by omega, by omega⟩
            rw [compE_same (by omega) he, compE_take (by rw [HN.out]; exact hk) HP.out]
          have hcp : ¬ c = k := by omega
          have HG : Hid (B ≤ w.heap.size ∧ B ≤ g) := ⟨HS.out.2.1, HS.out.2.2.1⟩
          have HK : Hid (0 < k ∧ k < n) := ⟨hk0, hlt⟩
          clear HI1 HP HR HPK hpn hsub hwr
          go_wp2_with fail
          obtain ⟨m, hm⟩ : ∃ m, n - k = m := ⟨_, rfl⟩
          have hkm : k + m = n := by omega
          rw [hm]
          go_loopw [5, 7] (fun i j wr => ∃ (kk q : Nat) (es2 : List En), 0 < q ∧ q ≤ m ∧ kk < n ∧ i = .int .i64 kk ∧ j = .int .i64 q ∧ Hid (CpI w wr B g n c es es2 k kk q)) (fun _ j _ => m - (intOf j).toNat)
          case atStart => exact ⟨k, 1, es, by omega, by omega, hlt, rfl, rfl, HCP⟩
          case round =>
            obtain ⟨kk, q, es2, hq0, hq, hkk, rfl, rfl, HI⟩ := hrel
            clear HCP
            by_cases hqm : q < m
            · obtain ⟨r, hr⟩ : ∃ r, q - 1 = r := ⟨_, rfl⟩
              have HRQ : Hid (q - 1 = r) := hr
              have hrm : r < m := by omega
              have hsub : ((q : Nat) : Int) - 1 = (r : Int) := by omega
              have hwr : IntKind.i64.wrap (r : Int) = r := by simp [IntKind.wrap, IntKind.bits, IntKind.signed]; omega
              have hk1 := HI.out.k1
              obtain ⟨a0, a1, a2⟩ := HI.out.is.cells (k := k + q) (by omega)
              obtain ⟨b0, b1, b2⟩ := HI.out.is.cells (k := k + r) (by omega)
              rw [HI.out.rest (k + q) (by omega), Nat.add_mul] at a0 a1 a2
              rw [HI.out.rest (k + r) (by omega), Nat.add_mul] at b0 b1 b2
              obtain ⟨R, hR⟩ : ∃ R, decide ((es.getD (k + q) default).o = (es.getD (k + r) default).o) = R := ⟨_, rfl⟩
              have HR : Hid (decide ((es.getD (k + q) default).o = (es.getD (k + r) default).o) = R) := hR
              have HNEW : Hid (∀ W, CpI w W B g n c es es2 k kk q → R = false → CpI w (W.setCells g (kk * 3) [.int .i64 (es.getD (k + q) default).o.st, .slice (es.getD (k + q) default).wa (es.getD (k + q) default).o.ws.length (es.getD (k + q) default).wc, .slice (es.getD (k + q) default).pa (es.getD (k + q) default).o.pr.length (es.getD (k + q) default).pc]) B g n c es (es2.set kk (es.getD (k + q) default)) k (kk + 1) (q + 1)) := fun W h e => by
                refine h.new HG.out.2 (by omega) ?_
                have := HR.out
                rw [e, decide_eq_false_iff_not] at this
                rw [show k + q - 1 = k + r by omega]
                exact this
              have HOLD : Hid (∀ W, CpI w W B g n c es es2 k kk q → R = true → CpI w W B g n c es es2 k kk (q + 1)) := fun W h e => by
                refine h.same ?_
                rw [show k + q - 1 = k + r by omega]
                exact of_decide_eq_true (HR.out.trans e)
              obtain ⟨⟨⟨s3, l3, m3⟩, wa3, wc3, pa3, pc3⟩, hx1⟩ : ∃ x, es.getD (k + q) default = x := ⟨_, rfl⟩
              obtain ⟨⟨⟨s4, l4, m4⟩, wa4, wc4, pa4, pc4⟩, hx2⟩ : ∃ x, es.getD (k + r) default = x := ⟨_, rfl⟩
              have HC : Hid (Calls Tryz.prog 66 #[.agg #[.int .i64 s3, .slice wa3 l3.length wc3, .slice pa3 m3.length pc3], .agg #[.int .i64 s4, .slice wa4 l4.length wc4, .slice pa4 m4.length pc4]] wr.drew fun e w' => e = .returned (.bool R) ∧ Below wr.heap.size wr w') := by
                have h := HSM.out wr.drew (k + q) (k + r) ⟨HI.out.srt.below.drew, HI.out.srt.kept⟩ (by omega) (by omega)
                rw [hR, hx1, hx2] at h
                exact Calls.mono h fun e w' ⟨h1, h2⟩ => ⟨h1, (Below.refl _ _).drew.trans h2⟩
              rw [hx1] at a0 a1 a2 HNEW
              rw [hx2] at b0 b1 b2
              dsimp only at a0 a1 a2 b0 b1 b2 HNEW
              clear hR hr hx1 hx2 hk1 HR
              go_wp2_with fail
              refine region_tail 10 (by kernel_rfl) (by kernel_rfl) ?_
              simp only [List.take_succ_cons, List.take_zero, List.drop_succ_cons, List.drop_zero]
              repeat still_step
              refine wpStill_nil ?_
              go_wp2_with fail
              refine Calls.mono HC.out ?_
              rintro e w2 ⟨rfl, hb2⟩
              have HI2 : Hid (CpI w w2 B g n c es es2 k kk q) := ⟨HI.out.is.below hb2, HI.out.srt.then_below HG.out.1 hb2, HI.out.take, HI.out.rest, HI.out.k1, HI.out.k0⟩
              have z0 := (hb2.cell (lt_of_cell a0)).trans a0
              have z1 := (hb2.cell (lt_of_cell a1)).trans a1
              have z2 := (hb2.cell (lt_of_cell a2)).trans a2
              clear HC a0 a1 a2 b0 b1 b2 hb2 HI
              cases R with
              | true =>
                go_wp2_with fail
                go_roundw
                case rel => exact ⟨kk, q + 1, es2, by omega, by omega, hkk, rfl, by go_num, HOLD.out _ HI2.out (by trivial)⟩
                case measure => simp [intOf]; omega
              | false =>
                have hk1 := HI2.out.k1
                have hkn : kk + 1 < n := by omega
                obtain ⟨c0, c1, c2⟩ := HI2.out.is.cells (k := kk) hkk
                have f0 : ∀ i, w2.frozen? ⟨g, i, none⟩ = false := fun i => fam_frozen HI2.out.is.own rfl i
                have HN2 : Hid (CpI w (((w2.setCell ⟨g, kk * 3, none⟩ (.int .i64 s3)).setCell ⟨g, kk * 3 + 1, none⟩ (.slice wa3 l3.length wc3)).setCell ⟨g, kk * 3 + 2, none⟩ (.slice pa3 m3.length pc3)) B g n c es (es2.set kk ⟨⟨s3, l3, m3⟩, wa3, wc3, pa3, pc3⟩) k (kk + 1) (q + 1)) := HNEW.out _ HI2.out rfl
                clear HNEW HOLD hk1
                go_wp2_with fail
                go_roundw
                case rel => exact ⟨kk + 1, q + 1, _, by omega, by omega, hkn, by go_num, by go_num, HN2⟩
                case measure => simp [intOf]; omega
            · obtain rfl : q = m := by omega
              have hck : ¬ c = kk := by omega
              have hown := HI.out.is.own
              obtain ⟨vs, hcl⟩ := run_clear_oc wr 0 g (kk * 3) (n - kk) (c - kk) (by omega) (fun j hj => by
                have hj' : kk * 3 + j < (ensV es2).length := by rw [ensV_len, HI.out.is.is]; omega
                rw [fam_cell hown rfl (List.getElem?_eq_getElem hj')]; rfl) (fun j hj => fam_frozen hown rfl _)
              have HF : Hid (IsO (wr.setCells g (kk * 3) vs) B (some ⟨g, 0, none⟩) kk c (es2.take kk) ∧ es2.take kk = compE es n ∧ Srt B w (wr.setCells g (kk * 3) vs) (some ⟨g, 0, none⟩)) := by
                refine ⟨⟨by rw [List.length_take, HI.out.is.is]; omega, ?_⟩, by rw [HI.out.take, hkm], HI.out.srt.puts HG.out.2 _ _⟩
                have h3 := fam_shrink (fam_puts rfl vs (kk * 3) wr _ hown) (m := kk) (by omega)
                rw [putL_take _ _ _ _ (Nat.le_refl _), ensV_take _ _ (by rw [HI.out.is.is]; omega)] at h3
                exact h3
              clear HI hown
              go_wp2_with fail
              go_ret
              exact ⟨kk, _, rfl, HF.out⟩
      · obtain rfl : k = n := by omega
        have HF : Hid (IsO wr B (some ⟨g, 0, none⟩) k c es ∧ es = compE es k ∧ Srt B w wr (some ⟨g, 0, none⟩)) := ⟨HI.out.1, by rw [compE_take (by rw [HN.out]; exact Nat.le_refl _) HI.out.2.2, ← HN.out, List.take_length], HI.out.2.1⟩
        clear HI
        go_wp2_with fail
        go_ret
        exact ⟨k, es, rfl, HF.out⟩
end

section
open Go.RowKit Go.Sort Go.Shelf

section
variable {L : Nat → Nat} {X : Nat → Nat → Nat → Int} {mode : Int} {Z F : List Sx} {s : Sx} {o : Oc}
theorem outc_see : outcX L X mode (Z ++ [s]) F o ↔ outcX L X mode Z F o ∨ (movesX L X mode s = [] ∧ o = ⟨if endedX L s then 0 else 2, s.words, s.prints⟩) := by
  unfold outcX
  constructor
  · rintro (⟨t, ht, h⟩ | h)
    · rcases List.mem_append.mp ht with ht | ht
      · exact Or.inl (Or.inl ⟨t, ht, h⟩)
      · rw [List.mem_singleton.mp ht] at h; exact Or.inr h
    · exact Or.inl (Or.inr h)
  · rintro ((⟨t, ht, h⟩ | h) | h)
    · exact Or.inl ⟨t, List.mem_append_left _ ht, h⟩
    · exact Or.inr h
    · exact Or.inl ⟨s, by simp, h⟩
theorem outc_fell : outcX L X mode Z (F ++ [s]) o ↔ outcX L X mode Z F o ∨ o = ⟨1, [], s.prints⟩ := by
  unfold outcX
  constructor
  · rintro (h | ⟨t, ht, h⟩)
    · exact Or.inl (Or.inl h)
    · rcases List.mem_append.mp ht with ht | ht
      · exact Or.inl (Or.inr ⟨t, ht, h⟩)
      · rw [List.mem_singleton.mp ht] at h; exact Or.inr h
  · rintro ((h | ⟨t, ht, h⟩) | h)
    · exact Or.inl h
    · exact Or.inr ⟨t, List.mem_append_left _ ht, h⟩
    · exact Or.inr ⟨s, by simp, h⟩
end
/-- What was noted down of those that were seen and those that fell. -/
def ObO (c : Wc) (lb : Nat) (W : World) (Z F : List Sx) : Prop := ∃ es, OlI W c.B c.km lb es ∧ (∀ o, o ∈ es.map En.o ↔ outcX c.Q.L c.X c.mode Z F o) ∧ es.length ≤ Z.length + F.length
/-- Outcomes' see and fell. -/
theorem obs_out (c : Wc) (hc : WcOk c) (hty : ∀ r, pTy c.Q.K r ≠ 67 ∧ pTy c.Q.K r ≠ 40) (lb : Nat) : Obs c 99 102 #[.pointer (some ⟨lb, 0, none⟩)] #[.pointer (some ⟨lb, 0, none⟩)] (NO c.km) (ObO c lb) where
  fnS := enters_of Tryz.func99 (by kernel_rfl) rfl
  fnF := enters_of Tryz.func102 (by kernel_rfl) rfl
  n1 k cs t ht := by
    refine no_cells (fun e => ?_) (fun e => ?_)
    · rw [e] at ht; revert ht; unfold wTy; decide
    · rw [e] at ht; revert ht; unfold wTy; decide
  n2 o h := h.1 rfl
  n3 r k cs := no_cells (hty r).1 (hty r).2
  keep W W' Z F h hf := by
    obtain ⟨es, h1, h2⟩ := h
    exact ⟨es, h1.fr hf (fun k c => nw_cells (by unfold wTy; decide)) (fun k c => nw_cells (by unfold wTy; decide)) (fun k c => nw_cells (by unfold wTy; decide)), h2⟩
  see W Z F sb mb bb v s k h hq hs hk hZ hF hlow := by
    obtain ⟨es, h1, h2, h3⟩ := h
    refine Calls.mono (osee_any c hc lb W es sb mb bb v s k h1 (by omega) hq hs hk hlow) ?_
    rintro e W' ⟨he, hfr, es', g1, g2, g3⟩
    refine ⟨he, ⟨es', g1, fun o => ?_, by rw [List.length_append, List.length_singleton]; omega⟩, hfr⟩
    rw [g3 o, h2 o]
    exact outc_see.symm
  fell W Z F sb mb bb v s h hq hp hZ hF hlow := by
    obtain ⟨es, h1, h2, h3⟩ := h
    refine Calls.mono (ofell_any c lb W es sb mb bb v s h1 (by omega) hq (by omega) (by rw [hc.Bw]; exact hlow.size)) ?_
    rintro e W' ⟨he, hfr, x, hx, g1⟩
    refine ⟨he, ⟨es ++ [x], g1, fun o => ?_, by rw [List.length_append, List.length_append, List.length_singleton, List.length_singleton]; omega⟩, hfr⟩
    rw [List.map_append, List.mem_append, h2 o, List.map_singleton, List.mem_singleton, hx]
    exact outc_fell.symm
end

section
open Go.RowKit Go.Sort Go.Shelf

section
variable {w w' : World} {B : Nat} {a : Option Addr} {n c : Nat} {es : List En}
/-- How a list lies. -/
theorem IsO.lies (h : IsO w B a n c es) : (a = none ∧ n = 0 ∧ c = 0) ∨ ∃ g cur, a = some ⟨g, 0, none⟩ ∧ B ≤ g ∧ n ≤ c ∧ w.heap[g]? = some (.cells cur 67) := by
  rcases h.own.2 with ⟨h0, _⟩ | ⟨g, cap, cur, hv, hg, hh, h1, _⟩
  · simp only [Value.slice.injEq] at h0
    exact Or.inl h0
  · simp only [Value.slice.injEq, true_and] at hv
    exact Or.inr ⟨g, cur, hv.1, hg, by rw [hv.2]; exact h1, hh⟩
theorem EnJ.srt {e : En} {g : Nat} {cur : Array Value} (h : EnJ w B e) (hg : w.heap[g]? = some (.cells cur 67)) (hs : Srt B w w' (some ⟨g, 0, none⟩)) : EnJ w' B e := by
  refine ⟨fam_keeps h.ws (fun k hk => hs.kept k (h.ws.lt k hk).2 (fun p hp e => ?_)), fam_keeps h.pr (fun k hk => hs.kept k (h.pr.lt k hk).2 (fun p hp e => ?_)), h.wl, h.pl⟩
  · rw [← Option.some.inj hp] at e
    exact own_type h.ws hg (by decide) (by rw [hk]; exact congrArg some e.symm)
  · rw [← Option.some.inj hp] at e
    exact own_type h.pr hg (by decide) (by rw [hk]; exact congrArg some e.symm)
/-- The list is sorted. -/
theorem sortJ_any (h : IsO w B a es.length c es) (hJ : ∀ e, e ∈ es → EnJ w B e) (hB : B ≤ w.heap.size) (hl : es.length ≤ 100000) :
    Calls Tryz.prog 103 #[.slice a es.length c, .func (.func 104) #[] #[]] w fun e w' => e = .returned (.tuple #[]) ∧ ∃ es', es'.Perm es ∧ es'.Pairwise (fun x y => aheadO y.o x.o = false) ∧ IsO w' B a es.length c es' ∧ (∀ e, e ∈ es' → EnJ w' B e) ∧ Srt B w w' a := by
  rcases Nat.eq_zero_or_pos es.length with h0 | h0
  · have he : es = [] := List.eq_nil_of_length_eq_zero h0
    subst he
    refine Calls.mono (AnyF.slices_SortFunc_none Tryz.sortOc a c _ w) ?_
    rintro e w' ⟨rfl, rfl⟩
    exact ⟨rfl, [], List.Perm.refl _, List.Pairwise.nil, h, hJ, Srt.refl _ _ _⟩
  · rcases h.lies with ⟨_, hz, _⟩ | ⟨g, cur, rfl, _, _, hh⟩
    · omega
    · refine Calls.mono (sort_any w B _ c es h (fun e he p hp => by rw [← Option.some.inj hp]; exact (hJ e he).off hh (by decide)) hB hl h0) ?_
      rintro e w' ⟨rfl, es', h1, h2, h3, h4⟩
      exact ⟨rfl, es', h1, h2, h3, fun e he => (hJ e (h1.mem_iff.mp he)).srt hh h4, h4⟩
end
set_option maxRecDepth 100000 in
set_option maxHeartbeats 800000 in
theorem compact_nil (w : World) :
    Calls Tryz.prog 105 #[nilV, .func (.func 66) #[] #[]] w fun e w' => e = .returned nilV ∧ w' = w := by
  go_enter Tryz.func105, Tryz.ntmps105
  go_wp2_with fail
  go_ret
  exact ⟨rfl, rfl⟩
/-- Of like ones one stays. -/
theorem compactJ_any {w : World} {B : Nat} {a : Option Addr} {c : Nat} {es : List En} (h : IsO w B a es.length c es) (hJ : ∀ e, e ∈ es → EnJ w B e) (hB : B ≤ w.heap.size) (hl : es.length ≤ 100000) :
    Calls Tryz.prog 105 #[.slice a es.length c, .func (.func 66) #[] #[]] w fun e w' => ∃ k es', e = .returned (.slice a k c) ∧ IsO w' B a k c es' ∧ es' = compE es es.length ∧ (∀ e, e ∈ es' → EnJ w' B e) ∧ Srt B w w' a := by
  rcases h.lies with ⟨rfl, hz, rfl⟩ | ⟨g, cur, rfl, hg, hc, hh⟩
  · have he : es = [] := List.eq_nil_of_length_eq_zero hz
    subst he
    refine Calls.mono (compact_nil w) ?_
    rintro e w' ⟨rfl, rfl⟩
    exact ⟨0, [], rfl, h, rfl, hJ, Srt.refl _ _ _⟩
  · refine Calls.mono (compact_any w B g c es h (fun e he => (hJ e he).off hh (by decide)) hB hg hl hc) ?_
    rintro e w' ⟨k, es', rfl, h1, h2, h3⟩
    exact ⟨k, es', rfl, h1, h2, fun e he => (hJ e (by rw [h2] at he; exact compE_mem (Nat.le_refl _) he)).srt hh h3, h3⟩
end

end Go.Proofs.YtgofbkgfonlceacGreatDoor
