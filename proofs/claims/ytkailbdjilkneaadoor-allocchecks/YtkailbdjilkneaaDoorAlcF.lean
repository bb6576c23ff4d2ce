/-
  The program's graph of a thread's registers is made.
-/
import Derived.Test.YtkailbdjilkneaaDoorAlcD
import Derived.Test.YtkailbdjilkneaaDoorAlcR
import Derived.Test.YtkailbdjilkneaaDoorOwnG
import Derived.Test.YtkailbdjilkneaaDoorCOkP
import Derived.Deep.LoopGhost
import Derived.Deep.CutRange
namespace Go.Proofs.YtkailbdjilkneaaDoor
open Go.RowKit

theorem ir_start (w : World) (n : Nat) (hn : n ≤ 1001) : ∃ w1, (Instr.makeSlice 23 (.int .i64 (n : Int)) (.int .i64 (n : Int))).run Tryd.prog w = .ok (.slice (some ⟨w.heap.size, 0, none⟩) n n) w1 ∧ IR w1 w.heap.size n ∧ Below w.heap.size w w1 := by
  obtain ⟨i, hi, hz0, hz1, hz2⟩ := info_is infoI
  obtain ⟨w1, r1, r2, r3⟩ := run_makeSlice_full (P := Tryd.prog) w w.heap.size 23 3 i (.int .i64 0) 1 Tryd.underlying23 hi hz0 hz1 .i64 .i64 n (by omega) (by rw [hz2]; omega) (by unfold maxLen; omega) (Nat.le_refl _)
  have hlow : Below w.heap.size w w1 := (Below.refl _ _).grown r3 (Nat.le_refl _) (fun k hk => by cases hk)
  refine ⟨w1, by simpa using r1, ?_, hlow⟩
  have e : (Value.int .i64 0).cells = #[Value.int .i64 0] := rfl
  rw [Nat.mul_one, e] at r2
  refine ⟨_, owns_heap r2, fun j hj => ⟨0, ?_⟩⟩
  simp [madeCells, hj, Nat.mod_one]
theorem ir_own {W : World} {B g n cap : Nat} {xs : List Int} (h : W.ownsRow B 3 1 (.slice (some ⟨g, 0, none⟩) n cap) n (intsV xs)) : IR W g n := by
  rcases h.2 with ⟨h0, _⟩ | ⟨g', cap', cur, hv, _, hh, _, _, h3, h4⟩
  · cases h0
  · simp only [Value.slice.injEq, Option.some.injEq, Addr.mk.injEq, and_true] at hv
    obtain ⟨rfl, -, rfl⟩ := hv
    refine ⟨cur, hh, fun i hi => ?_⟩
    have h5 : (cur.toList.take (n * 1))[i]? = cur[i]? := by rw [List.getElem?_take, if_pos (by omega)]; simp
    rw [h4] at h5
    have hx : i < xs.length := by
      have := h.1
      simp [intsV] at this
      omega
    refine ⟨xs[i], ?_⟩
    rw [← h5]
    simp [intsV, hx]
/-- While the numbers of others are being listed: k of them. -/
structure GrB (w W : World) (s1 gb ub ab rg k : Nat) (clV av : Value) : Prop where
  low : Below w.heap.size w W
  lo : w.heap.size ≤ gb ∧ w.heap.size ≤ ub ∧ w.heap.size ≤ ab ∧ gb < s1 ∧ ub < s1 ∧ ab < s1 ∧ w.heap.size ≤ s1 ∧ s1 ≤ W.heap.size
  box : W.heap[gb]? = some (.cells #[clV, .slice (some ⟨ub, 0, none⟩) rg rg, av, .slice (some ⟨ab, 0, none⟩) rg rg] 144)
  uses : IR W ub rg
  own : ∃ xs : List Int, W.ownsRow s1 3 1 av k (intsV xs)
  aside : BR W ab (List.replicate rg false)
theorem GrB.push {w W : World} {s1 gb ub ab rg k : Nat} {clV av : Value} (h : GrB w W s1 gb ub ab rg k clV av) (hk : k ≤ 1000) (x : Int) :
    ∃ g cap w3, (AppS #[23, 23] 23 #[av, .slice (some ⟨W.heap.size, 0, none⟩) 1 1]).run Tryd.prog (W.alloc (.cells #[.int .i64 x] 3)) = .ok (.slice (some ⟨g, 0, none⟩) (k + 1) cap) w3 ∧ w3.heap[gb]? = some (.cells #[clV, .slice (some ⟨ub, 0, none⟩) rg rg, av, .slice (some ⟨ab, 0, none⟩) rg rg] 144) ∧
      GrB w (w3.setCell ⟨gb, 2, none⟩ (.slice (some ⟨g, 0, none⟩) (k + 1) cap)) s1 gb ub ab rg (k + 1) clV (.slice (some ⟨g, 0, none⟩) (k + 1) cap) := by
  obtain ⟨xs, hown⟩ := h.own
  obtain ⟨l1, l2, l3, l4, l5, l6, l7, l8⟩ := h.lo
  obtain ⟨g, cap, w3, r1, r2, r3, r4⟩ := app_row (T := 23) Tryd.underlying23 infoI rfl (by omega) hown (Below.refl _ W) l8 1 #[.int .i64 x] rfl (by simp [Value.oneCell']) (by omega) (by omega) (by omega)
  have hbA : Below W.heap.size W (W.alloc (.cells #[.int .i64 x] 3)) := (Below.refl _ _).alloc (Nat.le_refl _) _
  have hlow : Below s1 W w3 := (hbA.mono l8).grown r3 (by simp; omega) (fun q hq => (hown.lt q hq).1)
  have hl3 : Below w.heap.size w w3 := h.low.trans (hlow.mono l7)
  have hg : s1 ≤ g := by
    rcases r4 with r4 | r4
    · exact (hown.lt g r4).1
    · omega
  have hbx := (hlow.block gb l4).trans h.box
  have hu := h.uses.keep (hlow.block ub l5)
  have ha : BR w3 ab (List.replicate rg false) := (hlow.block ab l6).trans h.aside
  have far : ∀ b (v : Value), b ≠ gb → (w3.setCell ⟨gb, 2, none⟩ v).heap[b]? = w3.heap[b]? := fun b v hb => Below.heap_setCell _ _ _ _ (fun e => hb (by simpa using e))
  obtain ⟨c, huc⟩ := hu.obj
  refine ⟨g, cap, w3, r1, hbx, ⟨hl3.setCell l1 _, ⟨l1, l2, l3, l4, l5, l6, l7, by have := hlow.size; simp; omega⟩, heap_set_same hbx, hu.keep (far ub _ (fun e => obj_neG huc hbx (by decide) e)), ⟨xs ++ [x], ?_⟩, (far ab _ (fun e => obj_neG ha hbx (by decide) e)).trans ha⟩⟩
  have e : intsV (xs ++ [x]) = intsV xs ++ #[Value.int .i64 x].toList := by simp [intsV]
  rw [e]
  exact fam_keeps r2 fun q hq => far q _ (by
    have : g = q := by simpa [Value.ownBlock] using hq
    omega)
theorem GrB.done {w W : World} {s1 gb ub ab rg : Nat} {clV av : Value} (h : GrB w W s1 gb ub ab rg rg clV av) (hrg : 0 < rg) : ∃ rb rc, av = .slice (some ⟨rb, 0, none⟩) rg rc ∧ GrV w W gb ub rb rc ab rg clV (List.replicate rg false) := by
  obtain ⟨xs, hown⟩ := h.own
  obtain ⟨rb, rc, rfl, hb, _⟩ := fam_block hown hrg
  obtain ⟨l1, l2, l3, l4, l5, l6, l7, l8⟩ := h.lo
  exact ⟨rb, rc, rfl, h.low, ⟨l1, l2, by omega, l3⟩, h.box, h.uses, ir_own hown, h.aside, by simp⟩

theorem GrB.begin {w W : World} {ub ab rg : Nat} {clV : Value} (hb : Below w.heap.size w W) (hi : IR W ub rg) (ha : BR W ab (List.replicate rg false)) (h1 : w.heap.size ≤ ub) (h2 : w.heap.size ≤ ab) :
    GrB w (W.alloc (.cells #[clV, .slice (some ⟨ub, 0, none⟩) rg rg, nilV, .slice (some ⟨ab, 0, none⟩) rg rg] 144)) (W.heap.size + 1) W.heap.size ub ab rg 0 clV nilV := by
  have hA : Below W.heap.size W (W.alloc (.cells #[clV, .slice (some ⟨ub, 0, none⟩) rg rg, nilV, .slice (some ⟨ab, 0, none⟩) rg rg] 144)) := below_one _ _
  have l1 := hi.lt
  have l2 := ha.lt
  have l3 := hb.size
  exact ⟨hb.trans (hA.mono l3), ⟨l3, h1, h2, by omega, by omega, by omega, by omega, by simp⟩, heap_alloc_new _ _, hi.below hA, ⟨[], World.ownsRow_nil _ _ _ _⟩, ha.below hA⟩
theorem wrt_pos {rg m lk sz : Nat} {op a b c : Int} (hw : op = 1 ∨ op = 2 ∨ op = 3 ∨ op = 4 ∨ op = 5 ∨ op = 6 ∨ op = 7 ∨ op = 8 ∨ op = 10 ∨ op = 13) (ho : ordE rg m lk sz op a b c = 0) : 0 ≤ wrL op a b := by
  rcases hw with rfl | rfl | rfl | rfl | rfl | rfl | rfl | rfl | rfl | rfl
  · have := ok_const ho; have e : wrL 1 a b = a := rfl; omega
  · have := (ok_rr (by omega) ho).1; have e : wrL 2 a b = a := rfl; omega
  · have := (ok_rrr (by omega) ho).1; have e : wrL 3 a b = a := rfl; omega
  · have := (ok_rrr (by omega) ho).1; have e : wrL 4 a b = a := rfl; omega
  · have := (ok_rrr (by omega) ho).1; have e : wrL 5 a b = a := rfl; omega
  · have := (ok_rrr (by omega) ho).1; have e : wrL 6 a b = a := rfl; omega
  · have := (ok_rrr (by omega) ho).1; have e : wrL 7 a b = a := rfl; omega
  · have := (ok_load ho).1; have e : wrL 8 a b = a := rfl; omega
  · have := (ok_rr (by omega) ho).1; have e : wrL 10 a b = a := rfl; omega
  · have := (ok_cas ho).2.1; have e : wrL 13 a b = b := rfl; omega

attribute [local go_sem ↓] appS_eq in
set_option maxRecDepth 100000 in
set_option maxHeartbeats 3200000 in
theorem ngraph_any (w : World) (ca : Option Addr) (cc B : Nat) (yss : List (List Int)) (ka : Option Addr) (l kc : Nat) (X : Nat → Nat → Int) (rg m lk : Nat) (hrg0 : 0 < rg) (hrg : rg ≤ 200) (hl : l ≤ 1000) (hO : O2 w B (.slice ca rg cc) yss) (hyl : yss.length = rg)
    (hord : ∀ i, i < l → OrdAt w ka i (X i 0) (X i 1) (X i 2) (X i 3)) (hok : ∀ i, i < l → ordE rg m lk l (X i 0) (X i 1) (X i 2) (X i 3) = 0) :
    Calls Tryd.prog 46 #[.slice ca rg cc, .slice ka l kc] w fun e w' => ∃ gb ub rb rc ab, e = .returned (.pointer (some ⟨gb, 0, none⟩)) ∧ GrV w w' gb ub rb rc ab rg (.slice ca rg cc) (List.replicate rg false) := by
  have HO : Hid (O2 w B (.slice ca rg cc) yss) := hO
  have HYL := Hid.out (p := Hid _) hyl
  have HORD := Hid.out (p := Hid _) hord
  have HOK := Hid.out (p := Hid _) hok
  -- both rows, in either order
  obtain ⟨wA, runA, irA, bA⟩ := ir_start w.drew rg (by omega)
  obtain ⟨wB, runB, brB, bB⟩ := truths_start wA rg (by omega)
  obtain ⟨wC, runC, brC, bC⟩ := truths_start w.drew rg (by omega)
  obtain ⟨wD, runD, irD, bD⟩ := ir_start wC rg (by omega)
  have hd : w.drew.heap.size = w.heap.size := rfl
  rw [hd] at runA irA runC brC
  have H1 : Hid (Below w.heap.size w wB ∧ IR wB w.heap.size rg ∧ BR wB wA.heap.size (List.replicate rg false) ∧ w.heap.size ≤ wA.heap.size ∧ wA.heap.size < wB.heap.size) := by
    have hA : Below w.heap.size w wA := (Below.refl _ _).drew.trans bA
    exact ⟨hA.trans (bB.mono hA.size), irA.below bB, brB, hA.size, brB.lt⟩
  have H2 : Hid (Below w.heap.size w wD ∧ IR wD wC.heap.size rg ∧ BR wD w.heap.size (List.replicate rg false) ∧ w.heap.size ≤ wC.heap.size ∧ wC.heap.size < wD.heap.size) := by
    have hC : Below w.heap.size w wC := (Below.refl _ _).drew.trans bC
    exact ⟨hC.trans (bD.mono hC.size), irD, brC.below bD, hC.size, irD.lt⟩
  clear hO hyl hord hok hd irA bA brB bB brC bC irD bD
  go_enter Tryd.func46, Tryd.ntmps46
  go_upto_region 1 with fail
  go_cut [5] from 14 (fun s wx => ∃ gb, s = .pointer (some ⟨gb, 0, none⟩) ∧ Hid (∃ s1 ub ab, GrB w wx s1 gb ub ab rg 0 (.slice ca rg cc) nilV))
  case first =>
    go_region
    · go_wp2_with fail
      go_meet
      case rel => exact ⟨_, rfl, _, _, _, by first | exact GrB.begin H1.out.1 H1.out.2.1 H1.out.2.2.1 (Nat.le_refl _) H1.out.2.2.2.1 | exact (GrB.begin H1.out.1 H1.out.2.1 H1.out.2.2.1 (Nat.le_refl _) H1.out.2.2.2.1).drew⟩
    · go_wp2_with fail
      go_meet
      case rel => exact ⟨_, rfl, _, _, _, by first | exact GrB.begin H2.out.1 H2.out.2.1 H2.out.2.2.1 H2.out.2.2.2.1 (Nat.le_refl _) | exact (GrB.begin H2.out.1 H2.out.2.1 H2.out.2.2.1 H2.out.2.2.2.1 (Nat.le_refl _)).drew⟩
  case rest =>
    obtain ⟨gb, rfl, HB⟩ := hcut
    obtain ⟨s1, ub, ab, hB⟩ := HB.out
    have HB0 : Hid (GrB w wc s1 gb ub ab rg 0 (.slice ca rg cc) nilV) := hB
    clear HB hB H1 H2 runA runB runC runD
    go_wp2_with fail
    go_loopw [25] (fun kv wr => ∃ (k : Nat) (av : Value), k ≤ rg ∧ kv = .int .i64 k ∧ Hid (GrB w wr s1 gb ub ab rg k (.slice ca rg cc) av)) (fun kv _ => rg - (intOf kv).toNat)
    case atStart => exact ⟨0, nilV, Nat.zero_le _, rfl, HB0.out⟩
    case round =>
      clear HB0
      obtain ⟨k, av, hk, rfl, HI⟩ := hrel
      by_cases hkr : k < rg
      · have hkI : (k : Int) < (rg : Int) := by omega
        obtain ⟨g, x, rfl, -, hx, hxO⟩ := (HO.out.below HI.out.low).at (k := k) (by rw [HYL.out]; exact hkr)
        obtain ⟨xa, xc, rfl⟩ := hxO.form
        obtain ⟨xl, hxl⟩ : ∃ q, (yss.getD k []).length = q := ⟨_, rfl⟩
        rw [hxl] at hx
        obtain ⟨xs, hown⟩ := HI.out.own
        obtain ⟨aa, acp, rfl⟩ := owns_slice hown
        have c2 := box_cell (i := 2) HI.out.box rfl
        obtain ⟨g3, cap, w3, r3, hbx3, hN⟩ := HI.out.push (by omega) (xl : Int)
        have HN := Hid.out (p := Hid _) hN
        have b2 := box_cell (i := 2) hbx3 rfl
        have bf := box_free (i := 2) hbx3
        clear hxO hxl hown hbx3 hN
        go_wp2_with fail
        go_roundw
        case rel => exact ⟨k + 1, _, by omega, by go_num, HN.out⟩
        case measure => simp [intOf]; omega
      · obtain rfl : k = rg := by omega
        obtain ⟨rb, rc, rfl, hG⟩ := HI.out.done hrg0
        have HG : Hid (GrV w wr gb ub rb rc ab k (.slice ca k cc) (List.replicate k false)) := hG
        clear hG HI hk hkr
        go_wp2_with fail
        go_loopw [43] (fun iv wi => ∃ i : Nat, i ≤ l ∧ iv = .int .i64 i ∧ Hid (GrV w wi gb ub rb rc ab k (.slice ca k cc) (List.replicate k false))) (fun iv _ => l - (intOf iv).toNat)
        case atStart => exact ⟨0, Nat.zero_le _, rfl, HG.out⟩
        case round =>
          clear HG
          obtain ⟨i, hi, rfl, HI⟩ := hrel
          by_cases hil : i < l
          · have hiI : (i : Int) < (l : Int) := by omega
            obtain ⟨cb, co, rfl, c0, c1, c2, c3⟩ := (HORD.out i hil).below HI.out.low
            have hok := HOK.out i hil
            obtain ⟨x0, e0⟩ : ∃ v, X i 0 = v := ⟨_, rfl⟩
            obtain ⟨x1, e1⟩ : ∃ v, X i 1 = v := ⟨_, rfl⟩
            obtain ⟨x2, e2⟩ : ∃ v, X i 2 = v := ⟨_, rfl⟩
            obtain ⟨x3, e3⟩ : ∃ v, X i 3 = v := ⟨_, rfl⟩
            rw [e0] at c0 hok
            rw [e1] at c1 hok
            rw [e2] at c2 hok
            rw [e3] at c3 hok
            have HRD : Hid (∀ V, Calls Tryd.prog 84 #[ints4 x0 x1 x2 x3] V fun e w' => ∃ ra rc, e = .returned (.slice ra (rdL x0 x1 x2 x3).length rc) ∧ OwL w' V.heap.size (.slice ra (rdL x0 x1 x2 x3).length rc) (rdL x0 x1 x2 x3) ∧ Below V.heap.size V w') := fun V => reads_own _ _ _ _ (ok_op hok) V
            have HWT := Hid.out (p := Hid _) (fun V => writes_any x0 x1 x2 x3 (ok_op hok) V)
            have HRG := Hid.out (p := Hid _) (ok_rd hok)
            have HOD := Hid.out (p := Hid _) hok
            have HWG := Hid.out (p := Hid _) (ok_wr hok)
            have hrl : (rdL x0 x1 x2 x3).length ≤ 2 := by
              unfold rdL
              split
              · simp
              · split
                · simp
                · split
                  · simp
                  · split <;> simp
            obtain ⟨rs, hrs⟩ : ∃ rs, rdL x0 x1 x2 x3 = rs := ⟨_, rfl⟩
            rw [hrs] at HRD HRG hrl
            obtain ⟨ns, hns⟩ : ∃ n, rs.length = n := ⟨_, rfl⟩
            rw [hns] at HRD hrl
            have HNS := Hid.out (p := Hid _) hns
            have HI1 : Hid (GrV w (wr.alloc (.cells #[.int .i64 x0, .int .i64 x1, .int .i64 x2, .int .i64 x3] 44)) gb ub rb rc ab k (.slice ca k cc) (List.replicate k false) ∧ (wr.alloc (.cells #[.int .i64 x0, .int .i64 x1, .int .i64 x2, .int .i64 x3] 44)).heap[wr.heap.size]? = some (.cells #[.int .i64 x0, .int .i64 x1, .int .i64 x2, .int .i64 x3] 44)) := ⟨HI.out.below (below_one _ _), heap_alloc_new _ _⟩
            clear hok e0 e1 e2 e3 hrs hns
            go_wp2_with fail
            refine Calls.mono (HRD.out _) ?_
            rintro e w3 ⟨ra, rcc, rfl, hos, hb3⟩
            have HF : Hid (ub < wr.heap.size ∧ ab < wr.heap.size ∧ gb < wr.heap.size) := ⟨HI.out.uses.lt, HI.out.aside.lt, box_lt HI.out.box⟩
            have H3 : Hid (GrV w w3 gb ub rb rc ab k (.slice ca k cc) (List.replicate k false) ∧ w3.heap[wr.heap.size]? = some (.cells #[.int .i64 x0, .int .i64 x1, .int .i64 x2, .int .i64 x3] 44) ∧ OwL w3 (wr.heap.size + 1) (.slice ra ns rcc) rs) := ⟨HI1.out.1.below hb3, blk hb3 HI1.out.2, by rw [World.size_alloc] at hos; exact hos⟩
            clear hos hb3 HI1 HRD c0 c1 c2 c3
            go_wp2_with fail
            obtain ⟨z0, hz0⟩ : ∃ q, wr.heap.size = q := ⟨_, rfl⟩
            rw [hz0] at HF H3 ⊢
            clear hz0
            go_loopw [50] (fun qv wi => ∃ q : Nat, q ≤ ns ∧ qv = .int .i64 q ∧ Hid (GrV w wi gb ub rb rc ab k (.slice ca k cc) (List.replicate k false) ∧ wi.heap[z0]? = some (.cells #[.int .i64 x0, .int .i64 x1, .int .i64 x2, .int .i64 x3] 44) ∧ OwL wi (z0 + 1) (.slice ra ns rcc) rs)) (fun qv _ => ns - (intOf qv).toNat)
            case atStart => exact ⟨0, Nat.zero_le _, rfl, H3.out⟩
            case round =>
              clear H3
              obtain ⟨q, hq, rfl, HJ⟩ := hrel
              by_cases hqn : q < ns
              · have hqI : (q : Int) < (ns : Int) := by omega
                obtain ⟨lb, lo, rfl, hlc⟩ := HJ.out.2.2.sis q (by rw [HNS.out]; exact hqn)
                obtain ⟨h0, h1⟩ := HRG.out (rs.getD q 0) (by
                  rw [List.getD_eq_getElem?_getD, List.getElem?_eq_getElem (by rw [HNS.out]; exact hqn)]
                  exact List.getElem_mem _)
                obtain ⟨s, hs⟩ : ∃ s : Nat, rs.getD q 0 = s := ⟨(rs.getD q 0).toNat, by omega⟩
                rw [hs] at hlc h1
                have hsk : s < k := by omega
                have hsI : (s : Int) < (k : Int) := by omega
                have b1 := box_cell (i := 1) HJ.out.1.box rfl
                obtain ⟨v, u0⟩ := HJ.out.1.uses.at hsk
                have uf := HJ.out.1.uses.free s
                have HS : ∀ x : Int, Hid (GrV w (wr.setCell ⟨ub, s, none⟩ (.int .i64 x)) gb ub rb rc ab k (.slice ca k cc) (List.replicate k false) ∧ (wr.setCell ⟨ub, s, none⟩ (.int .i64 x)).heap[z0]? = some (.cells #[.int .i64 x0, .int .i64 x1, .int .i64 x2, .int .i64 x3] 44) ∧ OwL (wr.setCell ⟨ub, s, none⟩ (.int .i64 x)) (z0 + 1) (.slice (some ⟨lb, lo, none⟩) ns rcc) rs) := fun x => by
                  have hub := HF.out.1
                  have hn0 : z0 ≠ ub := by omega
                  refine ⟨HJ.out.1.setU s x, (Below.heap_setCell _ _ _ _ (fun e => hn0 (by simpa using e))).trans HJ.out.2.1, fam_keeps HJ.out.2.2 fun b hb => ?_⟩
                  have hn1 : b ≠ ub := by have := (HJ.out.2.2.lt b hb).1; omega
                  exact Below.heap_setCell _ _ _ _ (fun e => hn1 (by simpa using e))
                clear h0 h1 hs
                go_wp2_with fail
                go_roundw
                case rel => exact ⟨q + 1, by omega, by go_num, (HS _).out.1, (HS _).out.2.1, (HS _).out.2.2⟩
                case measure => simp [intOf]; omega
              · obtain rfl : q = ns := by omega
                have i0 := box_cell (i := 0) HJ.out.2.1 rfl
                have i1 := box_cell (i := 1) HJ.out.2.1 rfl
                have i2 := box_cell (i := 2) HJ.out.2.1 rfl
                have i3 := box_cell (i := 3) HJ.out.2.1 rfl
                go_wp2_with fail
                refine Calls.mono (HWT.out _) ?_
                rintro e w5 ⟨hw, hb5⟩
                have HG5 := Hid.out (p := Hid _) (HJ.out.1.below hb5)
                clear hb5 i0 i1 i2 i3
                rcases hw with ⟨x, rfl, hxe, hop⟩ | ⟨rfl, -⟩
                · have hwg := HWG.out
                  rw [← hxe] at hwg
                  have hx2 : 0 ≤ x ∧ x < k := by
                    rcases hwg with h | h
                    · exfalso
                      have h2 := wrt_pos hop HOD.out
                      rw [← hxe] at h2
                      omega
                    · exact h
                  obtain ⟨s, rfl⟩ : ∃ s : Nat, x = s := ⟨x.toNat, by omega⟩
                  have hsk : s < k := by omega
                  have hsI : (s : Int) < (k : Int) := by omega
                  have b1 := box_cell (i := 1) HG5.out.box rfl
                  obtain ⟨v, u0⟩ := HG5.out.uses.at hsk
                  have uf := HG5.out.uses.free s
                  have HS := fun x => Hid.out (p := Hid _) (HG5.out.setU s x)
                  clear hwg hx2 hxe hop
                  go_wp2_with fail
                  go_roundw
                  case rel => exact ⟨i + 1, by omega, by go_num, (HS _).out⟩
                  case measure => simp [intOf]; omega
                · go_wp2_with fail
                  go_roundw
                  case rel => exact ⟨i + 1, by omega, by go_num, HG5.out⟩
                  case measure => simp [intOf]; omega
          · obtain rfl : i = l := by omega
            go_wp2_with fail
            go_ret
            exact ⟨gb, ub, rb, rc, ab, rfl, HI.out⟩

end Go.Proofs.YtkailbdjilkneaaDoor
