/-
  The document's side: one register's truths; a list of a row of truths.
-/
import Derived.Test.YtocfocjnnjdcgaaDoorLivL
import Derived.Test.YtocfocjnnjdcgaaDoorLivC
import Derived.Deep.LoopGhost
namespace Go.Proofs.YtocfocjnnjdcgaaDoor
open Go.RowKit

def btV (l : List Bool) : List Value := l.map Value.bool
theorem btV_at {l : List Bool} {i : Nat} (h : i < l.length) : (btV l)[i]? = some (.bool (l.getD i false)) := by
  unfold btV
  rw [List.getElem?_map, List.getElem?_eq_getElem h]
  simp [List.getD, List.getElem?_eq_getElem h]
/-- A row of truths in a block. -/
def BR (w : World) (g : Nat) (R : List Bool) : Prop := w.heap[g]? = some (.cells (btV R).toArray 4)
section
variable {w w' : World} {g : Nat} {R : List Bool}
theorem BR.below (h : BR w g R) (hb : Below w.heap.size w w') : BR w' g R := (hb.block g (Array.getElem?_eq_some_iff.1 h).1).trans h
theorem BR.lt (h : BR w g R) : g < w.heap.size := (Array.getElem?_eq_some_iff.1 h).1
theorem BR.cell (h : BR w g R) {i : Nat} (hi : i < R.length) : w.cell? ⟨g, i, none⟩ = some (.bool (R.getD i false)) := box_cell h (by simpa using btV_at hi)
theorem BR.free (h : BR w g R) (i : Nat) : w.frozen? ⟨g, i, none⟩ = false := box_free h
theorem BR.put (h : BR w g R) (i : Nat) (b : Bool) : BR (w.setCell ⟨g, i, none⟩ (.bool b)) g (R.set i b) := by
  refine (heap_set_same h).trans ?_
  rw [List.setIfInBounds_toArray]
  simp [btV, List.map_set]
theorem BR.far (h : BR w g R) {b i : Nat} (hne : g ≠ b) (v : Value) : BR (w.setCell ⟨b, i, none⟩ v) g R := (Below.heap_setCell _ _ _ _ (fun x => hne (by simpa using x))).trans h
end
theorem owns_heap {w : World} {B g n : Nat} {e : TypeId} {xs : List Value} (h : w.ownsRow B e 1 (.slice (some ⟨g, 0, none⟩) n n) n xs) : w.heap[g]? = some (.cells xs.toArray e) := by
  rcases h.2 with ⟨h0, _⟩ | ⟨g', cap', cur, hv, _, hh, _, _, h3, h4⟩
  · cases h0
  · simp only [Value.slice.injEq, Option.some.injEq, Addr.mk.injEq, and_true] at hv
    obtain ⟨rfl, -, rfl⟩ := hv
    rw [hh, ← h4]
    congr 2
    rw [Nat.mul_one, List.take_of_length_le (by simp [h3])]
theorem infoBo : (Tryd.prog.info? 4).map (fun i => (i.zero, i.size, i.bytes)) = some (some (.bool false), 1, 1) := by kernel_rfl
theorem made_truths (n : Nat) : (madeCells #[Value.bool false] n).toList = btV (List.replicate n false) := by
  apply List.ext_getElem?
  intro i
  simp only [madeCells, btV]
  by_cases h : i < n
  · simp [h, Nat.mod_one]
  · simp [h]
theorem truths_start (w : World) (n : Nat) (hn : n ≤ 1001) : ∃ w1, (Instr.makeSlice 39 (.int .i64 (n : Int)) (.int .i64 (n : Int))).run Tryd.prog w = .ok (.slice (some ⟨w.heap.size, 0, none⟩) n n) w1 ∧ BR w1 w.heap.size (List.replicate n false) ∧ Below w.heap.size w w1 := by
  obtain ⟨i, hi, hz0, hz1, hz2⟩ := info_is infoBo
  obtain ⟨w1, r1, r2, r3⟩ := run_makeSlice_full (P := Tryd.prog) w w.heap.size 39 4 i (.bool false) 1 Tryd.underlying39 hi hz0 hz1 .i64 .i64 n (by omega) (by rw [hz2]; omega) (by unfold maxLen; omega) (Nat.le_refl _)
  have hlow : Below w.heap.size w w1 := (Below.refl _ _).grown r3 (Nat.le_refl _) (fun k hk => by cases hk)
  refine ⟨w1, by simpa using r1, ?_, hlow⟩
  have e : (Value.bool false).cells = #[Value.bool false] := rfl
  rw [Nat.mul_one, e, made_truths] at r2
  exact owns_heap r2

set_option maxRecDepth 100000 in
set_option maxHeartbeats 6400000 in
/-- Ahead of which orders a register is live. -/
theorem rahead_any (w : World) (ca : Option Addr) (l cc : Nat) (X : Nat → Nat → Int) (rg m lk r : Nat) (hl : l ≤ 1000) (hord : ∀ i, i < l → OrdAt w ca i (X i 0) (X i 1) (X i 2) (X i 3)) (hok : ∀ i, i < l → ordE rg m lk l (X i 0) (X i 1) (X i 2) (X i 3) = 0) :
    Calls Tryd.prog 34 #[.slice ca l cc, .int .i64 r] w fun e w' => ∃ ab R, e = .returned (.slice (some ⟨ab, 0, none⟩) (l + 1) (l + 1)) ∧ BR w' ab R ∧ R.length = l + 1 ∧ (∀ i, R.getD i false = true ↔ Lv X l r i) ∧ Below w.heap.size w w' ∧ w.heap.size ≤ ab := by
  obtain ⟨w1, hrun1, hR1, hB1⟩ := truths_start w (l + 1) (by omega)
  have hlx : ((l : Int) + 1) = ((l + 1 : Nat) : Int) := by omega
  rw [← hlx] at hrun1
  have HORD := Hid.out (p := Hid _) hord
  have HOK := Hid.out (p := Hid _) hok
  have HI0 : Hid (BR w1 w.heap.size (List.replicate (l + 1) false) ∧ Below w.heap.size w w1 ∧ (List.replicate (l + 1) false).length = l + 1 ∧ (∀ j, (List.replicate (l + 1) false).getD j false = true → Lv X l r j)) := ⟨hR1, hB1, by simp, fun j hj => by
    exfalso
    rw [List.getD_eq_getElem?_getD, List.getElem?_replicate] at hj
    split at hj <;> simp at hj⟩
  obtain ⟨R0, hR0⟩ : ∃ R, List.replicate (l + 1) false = R := ⟨_, rfl⟩
  rw [hR0] at HI0
  clear hord hok hR1 hB1 hlx hR0
  go_enter Tryd.func34, Tryd.ntmps34
  go_wp2_with fail
  go_loopg [6] (1 + cntF R0) (fun gk ag wr => ∃ (b : Bool) (R : List Bool), ag = .bool b ∧ Hid (BR wr w.heap.size R ∧ Below w.heap.size w wr ∧ R.length = l + 1 ∧ (∀ j, R.getD j false = true → Lv X l r j) ∧ (b = false → ∀ i, R.getD i false = true ↔ Lv X l r i) ∧ gk = if b then 1 + cntF R else 0))
  case atStart => exact ⟨true, R0, rfl, HI0.out.1, HI0.out.2.1, HI0.out.2.2.1, HI0.out.2.2.2, (fun h => by cases h), rfl⟩
  case round =>
    obtain ⟨b, R, rfl, HI⟩ := hrel
    clear HI0
    cases b with
    | true =>
      have HP0 : Hid (PasL X l r R R l false) := PasL.begin HI.out.2.2.1 HI.out.2.2.2.1
      go_wp2_with fail
      obtain ⟨V0, rfl⟩ : ∃ V, V = wr := ⟨_, rfl⟩
      go_loopw [6, 7] (fun ag iv wi => ∃ (k : Nat) (b : Bool) (Q : List Bool), k ≤ l ∧ iv = .int .i64 ((k : Int) - 1) ∧ ag = .bool b ∧ Hid (BR wi w.heap.size Q ∧ Below w.heap.size w wi ∧ PasL X l r R Q k b)) (fun _ iv _ => (intOf iv + 1).toNat)
      case atStart => exact ⟨l, false, R, Nat.le_refl _, rfl, rfl, HI.out.1, HI.out.2.1, HP0.out⟩
      case round =>
        obtain ⟨k1, b, Q, hk, rfl, rfl, HJ⟩ := hrel
        clear HP0
        cases k1 with
        | succ k =>
          have hkl : k < l := by omega
          have hkk : ((k + 1 : Nat) : Int) - 1 = (k : Int) := by omega
          rw [hkk]
          obtain ⟨cb, co, rfl, c0, c1, c2, c3⟩ := (HORD.out k hkl).below HJ.out.2.1
          have hok := HOK.out k hkl
          have HRD : Hid (∀ V, Calls Tryd.prog 56 #[ints4 (X k 0) (X k 1) (X k 2) (X k 3)] V fun e w' => ∃ ra rc, e = .returned (.slice ra (rdX X k).length rc) ∧ SIs w' ra (rdX X k) ∧ Below V.heap.size V w') := fun V => rreads_any _ _ _ _ (ok_op hok) V
          have HWR : Hid (∀ V, Calls Tryd.prog 35 #[ints4 (X k 0) (X k 1) (X k 2) (X k 3)] V fun e w' => e = .returned (.int .i64 (wrX X k)) ∧ Below V.heap.size V w') := fun V => rwrites_any _ _ _ _ (ok_op hok) V
          have HNX : Hid (∀ V, Below w.heap.size w V → Calls Tryd.prog 36 #[.slice (some ⟨cb, co, none⟩) l cc, .int .i64 k] V fun e w' => ∃ ra rc, e = .returned (.slice ra (nxI (X k 0) (X k 1) (X k 2) k).length rc) ∧ SIs w' ra (nxI (X k 0) (X k 1) (X k 2) k) ∧ Below V.heap.size V w') := fun V hV => rnexts_all V _ l cc _ _ _ (X k 3) k hkl hl ((HORD.out k hkl).below hV) (fun e => ((ok_lead hok).1 e).1) (fun e => ((ok_lead hok).2 e).1)
          obtain ⟨rs, hrs⟩ : ∃ rs, rdX X k = rs := ⟨_, rfl⟩
          obtain ⟨wv, hwv⟩ : ∃ v, wrX X k = v := ⟨_, rfl⟩
          obtain ⟨js, hjs⟩ : ∃ js, nxP X k = js := ⟨_, rfl⟩
          obtain ⟨xs, hxs⟩ : ∃ xs, nxI (X k 0) (X k 1) (X k 2) k = xs := ⟨_, rfl⟩
          have hxl : xs.length = js.length := by rw [← hxs, ← hjs]; exact nxI_len _ _ _ _
          have HXS : Hid (∀ q, q < js.length → ∃ j : Nat, xs.getD q 0 = (j : Int) ∧ j ≤ l ∧ js.take (q + 1) = js.take q ++ [j]) := fun q hq => by
            refine ⟨js[q], ?_, ?_, ?_⟩
            · rw [← hxs]
              unfold nxI
              have : nxL (X k 0) (X k 1) (X k 2) k = js := hjs
              rw [this]
              simp [List.getD, hq]
            · have hm := List.getElem_mem hq
              have hm2 : js[q] ∈ nxP X k := by rw [hjs]; exact hm
              exact ok_nx hkl hok _ hm2
            · rw [List.take_add_one, List.getElem?_eq_getElem hq]
              rfl
          have HRS : Hid (∀ q, q < rs.length → rs.take (q + 1) = rs.take q ++ [rs.getD q 0]) := fun q hq => by
            rw [List.take_add_one, List.getElem?_eq_getElem hq]
            simp [List.getD, hq]
          have HNB : Hid (∀ Q, nB X r Q k = (rs.any (fun x => x == (r : Int)) || (decide (wv ≠ (r : Int)) && js.any (fun j => Q.getD j false)))) := fun Q => by
            unfold nB
            rw [hrs, hwv, hjs]
          have hrl : rs.length ≤ 2 := by
            rw [← hrs]
            unfold rdX rdL
            split
            · simp
            · split
              · simp
              · split
                · simp
                · split <;> simp
          have hjl : js.length ≤ 2 := by rw [← hjs]; exact nxL_len _ _ _ _
          rw [hrs] at HRD
          rw [hwv] at HWR
          rw [hxs, hxl] at HNX
          obtain ⟨ns, hns⟩ : ∃ n, rs.length = n := ⟨_, rfl⟩
          obtain ⟨nj, hnj⟩ : ∃ n, js.length = n := ⟨_, rfl⟩
          have HLN : Hid (rs.length = ns ∧ js.length = nj ∧ xs.length = nj) := ⟨hns, hnj, by rw [hxl, hnj]⟩
          rw [hns] at HRD hrl
          rw [hnj] at HNX hjl
          obtain ⟨x0, hx0⟩ : ∃ v, X k 0 = v := ⟨_, rfl⟩
          obtain ⟨x1, hx1⟩ : ∃ v, X k 1 = v := ⟨_, rfl⟩
          obtain ⟨x2, hx2⟩ : ∃ v, X k 2 = v := ⟨_, rfl⟩
          obtain ⟨x3, hx3⟩ : ∃ v, X k 3 = v := ⟨_, rfl⟩
          rw [hx0, hx1, hx2, hx3] at HRD HWR
          rw [hx0] at c0
          rw [hx1] at c1
          rw [hx2] at c2
          rw [hx3] at c3
          have HC : Hid (∀ V, Below wr.heap.size wr V → V.cell? ⟨cb, co + k * 4, none⟩ = some (.int .i64 x0) ∧ V.cell? ⟨cb, co + k * 4 + 1, none⟩ = some (.int .i64 x1) ∧ V.cell? ⟨cb, co + k * 4 + 2, none⟩ = some (.int .i64 x2) ∧ V.cell? ⟨cb, co + k * 4 + 3, none⟩ = some (.int .i64 x3)) := fun V hV => ⟨(hV.cell (lt_of_cell c0)).trans c0, (hV.cell (lt_of_cell c1)).trans c1, (hV.cell (lt_of_cell c2)).trans c2, (hV.cell (lt_of_cell c3)).trans c3⟩
          have hki : (k : Int) < (l : Int) := by omega
          clear hok hrs hwv hjs hxs hxl hns hnj hx0 hx1 hx2 hx3
          go_wp2_with fail
          refine Calls.mono (HRD.out _) ?_
          rintro e w3 ⟨ra, rc, rfl, hs3, hb3⟩
          have H3 : Hid (SIs w3 ra rs ∧ Below wr.heap.size wr w3) := ⟨hs3, hb3⟩
          clear hs3 hb3 c0 c1 c2 c3 HRD
          go_wp2_with fail
          go_loopw [9, 10] (fun isv qv wk => ∃ q : Nat, q ≤ ns ∧ qv = .int .i64 q ∧ isv = .bool ((rs.take q).any (fun x => x == (r : Int))) ∧ wk = w3) (fun _ qv _ => ns - (intOf qv).toNat)
          case atStart => exact ⟨0, Nat.zero_le _, rfl, rfl, rfl⟩
          case round =>
            obtain ⟨q, hq, rfl, rfl, rfl⟩ := hrel
            by_cases hql : q < ns
            · obtain ⟨gb, go, rfl, hc⟩ := H3.out.1 q (by rw [HLN.out.1]; exact hql)
              have htk := HRS.out q (by rw [HLN.out.1]; exact hql)
              obtain ⟨x, hx⟩ : ∃ x, rs.getD q 0 = x := ⟨_, rfl⟩
              rw [hx] at hc htk
              have hany : (rs.take (q + 1)).any (fun x => x == (r : Int)) = ((rs.take q).any (fun x => x == (r : Int)) || (x == (r : Int))) := by rw [htk]; simp
              obtain ⟨bq, hbq⟩ : ∃ b, (rs.take q).any (fun x => x == (r : Int)) = b := ⟨_, rfl⟩
              rw [hbq] at hany ⊢
              obtain ⟨xb, hxb⟩ : ∃ b, (x == (r : Int)) = b := ⟨_, rfl⟩
              rw [hxb] at hany
              have HAN := Hid.out (p := Hid _) hany
              clear htk hx hbq hany
              cases bq with
              | true =>
                go_wp2_with fail
                go_roundw
                case rel => exact ⟨q + 1, by omega, by go_num, by rw [HAN.out]; rfl, trivial⟩
                case measure => simp [intOf]; omega
              | false =>
                go_wp2_with fail
                go_roundw
                case rel => exact ⟨q + 1, by omega, by go_num, by rw [HAN.out]; rfl, trivial⟩
                case measure => simp [intOf]; omega
            · obtain rfl : q = ns := by omega
              rw [List.take_of_length_le (by rw [HLN.out.1]; exact Nat.le_refl _)]
              obtain ⟨a0, ha0⟩ : ∃ b, rs.any (fun x => x == (r : Int)) = b := ⟨_, rfl⟩
              rw [ha0] at HNB
              rw [ha0]
              clear ha0
              obtain ⟨z0, z1, z2, z3⟩ := HC.out _ H3.out.2
              go_wp2_with fail
              refine Calls.mono (HWR.out _) ?_
              rintro e w4 ⟨rfl, hb4⟩
              have H4 := Hid.out (p := Hid _) (H3.out.2.trans (hb4.mono H3.out.2.size))
              clear hb4 z0 z1 z2 z3 HWR
              go_wp2_with fail
              refine Calls.mono (HNX.out _ (HJ.out.2.1.trans (H4.out.mono HJ.out.2.1.size))) ?_
              rintro e w5 ⟨na, nc, rfl, hs5, hb5⟩
              have H5 : Hid (SIs w5 na xs ∧ BR w5 w.heap.size Q ∧ Below w.heap.size w w5) := by
                have h1 := H4.out.trans (hb5.mono H4.out.size)
                exact ⟨hs5, HJ.out.1.below h1, HJ.out.2.1.trans (h1.mono HJ.out.2.1.size)⟩
              have HPA := Hid.out (p := Hid _) HJ.out.2.2
              clear hs5 hb5 HNX HJ H3 H4 HC
              go_wp2_with fail
              go_loopw [9, 13] (fun isv qv wk => ∃ q : Nat, q ≤ nj ∧ qv = .int .i64 q ∧ isv = .bool (a0 || (decide (wv ≠ (r : Int)) && (js.take q).any (fun j => Q.getD j false))) ∧ wk = w5) (fun _ qv _ => nj - (intOf qv).toNat)
              case atStart => exact ⟨0, Nat.zero_le _, rfl, by simp, rfl⟩
              case round =>
                obtain ⟨q, hq, rfl, rfl, rfl⟩ := hrel
                by_cases hql : q < nj ∧ wv ≠ (r : Int)
                · obtain ⟨gb, go, rfl, hc⟩ := H5.out.1 q (by rw [HLN.out.2.2]; exact hql.1)
                  obtain ⟨j, hj1, hj2, hj3⟩ := HXS.out q (by rw [HLN.out.2.1]; exact hql.1)
                  rw [hj1] at hc
                  have hq1 := hql.1
                  have hwne : (wv == (r : Int)) = false := by simpa using hql.2
                  have hd : decide (wv ≠ (r : Int)) = true := by simpa using hql.2
                  rw [hd] at HNB ⊢
                  have cj := H5.out.2.1.cell (i := j) (by rw [HPA.out.len]; omega)
                  have hjl2 : (j : Int) < (l : Int) + 1 := by omega
                  obtain ⟨qj, hqj⟩ : ∃ b, Q.getD j false = b := ⟨_, rfl⟩
                  rw [hqj] at cj
                  have hany : (a0 || (true && (js.take (q + 1)).any (fun j => Q.getD j false))) = ((a0 || (true && (js.take q).any (fun j => Q.getD j false))) || qj) := by
                    rw [hj3, List.any_append]
                    simp only [List.any_cons, List.any_nil, Bool.or_false, hqj, Bool.true_and, Bool.or_assoc]
                  obtain ⟨bq, hbq⟩ : ∃ b, (a0 || (true && (js.take q).any (fun j => Q.getD j false))) = b := ⟨_, rfl⟩
                  rw [hbq] at hany ⊢
                  have HAN := Hid.out (p := Hid _) hany
                  have HQL := Hid.out (p := Hid _) hql
                  clear hj1 hj3 hqj hbq hany hd hql
                  cases bq with
                  | true =>
                    go_wp2_with fail
                    go_roundw
                    case rel => exact ⟨q + 1, by omega, by go_num, by rw [HAN.out]; rfl, trivial⟩
                    case measure => simp [intOf]; omega
                  | false =>
                    go_wp2_with fail
                    go_roundw
                    case rel => exact ⟨q + 1, by omega, by go_num, by rw [HAN.out]; rfl, trivial⟩
                    case measure => simp [intOf]; omega
                · have hend : (a0 || (decide (wv ≠ (r : Int)) && (js.take q).any (fun j => Q.getD j false))) = nB X r Q k := by
                    rw [HNB.out Q]
                    by_cases hw : wv = (r : Int)
                    · simp [hw]
                    · have : q = nj := by
                        have := fun h => hql ⟨h, hw⟩
                        omega
                      rw [this, List.take_of_length_le (by rw [HLN.out.2.1]; exact Nat.le_refl _)]
                  rw [hend]
                  obtain ⟨nb, hnb⟩ : ∃ b, nB X r Q k = b := ⟨_, rfl⟩
                  rw [hnb]
                  have HNBV := Hid.out (p := Hid _) hnb
                  have ck := H5.out.2.1.cell (i := k) (by rw [HPA.out.len]; omega)
                  have cf := H5.out.2.1.free k
                  obtain ⟨qk, hqk⟩ : ∃ b, Q.getD k false = b := ⟨_, rfl⟩
                  rw [hqk] at ck
                  have HQK := Hid.out (p := Hid _) hqk
                  have hki2 : (k : Int) < (l : Int) + 1 := by omega
                  have hcond : ((q : Int) < (nj : Int)) = False ∨ ((q : Int) < (nj : Int)) = True ∧ (wv == (r : Int)) = true := by
                    by_cases h : q < nj
                    · refine Or.inr ⟨eq_true (by omega), ?_⟩
                      have : wv = (r : Int) := Classical.byContradiction fun e => hql ⟨h, e⟩
                      simpa using this
                    · exact Or.inl (eq_false (by omega))
                  clear hend hnb hqk hql
                  rcases hcond with hcond | ⟨hcond, hcw⟩
                  all_goals
                    cases nb with
                    | true =>
                      cases qk with
                      | true =>
                        have HP := Hid.out (p := Hid _) (HPA.out.stay (Or.inr HQK.out))
                        go_wp2_with fail
                        go_roundw
                        case rel => exact ⟨k, b, Q, by omega, by go_num, rfl, H5.out.2.1, H5.out.2.2, HP.out⟩
                        case measure => simp [intOf]
                      | false =>
                        have HP := Hid.out (p := Hid _) (HPA.out.turn HNBV.out HQK.out)
                        have HW : Hid (BR (wr.setCell ⟨w.heap.size, k, none⟩ (.bool true)) w.heap.size (Q.set k true) ∧ Below w.heap.size w (wr.setCell ⟨w.heap.size, k, none⟩ (.bool true))) := ⟨H5.out.2.1.put k true, H5.out.2.2.setCell (Nat.le_refl w.heap.size) _⟩
                        go_wp2_with fail
                        go_roundw
                        case rel => exact ⟨k, true, Q.set k true, by omega, by go_num, rfl, HW.out.1, HW.out.2, HP.out⟩
                        case measure => simp [intOf]
                    | false =>
                      have HP := Hid.out (p := Hid _) (HPA.out.stay (Or.inl HNBV.out))
                      go_wp2_with fail
                      go_roundw
                      case rel => exact ⟨k, b, Q, by omega, by go_num, rfl, H5.out.2.1, H5.out.2.2, HP.out⟩
                      case measure => simp [intOf]
        | zero =>
          have hm1 : ((0 : Nat) : Int) - 1 = -1 := by omega
          rw [hm1]
          have HR : Hid (BR wr w.heap.size Q ∧ Below w.heap.size w wr ∧ Q.length = l + 1 ∧ (∀ j, Q.getD j false = true → Lv X l r j) ∧ (b = false → ∀ i, Q.getD i false = true ↔ Lv X l r i)) := ⟨HJ.out.1, HJ.out.2.1, HJ.out.2.2.len, HJ.out.2.2.sound, fun e => by have h := HJ.out.2.2; rw [e] at h; exact h.done⟩
          have HLT : Hid ((if b then 1 + cntF Q else 0) < gk) := by
            have h1 := HI.out.2.2.2.2.2
            simp only [if_true] at h1
            show _ < _
            cases b with
            | true => have := HJ.out.2.2.less rfl; simp only [if_true]; omega
            | false => simp only [Bool.false_eq_true, if_false]; omega
          clear hm1
          go_wp2_with fail
          go_roundg (if b then 1 + cntF Q else 0)
          case rel => exact ⟨b, Q, rfl, HR.out.1, HR.out.2.1, HR.out.2.2.1, HR.out.2.2.2.1, HR.out.2.2.2.2, rfl⟩
          case measure => exact HLT.out
    | false =>
      go_wp2_with fail
      go_ret
      have HF := HI.out
      exact ⟨_, rfl, R, HF.1, HF.2.2.1, HF.2.2.2.2.1 trivial, HF.2.1, Nat.le_refl _⟩

end Go.Proofs.YtocfocjnnjdcgaaDoor
