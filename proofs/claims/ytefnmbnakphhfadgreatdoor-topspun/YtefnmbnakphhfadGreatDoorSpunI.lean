/-
  Whether outcomes of one list are in another, by the laws without the document.
-/
import Derived.Test.YtefnmbnakphhfadGreatDoorSpnRoot
import Derived.Deep.RegionHeld3
import Derived.BigRegion
import Derived.BigQuiet
namespace Go.Proofs.YtefnmbnakphhfadGreatDoor
open Go.RowKit

set_option maxHeartbeats 1600000 in
/-- Whether two lists are the same. -/
theorem tints_any (a b : Option Addr) (x y : List Int) (c d : Nat) (hn : x.length ≤ 100000) (_hm : y.length ≤ 100000) (w : World) (h : LI w a x) (h' : LI w b y) :
    Calls Tryz.prog 33 #[.slice a x.length c, .slice b y.length d] w fun e w' => e = .returned (.bool (decide (x = y))) ∧ Below w.heap.size w w' := by
  by_cases hl : x.length = y.length
  rotate_left
  · have HE : Hid (decide (x = y) = false) := decide_eq_false (fun e => hl (by rw [e]))
    have hl' : ¬ (x.length : Int) = y.length := by omega
    go_enter Tryz.func33, Tryz.ntmps33
    go_wp2
    go_ret
    exact ⟨congrArg (fun b => Ending.returned (.bool b)) HE.out.symm, Below.refl _ _⟩
  obtain ⟨n, hx⟩ : ∃ n, x.length = n := ⟨_, rfl⟩
  have hy : y.length = n := by omega
  have hn' : n ≤ 100000 := by omega
  have h1 : IIn w a n (fun i => x.getD i 0) := by rw [← hx]; exact h
  have h2 : IIn w b n (fun i => y.getD i 0) := by rw [← hy]; exact h'
  have HX : Hid (x.length = n) := hx
  have HY : Hid (y.length = n) := hy
  rw [hx, hy]
  clear h h' hx hy hl hn _hm
  go_enter Tryz.func33, Tryz.ntmps33
  go_wp2
  go_loopw [5] (fun i wr => ∃ k : Nat, k ≤ n ∧ Hid (x.take k = y.take k) ∧ i = .int .i64 k ∧ Below w.heap.size w wr) (fun i _ => n - (intOf i).toNat)
  case atStart => exact ⟨0, Nat.zero_le _, rfl, rfl, Below.refl _ _⟩
  case round =>
    obtain ⟨k, hk, ht, rfl, hbr⟩ := hrel
    by_cases hlt : k < n
    · obtain ⟨b1, o1, rfl, hc⟩ := h1.below hbr k hlt
      obtain ⟨b2, o2, rfl, hc'⟩ := h2.below hbr k hlt
      by_cases he : x.getD k 0 = y.getD k 0
      · have ht' : Hid (x.take (k + 1) = y.take (k + 1)) := take_ext ht.out (by rw [HX.out]; exact hlt) (by rw [HY.out]; exact hlt) he
        simp only [he] at hc
        clear he
        go_wp2
        go_region
        all_goals go_wp2
        all_goals go_roundw
        case rel => exact ⟨k + 1, by omega, ht', by go_num, hbr.drew⟩
        case measure => simp [intOf]; omega
      · have HE : Hid (decide (x = y) = false) := decide_eq_false (fun e => he (by rw [e]))
        obtain ⟨u, hu⟩ : ∃ u, x.getD k 0 = u := ⟨_, rfl⟩
        obtain ⟨v, hv⟩ : ∃ v, y.getD k 0 = v := ⟨_, rfl⟩
        simp only [hu] at hc
        simp only [hv] at hc'
        rw [hu, hv] at he
        clear hu hv
        go_wp2
        go_region
        all_goals go_wp2
        all_goals go_ret
        all_goals exact ⟨congrArg (fun b => Ending.returned (.bool b)) HE.out.symm, hbr.drew⟩
    · have HE : Hid (decide (x = y) = true) := decide_eq_true (by
        have := ht.out
        rwa [List.take_of_length_le (by rw [HX.out]; omega), List.take_of_length_le (by rw [HY.out]; omega)] at this)
      go_wp2
      go_ret
      exact ⟨congrArg (fun b => Ending.returned (.bool b)) HE.out.symm, hbr⟩

/-- Two outcomes are the same, but for words behind the first n. -/
def mtO (n : Nat) (x y : Oc) : Bool := decide (x.st = y.st) && (decide (x.ws.take n = y.ws.take n) && decide (x.pr = y.pr))
theorem slice_tints (wa : Option Addr) (len wc n : Nat) (h : n ≤ wc) (V : World) : (Instr.slice 23 (.slice wa len wc) none (some (.int .i64 (n : Int))) none).run Tryz.prog V = .ok (.slice wa n wc) V := by
  rw [run_slice_h (P := Tryz.prog) V 23 wa len wc (by kernel_rfl) .i64 (n : Int) (by omega) (by omega)]
  have e1 : (sizeOf (Tryz.prog.elem 23)).run Tryz.prog V = .ok 1 V := by kernel_rfl
  rw [e1]
  simp only [Result.andThen, sliced, Int.toNat_natCast]
  cases wa <;> simp [Addr.add]
theorem li_take {w : World} {a : Option Addr} {x : List Int} (h : LI w a x) (n : Nat) : LI w a (x.take n) := fun i hi => by
  have h1 : i < n ∧ i < x.length := by rw [List.length_take] at hi; omega
  obtain ⟨b, o, e, hc⟩ := h i h1.2
  refine ⟨b, o, e, ?_⟩
  rw [hc]
  show some (Value.int .i64 (x.getD i 0)) = some (.int .i64 ((x.take n).getD i 0))
  rw [List.getD_eq_getElem?_getD, List.getD_eq_getElem?_getD, List.getElem?_take_of_lt h1.1]
set_option maxRecDepth 100000 in
set_option maxHeartbeats 12800000 in
theorem within_any (w : World) (a b : Option Addr) (es fs : List En) (c d n : Nat) (hE : EIn w a es) (hF : EIn w b fs) (hok : ∀ x, x ∈ es → EnOk w x ∧ x.o.ws.length ≤ x.wc) (hok' : ∀ x, x ∈ fs → EnOk w x ∧ x.o.ws.length ≤ x.wc) (hl : es.length ≤ 100000) (hl' : fs.length ≤ 100000) (hn : n ≤ 64)
    (hin : ∀ x, x ∈ es → x.o.st = 0 → ∃ y, y ∈ fs ∧ mtO n x.o y.o = true) :
    Calls Tryz.prog 14 #[.slice a es.length c, .slice b fs.length d, .int .i64 n, .bool true] w fun e w' => e = .returned (.bool true) ∧ Below w.heap.size w w' := by
  have HI : Hid (∀ k, k < es.length → (EnOk w (es.getD k default) ∧ (es.getD k default).o.ws.length ≤ (es.getD k default).wc) ∧ ((es.getD k default).o.st = 0 → (fs.any fun y => mtO n (es.getD k default).o y.o) = true)) := fun k hk => by
    have hm : es.getD k default ∈ es := by
      rw [List.getD_eq_getElem?_getD, List.getElem?_eq_getElem hk]; exact List.getElem_mem hk
    refine ⟨hok _ hm, fun h0 => ?_⟩
    obtain ⟨y, hy, h1⟩ := hin _ hm h0
    exact List.any_eq_true.mpr ⟨y, hy, h1⟩
  have HJ : Hid (∀ k, k < fs.length → (EnOk w (fs.getD k default) ∧ (fs.getD k default).o.ws.length ≤ (fs.getD k default).wc) ∧ ∀ p : En → Bool, (fs.take (k + 1)).any p = ((fs.take k).any p || p (fs.getD k default))) := fun k hk => by
    have hm : fs.getD k default ∈ fs := by
      rw [List.getD_eq_getElem?_getD, List.getElem?_eq_getElem hk]; exact List.getElem_mem hk
    refine ⟨hok' _ hm, fun p => ?_⟩
    rw [List.take_add_one, List.getElem?_eq_getElem hk, List.getD_eq_getElem?_getD, List.getElem?_eq_getElem hk, List.any_append]
    show ((fs.take k).any p || (p fs[k] || false)) = _
    rw [Bool.or_false]
    rfl
  have HE : Hid (EIn w a es ∧ EIn w b fs) := ⟨hE, hF⟩
  obtain ⟨m, hm⟩ : ∃ m, es.length = m := ⟨_, rfl⟩
  have HM : Hid (es.length = m) := hm
  obtain ⟨q, hq⟩ : ∃ m, fs.length = m := ⟨_, rfl⟩
  have HQ : Hid (fs.length = q) := hq
  rw [hm] at HI hl
  rw [hq] at HJ hl'
  rw [hm, hq]
  clear hE hF hok hok' hin hm hq
  go_enter Tryz.func14, Tryz.ntmps14
  go_wp2
  go_loopw [9] (fun i wr => ∃ k : Nat, k ≤ m ∧ i = .int .i64 k ∧ Below w.heap.size w wr) (fun i _ => m - (intOf i).toNat)
  case atStart => exact ⟨0, Nat.zero_le _, rfl, Below.refl _ _⟩
  case round =>
    obtain ⟨j, hj, rfl, hbr⟩ := hrel
    by_cases hlt : j < m
    · obtain ⟨g, o, rfl, Y0, Y1, Y2⟩ := EIn.below HE.out.1 hbr j (by rw [HM.out]; exact hlt)
      have HX := Hid.out (p := Hid _) (HI.out j hlt)
      obtain ⟨x, hx⟩ : ∃ x, es.getD j default = x := ⟨_, rfl⟩
      rw [hx] at HX Y0 Y1 Y2
      clear hx HI
      obtain ⟨S, rfl⟩ : ∃ V, V = wr := ⟨_, rfl⟩
      by_cases h0 : x.o.st = 0
      · have HFF : Hid (∀ W, Below S.heap.size S W → W.cell? ⟨g, o + j * 3, none⟩ = some (.int .i64 x.o.st) ∧ W.cell? ⟨g, o + j * 3 + 1, none⟩ = some (.slice x.wa x.o.ws.length x.wc) ∧ W.cell? ⟨g, o + j * 3 + 2, none⟩ = some (.slice x.pa x.o.pr.length x.pc)) := fun W h => ⟨(h.cell (lt_of_cell Y0)).trans Y0, (h.cell (lt_of_cell Y1)).trans Y1, (h.cell (lt_of_cell Y2)).trans Y2⟩
        have HAL : Hid ((fs.any fun y => mtO n x.o y.o) = true) := HX.out.2 h0
        have hxl : x.o.ws.length ≤ 100000 := HX.out.1.1.wl
        have hxc : x.o.ws.length ≤ x.wc := HX.out.1.2
        have Z0 := Y0
        rw [h0] at Z0
        clear Y0
        go_wp2
        clear Z0 Y1 Y2 h0
        go_loopw [10, 11] (fun is' i wi => ∃ (k : Nat) (isb : Bool), k ≤ q ∧ i = .int .i64 k ∧ is' = .bool isb ∧ Hid (((fs.take k).any fun y => mtO n x.o y.o) = isb) ∧ Below S.heap.size S wi) (fun _ i _ => q - (intOf i).toNat)
        case atStart => exact ⟨0, false, Nat.zero_le _, rfl, rfl, rfl, Below.refl _ _⟩
        case round =>
          obtain ⟨k, isb, hk, rfl, rfl, HS, hbi⟩ := hrel
          by_cases hkq : k < q
          · obtain ⟨fb, fo, rfl, F0, F1, F2⟩ := EIn.below HE.out.2 hbr k (by rw [HQ.out]; exact hkq)
            have HY := Hid.out (p := Hid _) (HJ.out k hkq)
            obtain ⟨y, hy⟩ : ∃ y, fs.getD k default = y := ⟨_, rfl⟩
            rw [hy] at HY F0 F1 F2
            clear hy HJ
            have HYY : Hid (∀ W, Below S.heap.size S W → W.cell? ⟨fb, fo + k * 3, none⟩ = some (.int .i64 y.o.st) ∧ W.cell? ⟨fb, fo + k * 3 + 1, none⟩ = some (.slice y.wa y.o.ws.length y.wc) ∧ W.cell? ⟨fb, fo + k * 3 + 2, none⟩ = some (.slice y.pa y.o.pr.length y.pc)) := fun W h => ⟨(h.cell (lt_of_cell F0)).trans F0, (h.cell (lt_of_cell F1)).trans F1, (h.cell (lt_of_cell F2)).trans F2⟩
            have hyl : y.o.ws.length ≤ 100000 := HY.out.1.1.wl
            have hyc : y.o.ws.length ≤ y.wc := HY.out.1.2
            have HNX : Hid (((fs.take (k + 1)).any fun y => mtO n x.o y.o) = (isb || (decide (x.o.st = y.o.st) && (decide (x.o.ws.take n = y.o.ws.take n) && decide (x.o.pr = y.o.pr))))) := by
              have := HY.out.2 (fun y => mtO n x.o y.o)
              rw [HS.out] at this
              exact this
            have HI1' : Hid (∀ W, Below S.heap.size S W → Calls Tryz.prog 33 #[.slice x.wa (x.o.ws.take n).length x.wc, .slice y.wa (y.o.ws.take n).length y.wc] W fun e w' => e = .returned (.bool (decide (x.o.ws.take n = y.o.ws.take n))) ∧ Below S.heap.size S w') := fun W hb => by
              have h := hbr.trans (hb.mono hbr.size)
              exact (tints_any x.wa y.wa _ _ x.wc y.wc (by rw [List.length_take]; omega) (by rw [List.length_take]; omega) W (li_take (HX.out.1.1.below h).ws n) (li_take (HY.out.1.1.below h).ws n)).mono fun _ _ r => ⟨r.1, hb.trans (r.2.mono hb.size)⟩
            have HI2 : Hid (∀ W, Below S.heap.size S W → Calls Tryz.prog 33 #[.slice x.pa x.o.pr.length x.pc, .slice y.pa y.o.pr.length y.pc] W fun e w' => e = .returned (.bool (decide (x.o.pr = y.o.pr))) ∧ Below S.heap.size S w') := fun W hb => by
              have h := hbr.trans (hb.mono hbr.size)
              exact (tints_any x.pa y.pa _ _ x.pc y.pc HX.out.1.1.pl HY.out.1.1.pl W (HX.out.1.1.below h).pr (HY.out.1.1.below h).pr).mono fun _ _ r => ⟨r.1, hb.trans (r.2.mono hb.size)⟩
            obtain ⟨y0, y1, y2⟩ := HFF.out wr hbi
            obtain ⟨z0, z1, z2⟩ := HYY.out wr hbi
            clear F0 F1 F2 HS HY
            obtain ⟨xn, hxn⟩ : ∃ z, (x.o.ws.take n).length = z := ⟨_, rfl⟩
            obtain ⟨yn, hyn⟩ : ∃ z, (y.o.ws.take n).length = z := ⟨_, rfl⟩
            rw [hxn, hyn] at HI1'
            rw [List.length_take] at hxn hyn
            by_cases ha : n < x.o.ws.length
            · have exn : xn = n := by omega
              have ha' : (n : Int) < x.o.ws.length := by omega
              have sx := slice_tints x.wa x.o.ws.length x.wc n (by omega)
              by_cases hb : n < y.o.ws.length
              · have eyn : yn = n := by omega
                have hb' : (n : Int) < y.o.ws.length := by omega
                have sy := slice_tints y.wa y.o.ws.length y.wc n (by omega)
                have HI1 := HI1'
                rw [exn, eyn] at HI1
                clear HI1' hxn hyn exn eyn ha hb
                go_wp2_with fail
                refine Calls.mono (HI1.out wr hbi) ?_
                rintro e w1 ⟨rfl, hb1⟩
                obtain ⟨f0, f1, f2⟩ := HFF.out w1 hb1
                obtain ⟨g0, g1, g2⟩ := HYY.out w1 hb1
                clear y0 y1 y2 z0 z1 z2 HI1
                go_wp2_with fail
                refine region_tail 10 (by kernel_rfl) (by kernel_rfl) ?_
                simp only [List.take_succ_cons, List.take_zero, List.drop_succ_cons, List.drop_zero]
                repeat still_step
                refine wpStill_nil ?_
                go_wp2_with fail
                refine Calls.mono (HI2.out _ hb1.drew) ?_
                rintro e w3 ⟨rfl, hb3⟩
                obtain ⟨y0, y1, y2⟩ := HFF.out w3 hb3
                obtain ⟨z0, z1, z2⟩ := HYY.out w3 hb3
                have HB3 := Hid.out (p := Hid _) hb3
                clear f0 f1 f2 g0 g1 g2 HI2 hb3 hb1
                obtain ⟨A1, hA1⟩ : ∃ q, decide (x.o.ws.take n = y.o.ws.take n) = q := ⟨_, rfl⟩
                obtain ⟨A2, hA2⟩ : ∃ q, decide (x.o.pr = y.o.pr) = q := ⟨_, rfl⟩
                rw [hA1] at HNX
                rw [hA2] at HNX
                rw [hA1, hA2]
                clear hA1 hA2
                by_cases hst : x.o.st = y.o.st
                · rw [decide_eq_true hst] at HNX
                  rw [hst] at y0
                  clear hst
                  cases isb <;> cases A1 <;> cases A2
                  all_goals go_wp2_with fail
                  all_goals go_quiet (fail)
                  all_goals go_wp2
                  all_goals go_roundw
                  all_goals first | exact ⟨k + 1, _, by omega, by go_num, rfl, HNX, below_drewN HB3.out⟩ | (simp [intOf]; omega)
                · rw [decide_eq_false hst] at HNX
                  have hst' : (x.o.st == y.o.st) = false := by simpa using hst
                  clear hst
                  cases isb
                  all_goals go_wp2_with fail
                  all_goals go_quiet (fail)
                  all_goals go_wp2
                  all_goals go_roundw
                  all_goals first | exact ⟨k + 1, _, by omega, by go_num, rfl, HNX, below_drewN HB3.out⟩ | (simp [intOf]; omega)
              · have eyn : yn = y.o.ws.length := by omega
                have hb' : ¬ (n : Int) < y.o.ws.length := by omega
                have HI1 := HI1'
                rw [exn, eyn] at HI1
                clear HI1' hxn hyn exn eyn ha hb
                go_wp2_with fail
                refine Calls.mono (HI1.out wr hbi) ?_
                rintro e w1 ⟨rfl, hb1⟩
                obtain ⟨f0, f1, f2⟩ := HFF.out w1 hb1
                obtain ⟨g0, g1, g2⟩ := HYY.out w1 hb1
                clear y0 y1 y2 z0 z1 z2 HI1
                go_wp2_with fail
                refine region_tail 10 (by kernel_rfl) (by kernel_rfl) ?_
                simp only [List.take_succ_cons, List.take_zero, List.drop_succ_cons, List.drop_zero]
                repeat still_step
                refine wpStill_nil ?_
                go_wp2_with fail
                refine Calls.mono (HI2.out _ hb1.drew) ?_
                rintro e w3 ⟨rfl, hb3⟩
                obtain ⟨y0, y1, y2⟩ := HFF.out w3 hb3
                obtain ⟨z0, z1, z2⟩ := HYY.out w3 hb3
                have HB3 := Hid.out (p := Hid _) hb3
                clear f0 f1 f2 g0 g1 g2 HI2 hb3 hb1
                obtain ⟨A1, hA1⟩ : ∃ q, decide (x.o.ws.take n = y.o.ws.take n) = q := ⟨_, rfl⟩
                obtain ⟨A2, hA2⟩ : ∃ q, decide (x.o.pr = y.o.pr) = q := ⟨_, rfl⟩
                rw [hA1] at HNX
                rw [hA2] at HNX
                rw [hA1, hA2]
                clear hA1 hA2
                by_cases hst : x.o.st = y.o.st
                · rw [decide_eq_true hst] at HNX
                  rw [hst] at y0
                  clear hst
                  cases isb <;> cases A1 <;> cases A2
                  all_goals go_wp2_with fail
                  all_goals go_quiet (fail)
                  all_goals go_wp2
                  all_goals go_roundw
                  all_goals first | exact ⟨k + 1, _, by omega, by go_num, rfl, HNX, below_drewN HB3.out⟩ | (simp [intOf]; omega)
                · rw [decide_eq_false hst] at HNX
                  have hst' : (x.o.st == y.o.st) = false := by simpa using hst
                  clear hst
                  cases isb
                  all_goals go_wp2_with fail
                  all_goals go_quiet (fail)
                  all_goals go_wp2
                  all_goals go_roundw
                  all_goals first | exact ⟨k + 1, _, by omega, by go_num, rfl, HNX, below_drewN HB3.out⟩ | (simp [intOf]; omega)
            · have exn : xn = x.o.ws.length := by omega
              have ha' : ¬ (n : Int) < x.o.ws.length := by omega
              by_cases hb : n < y.o.ws.length
              · have eyn : yn = n := by omega
                have hb' : (n : Int) < y.o.ws.length := by omega
                have sy := slice_tints y.wa y.o.ws.length y.wc n (by omega)
                have HI1 := HI1'
                rw [exn, eyn] at HI1
                clear HI1' hxn hyn exn eyn ha hb
                go_wp2_with fail
                refine Calls.mono (HI1.out wr hbi) ?_
                rintro e w1 ⟨rfl, hb1⟩
                obtain ⟨f0, f1, f2⟩ := HFF.out w1 hb1
                obtain ⟨g0, g1, g2⟩ := HYY.out w1 hb1
                clear y0 y1 y2 z0 z1 z2 HI1
                go_wp2_with fail
                refine region_tail 10 (by kernel_rfl) (by kernel_rfl) ?_
                simp only [List.take_succ_cons, List.take_zero, List.drop_succ_cons, List.drop_zero]
                repeat still_step
                refine wpStill_nil ?_
                go_wp2_with fail
                refine Calls.mono (HI2.out _ hb1.drew) ?_
                rintro e w3 ⟨rfl, hb3⟩
                obtain ⟨y0, y1, y2⟩ := HFF.out w3 hb3
                obtain ⟨z0, z1, z2⟩ := HYY.out w3 hb3
                have HB3 := Hid.out (p := Hid _) hb3
                clear f0 f1 f2 g0 g1 g2 HI2 hb3 hb1
                obtain ⟨A1, hA1⟩ : ∃ q, decide (x.o.ws.take n = y.o.ws.take n) = q := ⟨_, rfl⟩
                obtain ⟨A2, hA2⟩ : ∃ q, decide (x.o.pr = y.o.pr) = q := ⟨_, rfl⟩
                rw [hA1] at HNX
                rw [hA2] at HNX
                rw [hA1, hA2]
                clear hA1 hA2
                by_cases hst : x.o.st = y.o.st
                · rw [decide_eq_true hst] at HNX
                  rw [hst] at y0
                  clear hst
                  cases isb <;> cases A1 <;> cases A2
                  all_goals go_wp2_with fail
                  all_goals go_quiet (fail)
                  all_goals go_wp2
                  all_goals go_roundw
                  all_goals first | exact ⟨k + 1, _, by omega, by go_num, rfl, HNX, below_drewN HB3.out⟩ | (simp [intOf]; omega)
                · rw [decide_eq_false hst] at HNX
                  have hst' : (x.o.st == y.o.st) = false := by simpa using hst
                  clear hst
                  cases isb
                  all_goals go_wp2_with fail
                  all_goals go_quiet (fail)
                  all_goals go_wp2
                  all_goals go_roundw
                  all_goals first | exact ⟨k + 1, _, by omega, by go_num, rfl, HNX, below_drewN HB3.out⟩ | (simp [intOf]; omega)
              · have eyn : yn = y.o.ws.length := by omega
                have hb' : ¬ (n : Int) < y.o.ws.length := by omega
                have HI1 := HI1'
                rw [exn, eyn] at HI1
                clear HI1' hxn hyn exn eyn ha hb
                go_wp2_with fail
                refine Calls.mono (HI1.out wr hbi) ?_
                rintro e w1 ⟨rfl, hb1⟩
                obtain ⟨f0, f1, f2⟩ := HFF.out w1 hb1
                obtain ⟨g0, g1, g2⟩ := HYY.out w1 hb1
                clear y0 y1 y2 z0 z1 z2 HI1
                go_wp2_with fail
                refine region_tail 10 (by kernel_rfl) (by kernel_rfl) ?_
                simp only [List.take_succ_cons, List.take_zero, List.drop_succ_cons, List.drop_zero]
                repeat still_step
                refine wpStill_nil ?_
                go_wp2_with fail
                refine Calls.mono (HI2.out _ hb1.drew) ?_
                rintro e w3 ⟨rfl, hb3⟩
                obtain ⟨y0, y1, y2⟩ := HFF.out w3 hb3
                obtain ⟨z0, z1, z2⟩ := HYY.out w3 hb3
                have HB3 := Hid.out (p := Hid _) hb3
                clear f0 f1 f2 g0 g1 g2 HI2 hb3 hb1
                obtain ⟨A1, hA1⟩ : ∃ q, decide (x.o.ws.take n = y.o.ws.take n) = q := ⟨_, rfl⟩
                obtain ⟨A2, hA2⟩ : ∃ q, decide (x.o.pr = y.o.pr) = q := ⟨_, rfl⟩
                rw [hA1] at HNX
                rw [hA2] at HNX
                rw [hA1, hA2]
                clear hA1 hA2
                by_cases hst : x.o.st = y.o.st
                · rw [decide_eq_true hst] at HNX
                  rw [hst] at y0
                  clear hst
                  cases isb <;> cases A1 <;> cases A2
                  all_goals go_wp2_with fail
                  all_goals go_quiet (fail)
                  all_goals go_wp2
                  all_goals go_roundw
                  all_goals first | exact ⟨k + 1, _, by omega, by go_num, rfl, HNX, below_drewN HB3.out⟩ | (simp [intOf]; omega)
                · rw [decide_eq_false hst] at HNX
                  have hst' : (x.o.st == y.o.st) = false := by simpa using hst
                  clear hst
                  cases isb
                  all_goals go_wp2_with fail
                  all_goals go_quiet (fail)
                  all_goals go_wp2
                  all_goals go_roundw
                  all_goals first | exact ⟨k + 1, _, by omega, by go_num, rfl, HNX, below_drewN HB3.out⟩ | (simp [intOf]; omega)
          · obtain rfl : k = q := by omega
            have HT : isb = true := by
              have h := HS.out
              rw [List.take_of_length_le (by rw [HQ.out]; exact Nat.le_refl _), HAL.out] at h
              exact h.symm
            subst HT
            have HB : Hid (Below w.heap.size w wr) := hbr.trans (hbi.mono hbr.size)
            go_wp2
            go_roundw
            case rel => exact ⟨j + 1, by omega, by go_num, HB.out⟩
            case measure => simp [intOf]; omega
      · have h0' : (x.o.st != 0) = true := by simpa using h0
        go_wp2
        exact ⟨⟨j + 1, by omega, by go_num, hbr⟩, by simp [intOf]; omega⟩
    · go_wp2
      go_ret
      exact ⟨rfl, hbr⟩

end Go.Proofs.YtefnmbnakphhfadGreatDoor
