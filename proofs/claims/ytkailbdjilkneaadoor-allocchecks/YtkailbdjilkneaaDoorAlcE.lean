/-
  The least colour that none of the others has.
-/
import Derived.Test.YtkailbdjilkneaaDoorAlcA
import Derived.Test.YtkailbdjilkneaaDoorBlk
namespace Go.Proofs.YtkailbdjilkneaaDoor
open Go.RowKit

/-- Which colours are taken, in a block. -/
def tkA (t : Nat → Bool) : Array Value := #[.bool (t 0), .bool (t 1), .bool (t 2), .bool (t 3), .bool (t 4), .bool (t 5)]
theorem tkA_set (t : Nat → Bool) (c : Nat) (hc : c < 6) : (tkA t).setIfInBounds c (.bool true) = tkA (fun i => if i = c then true else t i) := by
  match c, hc with
  | 0, _ => rfl
  | 1, _ => rfl
  | 2, _ => rfl
  | 3, _ => rfl
  | 4, _ => rfl
  | 5, _ => rfl
theorem tkA_at (t : Nat → Bool) (c : Nat) (hc : c < 6) : (tkA t)[c]? = some (.bool (t c)) := by
  match c, hc with
  | 0, _ => rfl
  | 1, _ => rfl
  | 2, _ => rfl
  | 3, _ => rfl
  | 4, _ => rfl
  | 5, _ => rfl
/-- What firstFree tells. -/
def FfQ (w : World) (k ys : List Int) (e : Ending) (w' : World) : Prop := ∃ c : Int, e = .returned (.int .i64 c) ∧ (-1 ≤ c ∧ c < 6) ∧ (c ≠ -1 → ∀ s : Nat, (s : Int) ∈ ys → k.getD s 0 ≠ c) ∧ Below w.heap.size w w'

set_option maxRecDepth 100000 in
set_option maxHeartbeats 3200000 in
theorem ffree_any (w : World) (ya : Option Addr) (yl yc : Nat) (ys : List Int) (ka : Option Addr) (n kc : Nat) (k : List Int) (hy : SIs w ya ys) (hyl : ys.length = yl) (hy256 : yl ≤ 256) (hk : SIs w ka k) (hn : k.length = n) (_hn1 : n ≤ 200)
    (hys : ∀ x, x ∈ ys → ∃ s : Nat, x = (s : Int) ∧ s < n) (hkb : ∀ s, s < n → -1 ≤ k.getD s 0 ∧ k.getD s 0 < 6) :
    Calls Tryd.prog 89 #[.slice ya yl yc, .slice ka n kc] w (FfQ w k ys) := by
  have HY : Hid (SIs w ya ys) := hy
  have HK : Hid (SIs w ka k) := hk
  have HYL := Hid.out (p := Hid _) hyl
  have HN := Hid.out (p := Hid _) hn
  have HYS := Hid.out (p := Hid _) hys
  have HKB := Hid.out (p := Hid _) hkb
  clear hy hk hyl hn hys hkb
  go_enter Tryd.func89, Tryd.ntmps89
  go_wp2_with fail
  go_loopw [13] (fun kv wr => ∃ (q : Nat) (t : Nat → Bool), q ≤ yl ∧ kv = .int .i64 q ∧ Hid ((∀ j, j < q → ∀ s : Nat, ys.getD j 0 = (s : Int) → k.getD s 0 ≠ -1 → t (k.getD s 0).toNat = true) ∧ wr.heap[w.heap.size]? = some (.cells (tkA t) 209) ∧ Below w.heap.size w wr)) (fun kv _ => yl - (intOf kv).toNat)
  case atStart => exact ⟨0, fun _ => false, Nat.zero_le _, rfl, fun j hj => absurd hj (Nat.not_lt_zero _), heap_alloc_new _ _, below_one _ _⟩
  case round =>
    obtain ⟨q, t, hq, rfl, HI⟩ := hrel
    by_cases hqy : q < yl
    · have hqI : (q : Int) < (yl : Int) := by omega
      obtain ⟨yb, yo, rfl, hyc⟩ := (HY.out.below HI.out.2.2) q (by rw [HYL.out]; exact hqy)
      obtain ⟨s, hs1, hs2⟩ := HYS.out (ys.getD q 0) (by
        rw [List.getD_eq_getElem?_getD, List.getElem?_eq_getElem (by rw [HYL.out]; exact hqy)]
        exact List.getElem_mem _)
      rw [hs1] at hyc
      have hsI : (s : Int) < (n : Int) := by omega
      obtain ⟨kb, ko, rfl, hkc⟩ := (HK.out.below HI.out.2.2) s (by rw [HN.out]; exact hs2)
      have hb := HKB.out s hs2
      obtain ⟨v, hv⟩ : ∃ v, k.getD s 0 = v := ⟨_, rfl⟩
      rw [hv] at hkc hb
      have HV := Hid.out (p := Hid _) (And.intro hv hs1)
      clear hv hs1
      by_cases hv1 : v = -1
      · have hvb : (v != -1) = false := by simp [hv1]
        have HNX : Hid (∀ j, j < q + 1 → ∀ s : Nat, ys.getD j 0 = (s : Int) → k.getD s 0 ≠ -1 → t (k.getD s 0).toNat = true) := fun j hj s' hs' hne => by
          by_cases e : j = q
          · rw [e, HV.out.2] at hs'
            obtain rfl : s = s' := by omega
            exact absurd (HV.out.1.trans hv1) hne
          · exact HI.out.1 j (by omega) s' hs' hne
        clear hv1 hb
        go_wp2_with fail
        go_roundw
        case rel => exact ⟨q + 1, t, by omega, by go_num, HNX.out, HI.out.2.1, HI.out.2.2⟩
        case measure => simp [intOf]; omega
      · have hvb : (v != -1) = true := by simpa using hv1
        obtain ⟨c, rfl⟩ : ∃ c : Nat, v = c := ⟨v.toNat, by omega⟩
        have hc6 : c < 6 := by omega
        have hcI : (c : Int) < 6 := by omega
        have t0 := box_cell HI.out.2.1 (tkA_at t c hc6)
        have tf : wr.frozen? ⟨w.heap.size, c, none⟩ = false := box_free HI.out.2.1
        have HST : Hid ((wr.setCell ⟨w.heap.size, c, none⟩ (.bool true)).heap[w.heap.size]? = some (.cells (tkA (fun i => if i = c then true else t i)) 209) ∧ Below w.heap.size w (wr.setCell ⟨w.heap.size, c, none⟩ (.bool true))) := by
          have h := heap_set_same (i := c) (u := .bool true) HI.out.2.1
          rw [tkA_set t c hc6] at h
          exact ⟨h, HI.out.2.2.setCell (p := ⟨w.heap.size, c, none⟩) (Nat.le_refl _) _⟩
        have HNX : Hid (∀ j, j < q + 1 → ∀ s : Nat, ys.getD j 0 = (s : Int) → k.getD s 0 ≠ -1 → (fun i => if i = c then true else t i) (k.getD s 0).toNat = true) := fun j hj s' hs' hne => by
          show (if (k.getD s' 0).toNat = c then true else t (k.getD s' 0).toNat) = true
          by_cases e : j = q
          · rw [e, HV.out.2] at hs'
            obtain rfl : s = s' := by omega
            rw [HV.out.1, Int.toNat_natCast, if_pos rfl]
          · rw [HI.out.1 j (by omega) s' hs' hne]
            simp
        obtain ⟨tc, htc⟩ : ∃ x, t c = x := ⟨_, rfl⟩
        rw [htc] at t0
        clear hv1 hb htc
        go_wp2_with fail
        go_roundw
        case rel => exact ⟨q + 1, _, by omega, by go_num, HNX.out, HST.out.1, HST.out.2⟩
        case measure => simp [intOf]; omega
    · obtain rfl : q = yl := by omega
      have HT : Hid (∀ s : Nat, (s : Int) ∈ ys → k.getD s 0 ≠ -1 → t (k.getD s 0).toNat = true) := fun s hs hne => by
        obtain ⟨j, hj, hje⟩ := List.getElem_of_mem hs
        refine HI.out.1 j (by rw [← HYL.out]; exact hj) s ?_ hne
        rw [List.getD_eq_getElem?_getD, List.getElem?_eq_getElem hj, Option.getD_some, hje]
      obtain ⟨b0, h0⟩ : ∃ x, t 0 = x := ⟨_, rfl⟩
      obtain ⟨b1, h1⟩ : ∃ x, t 1 = x := ⟨_, rfl⟩
      obtain ⟨b2, h2⟩ : ∃ x, t 2 = x := ⟨_, rfl⟩
      obtain ⟨b3, h3⟩ : ∃ x, t 3 = x := ⟨_, rfl⟩
      obtain ⟨b4, h4⟩ : ∃ x, t 4 = x := ⟨_, rfl⟩
      obtain ⟨b5, h5⟩ : ∃ x, t 5 = x := ⟨_, rfl⟩
      have t0 : wr.cell? ⟨w.heap.size, 0, none⟩ = some (.bool b0) := by rw [← h0]; exact box_cell HI.out.2.1 (tkA_at t 0 (by omega))
      have t1 : wr.cell? ⟨w.heap.size, 1, none⟩ = some (.bool b1) := by rw [← h1]; exact box_cell HI.out.2.1 (tkA_at t 1 (by omega))
      have t2 : wr.cell? ⟨w.heap.size, 2, none⟩ = some (.bool b2) := by rw [← h2]; exact box_cell HI.out.2.1 (tkA_at t 2 (by omega))
      have t3 : wr.cell? ⟨w.heap.size, 3, none⟩ = some (.bool b3) := by rw [← h3]; exact box_cell HI.out.2.1 (tkA_at t 3 (by omega))
      have t4 : wr.cell? ⟨w.heap.size, 4, none⟩ = some (.bool b4) := by rw [← h4]; exact box_cell HI.out.2.1 (tkA_at t 4 (by omega))
      have t5 : wr.cell? ⟨w.heap.size, 5, none⟩ = some (.bool b5) := by rw [← h5]; exact box_cell HI.out.2.1 (tkA_at t 5 (by omega))
      have HH := Hid.out (p := Hid _) (And.intro h0 (And.intro h1 (And.intro h2 (And.intro h3 (And.intro h4 h5)))))
      clear h0 h1 h2 h3 h4 h5
      go_wp2_with fail
      clear t0 t1 t2 t3 t4 t5
      obtain ⟨W1, hW1⟩ : ∃ V, V = wr := ⟨_, rfl⟩
      go_loopw [27] (fun kv wi => ∃ j : Nat, j ≤ 6 ∧ kv = .int .i64 j ∧ Hid (∀ i, i < j → t i = true) ∧ wi = wr) (fun kv _ => 6 - (intOf kv).toNat)
      case atStart => exact ⟨0, by omega, rfl, fun i hi => absurd hi (Nat.not_lt_zero _), rfl⟩
      case round =>
        obtain ⟨j, hj, rfl, HJ, rfl⟩ := hrel
        clear hW1
        match j, hj, HJ with
        | 0, _, HJ =>
          have hix : ∀ W : World, (Instr.index 209 (.agg #[.bool b0, .bool b1, .bool b2, .bool b3, .bool b4, .bool b5]) (.int .i64 0)).run Tryd.prog W = .ok (.bool b0) W := fun _ => by kernel_rfl
          have HBJ : Hid (t 0 = b0) := HH.out.1
          cases b0 with
          | true =>
            have HNX : Hid (∀ i, i < 0 + 1 → t i = true) := fun i hi => by
              by_cases e : i = 0
              · rw [e]; exact HBJ.out
              · exact HJ.out i (by omega)
            go_wp2_with fail
            go_roundw
            case rel => exact ⟨0 + 1, by omega, by go_num, HNX.out, by first | rfl | trivial⟩
            case measure => simp [intOf]
          | false =>
            have HNO : Hid (∀ s : Nat, (s : Int) ∈ ys → k.getD s 0 ≠ (0 : Int)) := fun s hs e => by
              have := HT.out s hs (by omega)
              rw [e] at this
              have h2 := HBJ.out
              exact absurd (this.symm.trans h2) (by decide)
            go_wp2_with fail
            go_ret
            exact ⟨0, rfl, by omega, fun _ => HNO.out, HI.out.2.2⟩
        | 1, _, HJ =>
          have hix : ∀ W : World, (Instr.index 209 (.agg #[.bool b0, .bool b1, .bool b2, .bool b3, .bool b4, .bool b5]) (.int .i64 1)).run Tryd.prog W = .ok (.bool b1) W := fun _ => by kernel_rfl
          have HBJ : Hid (t 1 = b1) := HH.out.2.1
          cases b1 with
          | true =>
            have HNX : Hid (∀ i, i < 1 + 1 → t i = true) := fun i hi => by
              by_cases e : i = 1
              · rw [e]; exact HBJ.out
              · exact HJ.out i (by omega)
            go_wp2_with fail
            go_roundw
            case rel => exact ⟨1 + 1, by omega, by go_num, HNX.out, by first | rfl | trivial⟩
            case measure => simp [intOf]
          | false =>
            have HNO : Hid (∀ s : Nat, (s : Int) ∈ ys → k.getD s 0 ≠ (1 : Int)) := fun s hs e => by
              have := HT.out s hs (by omega)
              rw [e] at this
              have h2 := HBJ.out
              exact absurd (this.symm.trans h2) (by decide)
            go_wp2_with fail
            go_ret
            exact ⟨1, rfl, by omega, fun _ => HNO.out, HI.out.2.2⟩
        | 2, _, HJ =>
          have hix : ∀ W : World, (Instr.index 209 (.agg #[.bool b0, .bool b1, .bool b2, .bool b3, .bool b4, .bool b5]) (.int .i64 2)).run Tryd.prog W = .ok (.bool b2) W := fun _ => by kernel_rfl
          have HBJ : Hid (t 2 = b2) := HH.out.2.2.1
          cases b2 with
          | true =>
            have HNX : Hid (∀ i, i < 2 + 1 → t i = true) := fun i hi => by
              by_cases e : i = 2
              · rw [e]; exact HBJ.out
              · exact HJ.out i (by omega)
            go_wp2_with fail
            go_roundw
            case rel => exact ⟨2 + 1, by omega, by go_num, HNX.out, by first | rfl | trivial⟩
            case measure => simp [intOf]
          | false =>
            have HNO : Hid (∀ s : Nat, (s : Int) ∈ ys → k.getD s 0 ≠ (2 : Int)) := fun s hs e => by
              have := HT.out s hs (by omega)
              rw [e] at this
              have h2 := HBJ.out
              exact absurd (this.symm.trans h2) (by decide)
            go_wp2_with fail
            go_ret
            exact ⟨2, rfl, by omega, fun _ => HNO.out, HI.out.2.2⟩
        | 3, _, HJ =>
          have hix : ∀ W : World, (Instr.index 209 (.agg #[.bool b0, .bool b1, .bool b2, .bool b3, .bool b4, .bool b5]) (.int .i64 3)).run Tryd.prog W = .ok (.bool b3) W := fun _ => by kernel_rfl
          have HBJ : Hid (t 3 = b3) := HH.out.2.2.2.1
          cases b3 with
          | true =>
            have HNX : Hid (∀ i, i < 3 + 1 → t i = true) := fun i hi => by
              by_cases e : i = 3
              · rw [e]; exact HBJ.out
              · exact HJ.out i (by omega)
            go_wp2_with fail
            go_roundw
            case rel => exact ⟨3 + 1, by omega, by go_num, HNX.out, by first | rfl | trivial⟩
            case measure => simp [intOf]
          | false =>
            have HNO : Hid (∀ s : Nat, (s : Int) ∈ ys → k.getD s 0 ≠ (3 : Int)) := fun s hs e => by
              have := HT.out s hs (by omega)
              rw [e] at this
              have h2 := HBJ.out
              exact absurd (this.symm.trans h2) (by decide)
            go_wp2_with fail
            go_ret
            exact ⟨3, rfl, by omega, fun _ => HNO.out, HI.out.2.2⟩
        | 4, _, HJ =>
          have hix : ∀ W : World, (Instr.index 209 (.agg #[.bool b0, .bool b1, .bool b2, .bool b3, .bool b4, .bool b5]) (.int .i64 4)).run Tryd.prog W = .ok (.bool b4) W := fun _ => by kernel_rfl
          have HBJ : Hid (t 4 = b4) := HH.out.2.2.2.2.1
          cases b4 with
          | true =>
            have HNX : Hid (∀ i, i < 4 + 1 → t i = true) := fun i hi => by
              by_cases e : i = 4
              · rw [e]; exact HBJ.out
              · exact HJ.out i (by omega)
            go_wp2_with fail
            go_roundw
            case rel => exact ⟨4 + 1, by omega, by go_num, HNX.out, by first | rfl | trivial⟩
            case measure => simp [intOf]
          | false =>
            have HNO : Hid (∀ s : Nat, (s : Int) ∈ ys → k.getD s 0 ≠ (4 : Int)) := fun s hs e => by
              have := HT.out s hs (by omega)
              rw [e] at this
              have h2 := HBJ.out
              exact absurd (this.symm.trans h2) (by decide)
            go_wp2_with fail
            go_ret
            exact ⟨4, rfl, by omega, fun _ => HNO.out, HI.out.2.2⟩
        | 5, _, HJ =>
          have hix : ∀ W : World, (Instr.index 209 (.agg #[.bool b0, .bool b1, .bool b2, .bool b3, .bool b4, .bool b5]) (.int .i64 5)).run Tryd.prog W = .ok (.bool b5) W := fun _ => by kernel_rfl
          have HBJ : Hid (t 5 = b5) := HH.out.2.2.2.2.2
          cases b5 with
          | true =>
            have HNX : Hid (∀ i, i < 5 + 1 → t i = true) := fun i hi => by
              by_cases e : i = 5
              · rw [e]; exact HBJ.out
              · exact HJ.out i (by omega)
            go_wp2_with fail
            go_roundw
            case rel => exact ⟨5 + 1, by omega, by go_num, HNX.out, by first | rfl | trivial⟩
            case measure => simp [intOf]
          | false =>
            have HNO : Hid (∀ s : Nat, (s : Int) ∈ ys → k.getD s 0 ≠ (5 : Int)) := fun s hs e => by
              have := HT.out s hs (by omega)
              rw [e] at this
              have h2 := HBJ.out
              exact absurd (this.symm.trans h2) (by decide)
            go_wp2_with fail
            go_ret
            exact ⟨5, rfl, by omega, fun _ => HNO.out, HI.out.2.2⟩
        | 6, _, HJ =>
          go_wp2_with fail
          go_ret
          exact ⟨-1, rfl, by omega, fun h => absurd rfl h, HI.out.2.2⟩
        | j + 7, hj, _ => exact absurd hj (by omega)

end Go.Proofs.YtkailbdjilkneaaDoor
