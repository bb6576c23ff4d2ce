/-
  The program's graph of a thread's registers, in memory: which one comes next, laying one aside.
  The program's graph of a thread's registers is made.
-/
import Derived.Test.YtocfocjnnjdcgaaDoorAlcA
import Derived.Test.YtocfocjnnjdcgaaDoorLivC
import Derived.Test.YtocfocjnnjdcgaaDoorRMay
import Derived.Test.YtocfocjnnjdcgaaDoorLivD
import Derived.BigQuiet
import Derived.BigRegion
import Derived.Test.YtocfocjnnjdcgaaDoorZSame
import Derived.Test.YtocfocjnnjdcgaaDoorBox
import Derived.Test.YtocfocjnnjdcgaaDoorCOkP
import Derived.Deep.LoopGhost
import Derived.Deep.CutRange
namespace Go.Proofs.YtocfocjnnjdcgaaDoor
section
open Go.RowKit

/-- Numbers in a block. -/
def IR (W : World) (g n : Nat) : Prop := ∃ c, W.heap[g]? = some (.cells c 3) ∧ ∀ i, i < n → ∃ v : Int, c[i]? = some (.int .i64 v)
section
variable {W V : World} {g n : Nat}
theorem IR.keep (h : IR W g n) (hb : V.heap[g]? = W.heap[g]?) : IR V g n := by
  obtain ⟨c, h1, h2⟩ := h
  exact ⟨c, hb.trans h1, h2⟩
theorem IR.lt (h : IR W g n) : g < W.heap.size := by
  obtain ⟨c, h1, _⟩ := h
  exact box_lt h1
theorem IR.below (h : IR W g n) (hb : Below W.heap.size W V) : IR V g n := h.keep (hb.block g h.lt)
theorem IR.obj (h : IR W g n) : ∃ c, W.heap[g]? = some (.cells c 3) := by
  obtain ⟨c, h1, _⟩ := h
  exact ⟨c, h1⟩
theorem IR.at (h : IR W g n) {i : Nat} (hi : i < n) : ∃ v : Int, W.cell? ⟨g, i, none⟩ = some (.int .i64 v) := by
  obtain ⟨c, h1, h2⟩ := h
  obtain ⟨v, hv⟩ := h2 i hi
  exact ⟨v, box_cell h1 hv⟩
theorem IR.free (h : IR W g n) (i : Nat) : W.frozen? ⟨g, i, none⟩ = false := by
  obtain ⟨c, h1, _⟩ := h
  exact box_free h1
theorem IR.put (h : IR W g n) (i : Nat) (v : Int) : IR (W.setCell ⟨g, i, none⟩ (.int .i64 v)) g n := by
  obtain ⟨c, h1, h2⟩ := h
  refine ⟨_, heap_set_same h1, fun j hj => ?_⟩
  obtain ⟨x, hx⟩ := h2 j hj
  by_cases e : i = j
  · subst e
    exact ⟨v, by rw [Array.getElem?_setIfInBounds_self_of_lt (Array.getElem?_eq_some_iff.1 hx).1]⟩
  · exact ⟨x, by rw [Array.getElem?_setIfInBounds_ne e]; exact hx⟩
theorem IR.far (h : IR W g n) {b i : Nat} (hne : g ≠ b) (v : Value) : IR (W.setCell ⟨b, i, none⟩ v) g n := h.keep (Below.heap_setCell _ _ _ _ (fun x => hne (by simpa using x)))
end
/-- The graph of a thread's registers; R: which are laid aside. -/
structure GrV (w W : World) (gb ub rb rc ab rg : Nat) (clV : Value) (R : List Bool) : Prop where
  low : Below w.heap.size w W
  lo : w.heap.size ≤ gb ∧ w.heap.size ≤ ub ∧ w.heap.size ≤ rb ∧ w.heap.size ≤ ab
  box : W.heap[gb]? = some (.cells #[clV, .slice (some ⟨ub, 0, none⟩) rg rg, .slice (some ⟨rb, 0, none⟩) rg rc, .slice (some ⟨ab, 0, none⟩) rg rg] 121)
  uses : IR W ub rg
  rest : IR W rb rg
  aside : BR W ab R
  len : R.length = rg
section
variable {w W V : World} {gb ub rb rc ab rg : Nat} {clV : Value} {R : List Bool}
theorem GrV.below (h : GrV w W gb ub rb rc ab rg clV R) (hb : Below W.heap.size W V) : GrV w V gb ub rb rc ab rg clV R :=
  ⟨h.low.trans (hb.mono h.low.size), h.lo, blk hb h.box, h.uses.below hb, h.rest.below hb, h.aside.below hb, h.len⟩
theorem obj_neG {a b : Nat} {c d : Array Value} {s t : TypeId} (h : W.heap[a]? = some (.cells c s)) (h' : W.heap[b]? = some (.cells d t)) (hne : s ≠ t) : a ≠ b := fun e => by
  subst e
  rw [h] at h'
  simp only [Option.some.injEq, Obj.cells.injEq] at h'
  exact hne h'.2.1
theorem GrV.nes (h : GrV w W gb ub rb rc ab rg clV R) : gb ≠ ub ∧ gb ≠ rb ∧ gb ≠ ab ∧ ub ≠ ab ∧ rb ≠ ab := by
  obtain ⟨c, hu⟩ := h.uses.obj
  obtain ⟨d, hr⟩ := h.rest.obj
  have ha := h.aside
  exact ⟨obj_neG h.box hu (by decide), obj_neG h.box hr (by decide), obj_neG h.box ha (by decide), obj_neG hu ha (by decide), obj_neG hr ha (by decide)⟩
theorem GrV.setR (h : GrV w W gb ub rb rc ab rg clV R) (i : Nat) (v : Int) : GrV w (W.setCell ⟨rb, i, none⟩ (.int .i64 v)) gb ub rb rc ab rg clV R := by
  have hn := h.nes
  refine ⟨h.low.setCell h.lo.2.2.1 _, h.lo, (Below.heap_setCell _ _ _ _ (fun x => hn.2.1 (by simpa using x))).trans h.box, ?_, h.rest.put i v, h.aside.far (fun e => hn.2.2.2.2 e.symm) _, h.len⟩
  by_cases e : ub = rb
  · rw [e]; exact h.rest.put i v
  · exact h.uses.far e _
theorem GrV.setU (h : GrV w W gb ub rb rc ab rg clV R) (i : Nat) (v : Int) : GrV w (W.setCell ⟨ub, i, none⟩ (.int .i64 v)) gb ub rb rc ab rg clV R := by
  have hn := h.nes
  refine ⟨h.low.setCell h.lo.2.1 _, h.lo, (Below.heap_setCell _ _ _ _ (fun x => hn.1 (by simpa using x))).trans h.box, h.uses.put i v, ?_, h.aside.far (fun e => hn.2.2.2.1 e.symm) _, h.len⟩
  by_cases e : rb = ub
  · rw [e]; exact h.uses.put i v
  · exact h.rest.far e _
theorem GrV.setA (h : GrV w W gb ub rb rc ab rg clV R) (i : Nat) (b : Bool) : GrV w (W.setCell ⟨ab, i, none⟩ (.bool b)) gb ub rb rc ab rg clV (R.set i b) := by
  have hn := h.nes
  exact ⟨h.low.setCell h.lo.2.2.2 _, h.lo, (Below.heap_setCell _ _ _ _ (fun x => hn.2.2.1 (by simpa using x))).trans h.box, h.uses.far hn.2.2.2.1 _, h.rest.far hn.2.2.2.2 _, h.aside.put i b, by simpa using h.len⟩
end

theorem KpL.putE {n₀ x y q : Nat} {A B : World} (h : KpL n₀ x y A B) {i : Nat} (hq : q = x ∨ q = y) (v : Value) : KpL n₀ x y A (B.setCell ⟨q, i, none⟩ v) := ⟨by simpa using h.size, fun k h1 h2 h3 => (Below.heap_setCell _ _ _ _ (fun e => by
  have e2 : k = q := by simpa using e
  rcases hq with rfl | rfl
  · exact h2 e2
  · exact h3 e2)).trans (h.block k h1 h2 h3)⟩
/-- What lies below n stays. -/
theorem GrV.keepN {w W V : World} {gb ub rb rc ab rg n : Nat} {clV : Value} {R : List Bool} (h : GrV w W gb ub rb rc ab rg clV R) (hlow : Below w.heap.size w V) (hb : ∀ b, b < n → V.heap[b]? = W.heap[b]?) (hlt : gb < n ∧ ub < n ∧ rb < n ∧ ab < n) : GrV w V gb ub rb rc ab rg clV R :=
  ⟨hlow, h.lo, (hb gb hlt.1).trans h.box, h.uses.keep (hb ub hlt.2.1), h.rest.keep (hb rb hlt.2.2.1), (hb ab hlt.2.2.2).trans h.aside, h.len⟩

set_option maxRecDepth 100000 in
set_option maxHeartbeats 1600000 in
theorem cheaper_any (w W : World) (gb ub rb rc ab rg : Nat) (clV : Value) (R : List Bool) (h : GrV w W gb ub rb rc ab rg clV R) (i j : Nat) (hi : i < rg) (hj : j < rg) :
    Calls Tryd.prog 88 #[.pointer (some ⟨gb, 0, none⟩), .int .i64 i, .int .i64 j] W fun e w' => ∃ b, e = .returned (.bool b) ∧ Below W.heap.size W w' := by
  have c1 := box_cell (i := 1) h.box rfl
  have c2 := box_cell (i := 2) h.box rfl
  obtain ⟨u0, hu0⟩ := h.uses.at hi
  obtain ⟨u1, hu1⟩ := h.uses.at hj
  obtain ⟨r0, hr0⟩ := h.rest.at hi
  obtain ⟨r1, hr1⟩ := h.rest.at hj
  have hiI : (i : Int) < (rg : Int) := by omega
  have hjI : (j : Int) < (rg : Int) := by omega
  clear h
  go_enter Tryd.func88, Tryd.ntmps88
  go_wp2_with fail
  go_quiet (fail)
  go_wp2_with fail
  go_ret
  exact ⟨_, rfl, below_drewN (Below.refl _ _)⟩

/-- What next tells: a register that is not laid aside. -/
def NxtQ (W : World) (rg : Nat) (R : List Bool) (e : Ending) (w' : World) : Prop := ∃ r : Nat, e = .returned (.int .i64 (r : Int)) ∧ r < rg ∧ R.getD r false = false ∧ Below W.heap.size W w'
set_option maxRecDepth 100000 in
set_option maxHeartbeats 1600000 in
theorem gnext_any (w W : World) (gb ub rb rc ab rg : Nat) (ca : Option Addr) (cc : Nat) (R : List Bool) (h : GrV w W gb ub rb rc ab rg (.slice ca rg cc) R) (hrg : rg ≤ 200) (hex : ∃ r, r < rg ∧ R.getD r false = false) :
    Calls Tryd.prog 69 #[.pointer (some ⟨gb, 0, none⟩)] W (NxtQ W rg R) := by
  have HG : Hid (GrV w W gb ub rb rc ab rg (.slice ca rg cc) R) := h
  have HX := Hid.out (p := Hid _) hex
  have c0 := box_cell (i := 0) h.box rfl
  have HCH : Hid (∀ V, Below W.heap.size W V → ∀ i j : Nat, i < rg → j < rg → Calls Tryd.prog 88 #[.pointer (some ⟨gb, 0, none⟩), .int .i64 i, .int .i64 j] V fun e w' => ∃ b, e = .returned (.bool b) ∧ Below V.heap.size V w') := fun V hV i j hi hj => cheaper_any w V gb ub rb rc ab rg _ R (HG.out.below hV) i j hi hj
  clear h hex
  go_enter Tryd.func69, Tryd.ntmps69
  go_wp2_with fail
  clear c0
  go_loopw [3, 10] (fun bv kv wr => ∃ (k : Nat) (b : Int), k ≤ rg ∧ kv = .int .i64 k ∧ bv = .int .i64 b ∧ Hid (((b = -1 ∧ ∀ q, q < k → R.getD q false = true) ∨ (∃ q : Nat, q < rg ∧ b = (q : Int) ∧ R.getD q false = false)) ∧ Below W.heap.size W wr)) (fun _ kv _ => rg - (intOf kv).toNat)
  case atStart => exact ⟨0, -1, Nat.zero_le _, rfl, rfl, .inl ⟨rfl, fun q hq => absurd hq (Nat.not_lt_zero _)⟩, Below.refl _ _⟩
  case round =>
    obtain ⟨k, b, hk, rfl, rfl, HI⟩ := hrel
    by_cases hkr : k < rg
    · have hkI : (k : Int) < (rg : Int) := by omega
      have hg := HG.out.below HI.out.2
      have c2 := box_cell (i := 2) hg.box rfl
      have c3 := box_cell (i := 3) hg.box rfl
      have a0 := hg.aside.cell (i := k) (by rw [hg.len]; exact hkr)
      obtain ⟨v, r0⟩ := hg.rest.at hkr
      obtain ⟨ak, hak⟩ : ∃ x, R.getD k false = x := ⟨_, rfl⟩
      rw [hak] at a0
      have HAK := Hid.out (p := Hid _) hak
      clear hg hak
      cases ak with
      | true =>
        have HNX : Hid ((b = -1 ∧ ∀ q, q < k + 1 → R.getD q false = true) ∨ (∃ q : Nat, q < rg ∧ b = (q : Int) ∧ R.getD q false = false)) := by
          rcases HI.out.1 with ⟨h1, h2⟩ | h1
          · refine .inl ⟨h1, fun q hq => ?_⟩
            by_cases e : q = k
            · rw [e]; exact HAK.out
            · exact h2 q (by omega)
          · exact .inr h1
        go_wp2_with fail
        go_roundw
        case rel => exact ⟨k + 1, b, by omega, by go_num, rfl, HNX.out, HI.out.2⟩
        case measure => simp [intOf]; omega
      | false =>
        by_cases hv : v < 6
        · go_wp2_with fail
          go_ret
          exact ⟨k, rfl, hkr, HAK.out, HI.out.2⟩
        · have HNX : Hid (∃ q : Nat, q < rg ∧ (k : Int) = (q : Int) ∧ R.getD q false = false) := ⟨k, hkr, rfl, HAK.out⟩
          by_cases hb : b = -1
          · subst hb
            go_wp2_with fail
            go_roundw
            case rel => exact ⟨k + 1, k, by omega, by go_num, rfl, .inr HNX.out, HI.out.2⟩
            case measure => simp [intOf]; omega
          · have hq : ∃ q : Nat, q < rg ∧ b = (q : Int) ∧ R.getD q false = false := by
              rcases HI.out.1 with ⟨h1, _⟩ | h1
              · exact absurd h1 hb
              · exact h1
            obtain ⟨q, hq1, rfl, hq2⟩ := hq
            have HQ := Hid.out (p := Hid _) (And.intro hq1 hq2)
            have HCC := Hid.out (p := Hid _) (HCH.out wr HI.out.2 k q hkr hq1)
            have hnq : ¬ (q : Int) < 0 := by omega
            clear hb hq2
            go_wp2_with fail
            refine Calls.mono HCC.out ?_
            rintro e w5 ⟨x, rfl, hb5⟩
            have HB5 := Hid.out (p := Hid _) (HI.out.2.trans (hb5.mono HI.out.2.size))
            clear hb5 HCC c2 c3 a0 r0
            cases x with
            | true =>
              go_wp2_with fail
              go_roundw
              case rel => exact ⟨k + 1, k, by omega, by go_num, rfl, .inr HNX.out, HB5.out⟩
              case measure => simp [intOf]; omega
            | false =>
              go_wp2_with fail
              go_roundw
              case rel => exact ⟨k + 1, q, by omega, by go_num, rfl, .inr ⟨q, HQ.out.1, rfl, HQ.out.2⟩, HB5.out⟩
              case measure => simp [intOf]; omega
    · obtain rfl : k = rg := by omega
      have hq : ∃ q : Nat, q < k ∧ b = (q : Int) ∧ R.getD q false = false := by
        rcases HI.out.1 with ⟨_, h2⟩ | h1
        · obtain ⟨r, hr1, hr2⟩ := HX.out
          rw [h2 r hr1] at hr2
          cases hr2
        · exact h1
      obtain ⟨q, hq1, rfl, hq2⟩ := hq
      have HQ := Hid.out (p := Hid _) (And.intro hq1 hq2)
      clear hq1 hq2
      go_wp2_with fail
      go_ret
      exact ⟨q, rfl, HQ.out.1, HQ.out.2, HI.out.2⟩

set_option maxRecDepth 100000 in
set_option maxHeartbeats 1600000 in
theorem aside_any (w W : World) (gb ub rb rc ab rg : Nat) (ca : Option Addr) (cc B : Nat) (yss : List (List Int)) (R : List Bool) (h : GrV w W gb ub rb rc ab rg (.slice ca rg cc) R) (_hrg : rg ≤ 200) (hO : O2 w B (.slice ca rg cc) yss) (hyl : yss.length = rg)
    (hy : ∀ r, r < rg → (∀ x, x ∈ yss.getD r [] → ∃ s : Nat, x = (s : Int) ∧ s < rg) ∧ (yss.getD r []).length ≤ 256) (r : Nat) (hr : r < rg) :
    Calls Tryd.prog 70 #[.pointer (some ⟨gb, 0, none⟩), .int .i64 r] W fun e w' => e = .returned (.tuple #[]) ∧ GrV w w' gb ub rb rc ab rg (.slice ca rg cc) (R.set r true) ∧ KpL W.heap.size rb ab W w' := by
  have HG : Hid (GrV w W gb ub rb rc ab rg (.slice ca rg cc) R) := h
  have hrI : (r : Int) < (rg : Int) := by omega
  have c3 := box_cell (i := 3) h.box rfl
  have a0 := h.aside.cell (i := r) (by rw [h.len]; exact hr)
  have af := h.aside.free r
  have HA : Hid (GrV w (W.setCell ⟨ab, r, none⟩ (.bool true)) gb ub rb rc ab rg (.slice ca rg cc) (R.set r true)) := h.setA r true
  have c0 := box_cell (i := 0) HA.out.box rfl
  have HO : Hid (O2 w B (.slice ca rg cc) yss) := hO
  obtain ⟨g, x, rfl, -, hx, hxO⟩ := (HO.out.below HA.out.low).at (k := r) (by rw [hyl]; exact hr)
  obtain ⟨xa, xc, rfl⟩ := hxO.form
  obtain ⟨ys, hys⟩ : ∃ ys, yss.getD r [] = ys := ⟨_, rfl⟩
  have hyr := hy r hr
  rw [hys] at hx hxO hyr
  have HYR := Hid.out (p := Hid _) hyr
  obtain ⟨yl, hyl2⟩ : ∃ q, ys.length = q := ⟨_, rfl⟩
  have HYL := Hid.out (p := Hid _) hyl2
  rw [hyl2] at hx
  have hyb : yl ≤ 256 := by rw [← hyl2]; exact hyr.2
  have HXO : Hid (OwL w B (.slice xa ys.length xc) ys) := by
    obtain ⟨g', x', e, -, hx', hO'⟩ := HO.out.at (k := r) (by rw [hyl]; exact hr)
    simp only [Option.some.injEq, Addr.mk.injEq, and_true] at e
    subst e
    have e2 := (HA.out.low.cell (lt_of_cell hx')).trans hx'
    rw [hx] at e2
    have e3 := Option.some.inj e2
    rw [hys] at hO'
    rw [← hyl2] at e3
    rw [e3]
    exact hO'
  obtain ⟨vk, hvk⟩ : ∃ x, R.getD r false = x := ⟨_, rfl⟩
  rw [hvk] at a0
  clear h hO hxO hy hyr hys hyl2 hvk
  go_enter Tryd.func70, Tryd.ntmps70
  go_wp2_with fail
  clear c0 hx c3 a0 af
  go_loopw [20] (fun kv wr => ∃ q : Nat, q ≤ yl ∧ kv = .int .i64 q ∧ Hid (GrV w wr gb ub rb rc ab rg (.slice (some ⟨g, 0, none⟩) rg cc) (R.set r true) ∧ KpL W.heap.size rb ab W wr)) (fun kv _ => yl - (intOf kv).toNat)
  case atStart => exact ⟨0, Nat.zero_le _, rfl, HA.out, (KpL.refl _ _ _ _).putE (Or.inr rfl) _⟩
  case round =>
    obtain ⟨q, hq, rfl, HI⟩ := hrel
    by_cases hqy : q < yl
    · have hqI : (q : Int) < (yl : Int) := by omega
      obtain ⟨yb, yo, rfl, hyc⟩ := (HXO.out.below HI.out.1.low).sis q (by rw [HYL.out]; exact hqy)
      obtain ⟨s, hs1, hs2⟩ := HYR.out.1 (ys.getD q 0) (by
        rw [List.getD_eq_getElem?_getD, List.getElem?_eq_getElem (by rw [HYL.out]; exact hqy)]
        exact List.getElem_mem _)
      rw [hs1] at hyc
      have hsI : (s : Int) < (rg : Int) := by omega
      have c2 := box_cell (i := 2) HI.out.1.box rfl
      obtain ⟨v, r0⟩ := HI.out.1.rest.at hs2
      have rf := HI.out.1.rest.free s
      have HS := fun x => Hid.out (p := Hid _) (And.intro (HI.out.1.setR s x) (HI.out.2.putE (q := rb) (i := s) (Or.inl rfl) (.int .i64 x)))
      clear hs1
      go_wp2_with fail
      go_roundw
      case rel => exact ⟨q + 1, by omega, by go_num, (HS _).out⟩
      case measure => simp [intOf]; omega
    · obtain rfl : q = yl := by omega
      go_wp2_with fail
      go_end0
      exact ⟨rfl, HI.out.1, HI.out.2⟩
end

section
open Go.RowKit

theorem ir_start (w : World) (n : Nat) (hn : n ≤ 1001) : ∃ w1, (Instr.makeSlice 23 (.int .i64 (n : Int)) (.int .i64 (n : Int))).run Tryd.prog w = .ok (.slice (some ⟨w.heap.size, 0, none⟩) n n) w1 ∧ IR w1 w.heap.size n ∧ Below w.heap.size w w1 := by
  obtain ⟨i, hi, hz0, hz1, hz2⟩ := info_is infoI
  obtain ⟨w1, r1, r2, r3⟩ := run_makeSlice_full (P := Tryd.prog) w w.heap.size 23 3 i (.int .i64 0) 1 Tryd.underlying23 hi hz0 hz1 .i64 .i64 n (by omega) (by rw [hz2]; omega) (by unfold maxLen; omega) (Nat.le_refl _)
  have hlow : Below w.heap.size w w1 := (Below.refl _ _).grown r3 (Nat.le_refl _) (fun k hk => by cases hk)
  refine ⟨w1, by simpa using r1, ?_, hlow⟩
  have e : (Value.int .i64 0).cells = #[Value.int .i64 0] := rfl
  rw [Nat.mul_one, e] at r2
  refine ⟨_, owns_heap r2, fun j hj => ⟨0, ?_⟩⟩
  simp [madeCells, hj, Nat.mod_one]
theorem ir_own {W : World} {B g n cap : Nat} {xs : List Int} (h : W.ownsRow B 3 1 (.slice (some ⟨g, 0, none⟩) n cap) n (intsV xs)) : IR W g n := by
  rcases h.2 with ⟨h0, _⟩ | ⟨g', cap', cur, hv, _, hh, _, _, h3, h4⟩
  · cases h0
  · simp only [Value.slice.injEq, Option.some.injEq, Addr.mk.injEq, and_true] at hv
    obtain ⟨rfl, -, rfl⟩ := hv
    refine ⟨cur, hh, fun i hi => ?_⟩
    have h5 : (cur.toList.take (n * 1))[i]? = cur[i]? := by rw [List.getElem?_take, if_pos (by omega)]; simp
    rw [h4] at h5
    have hx : i < xs.length := by
      have := h.1
      simp [intsV] at this
      omega
    refine ⟨xs[i], ?_⟩
    rw [← h5]
    simp [intsV, hx]
/-- While the numbers of others are being listed: k of them. -/
structure GrB (w W : World) (s1 gb ub ab rg k : Nat) (clV av : Value) : Prop where
  low : Below w.heap.size w W
  lo : w.heap.size ≤ gb ∧ w.heap.size ≤ ub ∧ w.heap.size ≤ ab ∧ gb < s1 ∧ ub < s1 ∧ ab < s1 ∧ w.heap.size ≤ s1 ∧ s1 ≤ W.heap.size
  box : W.heap[gb]? = some (.cells #[clV, .slice (some ⟨ub, 0, none⟩) rg rg, av, .slice (some ⟨ab, 0, none⟩) rg rg] 121)
  uses : IR W ub rg
  own : ∃ xs : List Int, W.ownsRow s1 3 1 av k (intsV xs)
  aside : BR W ab (List.replicate rg false)
theorem GrB.push {w W : World} {s1 gb ub ab rg k : Nat} {clV av : Value} (h : GrB w W s1 gb ub ab rg k clV av) (hk : k ≤ 1000) (x : Int) :
    ∃ g cap w3, (AppS #[23, 23] 23 #[av, .slice (some ⟨W.heap.size, 0, none⟩) 1 1]).run Tryd.prog (W.alloc (.cells #[.int .i64 x] 3)) = .ok (.slice (some ⟨g, 0, none⟩) (k + 1) cap) w3 ∧ w3.heap[gb]? = some (.cells #[clV, .slice (some ⟨ub, 0, none⟩) rg rg, av, .slice (some ⟨ab, 0, none⟩) rg rg] 121) ∧
      GrB w (w3.setCell ⟨gb, 2, none⟩ (.slice (some ⟨g, 0, none⟩) (k + 1) cap)) s1 gb ub ab rg (k + 1) clV (.slice (some ⟨g, 0, none⟩) (k + 1) cap) := by
  obtain ⟨xs, hown⟩ := h.own
  obtain ⟨l1, l2, l3, l4, l5, l6, l7, l8⟩ := h.lo
  obtain ⟨g, cap, w3, r1, r2, r3, r4⟩ := app_row (T := 23) Tryd.underlying23 infoI rfl (by omega) hown (Below.refl _ W) l8 1 #[.int .i64 x] rfl (by simp [Value.oneCell']) (by omega) (by omega) (by omega)
  have hbA : Below W.heap.size W (W.alloc (.cells #[.int .i64 x] 3)) := (Below.refl _ _).alloc (Nat.le_refl _) _
  have hlow : Below s1 W w3 := (hbA.mono l8).grown r3 (by simp; omega) (fun q hq => (hown.lt q hq).1)
  have hl3 : Below w.heap.size w w3 := h.low.trans (hlow.mono l7)
  have hg : s1 ≤ g := by
    rcases r4 with r4 | r4
    · exact (hown.lt g r4).1
    · omega
  have hbx := (hlow.block gb l4).trans h.box
  have hu := h.uses.keep (hlow.block ub l5)
  have ha : BR w3 ab (List.replicate rg false) := (hlow.block ab l6).trans h.aside
  have far : ∀ b (v : Value), b ≠ gb → (w3.setCell ⟨gb, 2, none⟩ v).heap[b]? = w3.heap[b]? := fun b v hb => Below.heap_setCell _ _ _ _ (fun e => hb (by simpa using e))
  obtain ⟨c, huc⟩ := hu.obj
  refine ⟨g, cap, w3, r1, hbx, ⟨hl3.setCell l1 _, ⟨l1, l2, l3, l4, l5, l6, l7, by have := hlow.size; simp; omega⟩, heap_set_same hbx, hu.keep (far ub _ (fun e => obj_neG huc hbx (by decide) e)), ⟨xs ++ [x], ?_⟩, (far ab _ (fun e => obj_neG ha hbx (by decide) e)).trans ha⟩⟩
  have e : intsV (xs ++ [x]) = intsV xs ++ #[Value.int .i64 x].toList := by simp [intsV]
  rw [e]
  exact fam_keeps r2 fun q hq => far q _ (by
    have : g = q := by simpa [Value.ownBlock] using hq
    omega)
theorem GrB.done {w W : World} {s1 gb ub ab rg : Nat} {clV av : Value} (h : GrB w W s1 gb ub ab rg rg clV av) (hrg : 0 < rg) : ∃ rb rc, av = .slice (some ⟨rb, 0, none⟩) rg rc ∧ GrV w W gb ub rb rc ab rg clV (List.replicate rg false) := by
  obtain ⟨xs, hown⟩ := h.own
  obtain ⟨rb, rc, rfl, hb, _⟩ := fam_block hown hrg
  obtain ⟨l1, l2, l3, l4, l5, l6, l7, l8⟩ := h.lo
  exact ⟨rb, rc, rfl, h.low, ⟨l1, l2, by omega, l3⟩, h.box, h.uses, ir_own hown, h.aside, by simp⟩

theorem GrB.begin {w W : World} {ub ab rg : Nat} {clV : Value} (hb : Below w.heap.size w W) (hi : IR W ub rg) (ha : BR W ab (List.replicate rg false)) (h1 : w.heap.size ≤ ub) (h2 : w.heap.size ≤ ab) :
    GrB w (W.alloc (.cells #[clV, .slice (some ⟨ub, 0, none⟩) rg rg, nilV, .slice (some ⟨ab, 0, none⟩) rg rg] 121)) (W.heap.size + 1) W.heap.size ub ab rg 0 clV nilV := by
  have hA : Below W.heap.size W (W.alloc (.cells #[clV, .slice (some ⟨ub, 0, none⟩) rg rg, nilV, .slice (some ⟨ab, 0, none⟩) rg rg] 121)) := below_one _ _
  have l1 := hi.lt
  have l2 := ha.lt
  have l3 := hb.size
  exact ⟨hb.trans (hA.mono l3), ⟨l3, h1, h2, by omega, by omega, by omega, by omega, by simp⟩, heap_alloc_new _ _, hi.below hA, ⟨[], World.ownsRow_nil _ _ _ _⟩, ha.below hA⟩
theorem wrt_pos {rg m lk sz : Nat} {op a b c : Int} (hw : op = 1 ∨ op = 2 ∨ op = 3 ∨ op = 4 ∨ op = 5 ∨ op = 6 ∨ op = 7 ∨ op = 8 ∨ op = 10 ∨ op = 13) (ho : ordE rg m lk sz op a b c = 0) : 0 ≤ wrL op a b := by
  rcases hw with rfl | rfl | rfl | rfl | rfl | rfl | rfl | rfl | rfl | rfl
  · have := ok_const ho; have e : wrL 1 a b = a := rfl; omega
  · have := (ok_rr (by omega) ho).1; have e : wrL 2 a b = a := rfl; omega
  · have := (ok_rrr (by omega) ho).1; have e : wrL 3 a b = a := rfl; omega
  · have := (ok_rrr (by omega) ho).1; have e : wrL 4 a b = a := rfl; omega
  · have := (ok_rrr (by omega) ho).1; have e : wrL 5 a b = a := rfl; omega
  · have := (ok_rrr (by omega) ho).1; have e : wrL 6 a b = a := rfl; omega
  · have := (ok_rrr (by omega) ho).1; have e : wrL 7 a b = a := rfl; omega
  · have := (ok_load ho).1; have e : wrL 8 a b = a := rfl; omega
  · have := (ok_rr (by omega) ho).1; have e : wrL 10 a b = a := rfl; omega
  · have := (ok_cas ho).2.1; have e : wrL 13 a b = b := rfl; omega

attribute [local go_sem ↓] appS_eq in
set_option maxRecDepth 100000 in
set_option maxHeartbeats 3200000 in
theorem ngraph_any (w : World) (ca : Option Addr) (cc B : Nat) (yss : List (List Int)) (ka : Option Addr) (l kc : Nat) (X : Nat → Nat → Int) (rg m lk : Nat) (hrg0 : 0 < rg) (hrg : rg ≤ 200) (hl : l ≤ 1000) (hO : O2 w B (.slice ca rg cc) yss) (hyl : yss.length = rg)
    (hord : ∀ i, i < l → OrdAt w ka i (X i 0) (X i 1) (X i 2) (X i 3)) (hok : ∀ i, i < l → ordE rg m lk l (X i 0) (X i 1) (X i 2) (X i 3) = 0) :
    Calls Tryd.prog 44 #[.slice ca rg cc, .slice ka l kc] w fun e w' => ∃ gb ub rb rc ab, e = .returned (.pointer (some ⟨gb, 0, none⟩)) ∧ GrV w w' gb ub rb rc ab rg (.slice ca rg cc) (List.replicate rg false) := by
  have HO : Hid (O2 w B (.slice ca rg cc) yss) := hO
  have HYL := Hid.out (p := Hid _) hyl
  have HORD := Hid.out (p := Hid _) hord
  have HOK := Hid.out (p := Hid _) hok
  -- both rows, in either order
  obtain ⟨wA, runA, irA, bA⟩ := ir_start w.drew rg (by omega)
  obtain ⟨wB, runB, brB, bB⟩ := truths_start wA rg (by omega)
  obtain ⟨wC, runC, brC, bC⟩ := truths_start w.drew rg (by omega)
  obtain ⟨wD, runD, irD, bD⟩ := ir_start wC rg (by omega)
  have hd : w.drew.heap.size = w.heap.size := rfl
  rw [hd] at runA irA runC brC
  have H1 : Hid (Below w.heap.size w wB ∧ IR wB w.heap.size rg ∧ BR wB wA.heap.size (List.replicate rg false) ∧ w.heap.size ≤ wA.heap.size ∧ wA.heap.size < wB.heap.size) := by
    have hA : Below w.heap.size w wA := (Below.refl _ _).drew.trans bA
    exact ⟨hA.trans (bB.mono hA.size), irA.below bB, brB, hA.size, brB.lt⟩
  have H2 : Hid (Below w.heap.size w wD ∧ IR wD wC.heap.size rg ∧ BR wD w.heap.size (List.replicate rg false) ∧ w.heap.size ≤ wC.heap.size ∧ wC.heap.size < wD.heap.size) := by
    have hC : Below w.heap.size w wC := (Below.refl _ _).drew.trans bC
    exact ⟨hC.trans (bD.mono hC.size), irD, brC.below bD, hC.size, irD.lt⟩
  clear hO hyl hord hok hd irA bA brB bB brC bC irD bD
  go_enter Tryd.func44, Tryd.ntmps44
  go_upto_region 1 with fail
  go_cut [5] from 14 (fun s wx => ∃ gb, s = .pointer (some ⟨gb, 0, none⟩) ∧ Hid (∃ s1 ub ab, GrB w wx s1 gb ub ab rg 0 (.slice ca rg cc) nilV))
  case first =>
    go_region
    · go_wp2_with fail
      go_meet
      case rel => exact ⟨_, rfl, _, _, _, by first | exact GrB.begin H1.out.1 H1.out.2.1 H1.out.2.2.1 (Nat.le_refl _) H1.out.2.2.2.1 | exact (GrB.begin H1.out.1 H1.out.2.1 H1.out.2.2.1 (Nat.le_refl _) H1.out.2.2.2.1).drew⟩
    · go_wp2_with fail
      go_meet
      case rel => exact ⟨_, rfl, _, _, _, by first | exact GrB.begin H2.out.1 H2.out.2.1 H2.out.2.2.1 H2.out.2.2.2.1 (Nat.le_refl _) | exact (GrB.begin H2.out.1 H2.out.2.1 H2.out.2.2.1 H2.out.2.2.2.1 (Nat.le_refl _)).drew⟩
  case rest =>
    obtain ⟨gb, rfl, HB⟩ := hcut
    obtain ⟨s1, ub, ab, hB⟩ := HB.out
    have HB0 : Hid (GrB w wc s1 gb ub ab rg 0 (.slice ca rg cc) nilV) := hB
    clear HB hB H1 H2 runA runB runC runD
    go_wp2_with fail
    go_loopw [25] (fun kv wr => ∃ (k : Nat) (av : Value), k ≤ rg ∧ kv = .int .i64 k ∧ Hid (GrB w wr s1 gb ub ab rg k (.slice ca rg cc) av)) (fun kv _ => rg - (intOf kv).toNat)
    case atStart => exact ⟨0, nilV, Nat.zero_le _, rfl, HB0.out⟩
    case round =>
      clear HB0
      obtain ⟨k, av, hk, rfl, HI⟩ := hrel
      by_cases hkr : k < rg
      · have hkI : (k : Int) < (rg : Int) := by omega
        obtain ⟨g, x, rfl, -, hx, hxO⟩ := (HO.out.below HI.out.low).at (k := k) (by rw [HYL.out]; exact hkr)
        obtain ⟨xa, xc, rfl⟩ := hxO.form
        obtain ⟨xl, hxl⟩ : ∃ q, (yss.getD k []).length = q := ⟨_, rfl⟩
        rw [hxl] at hx
        obtain ⟨xs, hown⟩ := HI.out.own
        obtain ⟨aa, acp, rfl⟩ := owns_slice hown
        have c2 := box_cell (i := 2) HI.out.box rfl
        obtain ⟨g3, cap, w3, r3, hbx3, hN⟩ := HI.out.push (by omega) (xl : Int)
        have HN := Hid.out (p := Hid _) hN
        have b2 := box_cell (i := 2) hbx3 rfl
        have bf := box_free (i := 2) hbx3
        clear hxO hxl hown hbx3 hN
        go_wp2_with fail
        go_roundw
        case rel => exact ⟨k + 1, _, by omega, by go_num, HN.out⟩
        case measure => simp [intOf]; omega
      · obtain rfl : k = rg := by omega
        obtain ⟨rb, rc, rfl, hG⟩ := HI.out.done hrg0
        have HG : Hid (GrV w wr gb ub rb rc ab k (.slice ca k cc) (List.replicate k false)) := hG
        clear hG HI hk hkr
        go_wp2_with fail
        go_loopw [43] (fun iv wi => ∃ i : Nat, i ≤ l ∧ iv = .int .i64 i ∧ Hid (GrV w wi gb ub rb rc ab k (.slice ca k cc) (List.replicate k false))) (fun iv _ => l - (intOf iv).toNat)
        case atStart => exact ⟨0, Nat.zero_le _, rfl, HG.out⟩
        case round =>
          clear HG
          obtain ⟨i, hi, rfl, HI⟩ := hrel
          by_cases hil : i < l
          · have hiI : (i : Int) < (l : Int) := by omega
            obtain ⟨cb, co, rfl, c0, c1, c2, c3⟩ := (HORD.out i hil).below HI.out.low
            have hok := HOK.out i hil
            obtain ⟨x0, e0⟩ : ∃ v, X i 0 = v := ⟨_, rfl⟩
            obtain ⟨x1, e1⟩ : ∃ v, X i 1 = v := ⟨_, rfl⟩
            obtain ⟨x2, e2⟩ : ∃ v, X i 2 = v := ⟨_, rfl⟩
            obtain ⟨x3, e3⟩ : ∃ v, X i 3 = v := ⟨_, rfl⟩
            rw [e0] at c0 hok
            rw [e1] at c1 hok
            rw [e2] at c2 hok
            rw [e3] at c3 hok
            have HRD : Hid (∀ V, Calls Tryd.prog 61 #[ints4 x0 x1 x2 x3] V fun e w' => ∃ ra rc, e = .returned (.slice ra (rdL x0 x1 x2 x3).length rc) ∧ OwL w' V.heap.size (.slice ra (rdL x0 x1 x2 x3).length rc) (rdL x0 x1 x2 x3) ∧ Below V.heap.size V w') := fun V => reads_own _ _ _ _ (ok_op hok) V
            have HWT := Hid.out (p := Hid _) (fun V => writes_any x0 x1 x2 x3 (ok_op hok) V)
            have HRG := Hid.out (p := Hid _) (ok_rd hok)
            have HOD := Hid.out (p := Hid _) hok
            have HWG := Hid.out (p := Hid _) (ok_wr hok)
            have hrl : (rdL x0 x1 x2 x3).length ≤ 2 := by
              unfold rdL
              split
              · simp
              · split
                · simp
                · split
                  · simp
                  · split <;> simp
            obtain ⟨rs, hrs⟩ : ∃ rs, rdL x0 x1 x2 x3 = rs := ⟨_, rfl⟩
            rw [hrs] at HRD HRG hrl
            obtain ⟨ns, hns⟩ : ∃ n, rs.length = n := ⟨_, rfl⟩
            rw [hns] at HRD hrl
            have HNS := Hid.out (p := Hid _) hns
            have HI1 : Hid (GrV w (wr.alloc (.cells #[.int .i64 x0, .int .i64 x1, .int .i64 x2, .int .i64 x3] 55)) gb ub rb rc ab k (.slice ca k cc) (List.replicate k false) ∧ (wr.alloc (.cells #[.int .i64 x0, .int .i64 x1, .int .i64 x2, .int .i64 x3] 55)).heap[wr.heap.size]? = some (.cells #[.int .i64 x0, .int .i64 x1, .int .i64 x2, .int .i64 x3] 55)) := ⟨HI.out.below (below_one _ _), heap_alloc_new _ _⟩
            clear hok e0 e1 e2 e3 hrs hns
            go_wp2_with fail
            refine Calls.mono (HRD.out _) ?_
            rintro e w3 ⟨ra, rcc, rfl, hos, hb3⟩
            have HF : Hid (ub < wr.heap.size ∧ ab < wr.heap.size ∧ gb < wr.heap.size) := ⟨HI.out.uses.lt, HI.out.aside.lt, box_lt HI.out.box⟩
            have H3 : Hid (GrV w w3 gb ub rb rc ab k (.slice ca k cc) (List.replicate k false) ∧ w3.heap[wr.heap.size]? = some (.cells #[.int .i64 x0, .int .i64 x1, .int .i64 x2, .int .i64 x3] 55) ∧ OwL w3 (wr.heap.size + 1) (.slice ra ns rcc) rs) := ⟨HI1.out.1.below hb3, blk hb3 HI1.out.2, by rw [World.size_alloc] at hos; exact hos⟩
            clear hos hb3 HI1 HRD c0 c1 c2 c3
            go_wp2_with fail
            obtain ⟨z0, hz0⟩ : ∃ q, wr.heap.size = q := ⟨_, rfl⟩
            rw [hz0] at HF H3 ⊢
            clear hz0
            go_loopw [50] (fun qv wi => ∃ q : Nat, q ≤ ns ∧ qv = .int .i64 q ∧ Hid (GrV w wi gb ub rb rc ab k (.slice ca k cc) (List.replicate k false) ∧ wi.heap[z0]? = some (.cells #[.int .i64 x0, .int .i64 x1, .int .i64 x2, .int .i64 x3] 55) ∧ OwL wi (z0 + 1) (.slice ra ns rcc) rs)) (fun qv _ => ns - (intOf qv).toNat)
            case atStart => exact ⟨0, Nat.zero_le _, rfl, H3.out⟩
            case round =>
              clear H3
              obtain ⟨q, hq, rfl, HJ⟩ := hrel
              by_cases hqn : q < ns
              · have hqI : (q : Int) < (ns : Int) := by omega
                obtain ⟨lb, lo, rfl, hlc⟩ := HJ.out.2.2.sis q (by rw [HNS.out]; exact hqn)
                obtain ⟨h0, h1⟩ := HRG.out (rs.getD q 0) (by
                  rw [List.getD_eq_getElem?_getD, List.getElem?_eq_getElem (by rw [HNS.out]; exact hqn)]
                  exact List.getElem_mem _)
                obtain ⟨s, hs⟩ : ∃ s : Nat, rs.getD q 0 = s := ⟨(rs.getD q 0).toNat, by omega⟩
                rw [hs] at hlc h1
                have hsk : s < k := by omega
                have hsI : (s : Int) < (k : Int) := by omega
                have b1 := box_cell (i := 1) HJ.out.1.box rfl
                obtain ⟨v, u0⟩ := HJ.out.1.uses.at hsk
                have uf := HJ.out.1.uses.free s
                have HS : ∀ x : Int, Hid (GrV w (wr.setCell ⟨ub, s, none⟩ (.int .i64 x)) gb ub rb rc ab k (.slice ca k cc) (List.replicate k false) ∧ (wr.setCell ⟨ub, s, none⟩ (.int .i64 x)).heap[z0]? = some (.cells #[.int .i64 x0, .int .i64 x1, .int .i64 x2, .int .i64 x3] 55) ∧ OwL (wr.setCell ⟨ub, s, none⟩ (.int .i64 x)) (z0 + 1) (.slice (some ⟨lb, lo, none⟩) ns rcc) rs) := fun x => by
                  have hub := HF.out.1
                  have hn0 : z0 ≠ ub := by omega
                  refine ⟨HJ.out.1.setU s x, (Below.heap_setCell _ _ _ _ (fun e => hn0 (by simpa using e))).trans HJ.out.2.1, fam_keeps HJ.out.2.2 fun b hb => ?_⟩
                  have hn1 : b ≠ ub := by have := (HJ.out.2.2.lt b hb).1; omega
                  exact Below.heap_setCell _ _ _ _ (fun e => hn1 (by simpa using e))
                clear h0 h1 hs
                go_wp2_with fail
                go_roundw
                case rel => exact ⟨q + 1, by omega, by go_num, (HS _).out.1, (HS _).out.2.1, (HS _).out.2.2⟩
                case measure => simp [intOf]; omega
              · obtain rfl : q = ns := by omega
                have i0 := box_cell (i := 0) HJ.out.2.1 rfl
                have i1 := box_cell (i := 1) HJ.out.2.1 rfl
                have i2 := box_cell (i := 2) HJ.out.2.1 rfl
                have i3 := box_cell (i := 3) HJ.out.2.1 rfl
                go_wp2_with fail
                refine Calls.mono (HWT.out _) ?_
                rintro e w5 ⟨hw, hb5⟩
                have HG5 := Hid.out (p := Hid _) (HJ.out.1.below hb5)
                clear hb5 i0 i1 i2 i3
                rcases hw with ⟨x, rfl, hxe, hop⟩ | ⟨rfl, -⟩
                · have hwg := HWG.out
                  rw [← hxe] at hwg
                  have hx2 : 0 ≤ x ∧ x < k := by
                    rcases hwg with h | h
                    · exfalso
                      have h2 := wrt_pos hop HOD.out
                      rw [← hxe] at h2
                      omega
                    · exact h
                  obtain ⟨s, rfl⟩ : ∃ s : Nat, x = s := ⟨x.toNat, by omega⟩
                  have hsk : s < k := by omega
                  have hsI : (s : Int) < (k : Int) := by omega
                  have b1 := box_cell (i := 1) HG5.out.box rfl
                  obtain ⟨v, u0⟩ := HG5.out.uses.at hsk
                  have uf := HG5.out.uses.free s
                  have HS := fun x => Hid.out (p := Hid _) (HG5.out.setU s x)
                  clear hwg hx2 hxe hop
                  go_wp2_with fail
                  go_roundw
                  case rel => exact ⟨i + 1, by omega, by go_num, (HS _).out⟩
                  case measure => simp [intOf]; omega
                · go_wp2_with fail
                  go_roundw
                  case rel => exact ⟨i + 1, by omega, by go_num, HG5.out⟩
                  case measure => simp [intOf]; omega
          · obtain rfl : i = l := by omega
            go_wp2_with fail
            go_ret
            exact ⟨gb, ub, rb, rc, ab, rfl, HI.out⟩
end

end Go.Proofs.YtocfocjnnjdcgaaDoor
