/-
  The program's graph of a thread's registers, in memory: which one comes next, laying one aside.
-/
import Derived.Test.YtkailbdjilkneaaDoorAlcA
import Derived.Test.YtkailbdjilkneaaDoorLivH
import Derived.Test.YtkailbdjilkneaaDoorBlk
import Derived.Test.YtkailbdjilkneaaDoorLivE
import Derived.BigQuiet
import Derived.BigRegion
namespace Go.Proofs.YtkailbdjilkneaaDoor
open Go.RowKit

/-- Numbers in a block. -/
def IR (W : World) (g n : Nat) : Prop := ∃ c, W.heap[g]? = some (.cells c 3) ∧ ∀ i, i < n → ∃ v : Int, c[i]? = some (.int .i64 v)
section
variable {W V : World} {g n : Nat}
theorem IR.keep (h : IR W g n) (hb : V.heap[g]? = W.heap[g]?) : IR V g n := by
  obtain ⟨c, h1, h2⟩ := h
  exact ⟨c, hb.trans h1, h2⟩
theorem IR.lt (h : IR W g n) : g < W.heap.size := by
  obtain ⟨c, h1, _⟩ := h
  exact box_lt h1
theorem IR.below (h : IR W g n) (hb : Below W.heap.size W V) : IR V g n := h.keep (hb.block g h.lt)
theorem IR.obj (h : IR W g n) : ∃ c, W.heap[g]? = some (.cells c 3) := by
  obtain ⟨c, h1, _⟩ := h
  exact ⟨c, h1⟩
theorem IR.at (h : IR W g n) {i : Nat} (hi : i < n) : ∃ v : Int, W.cell? ⟨g, i, none⟩ = some (.int .i64 v) := by
  obtain ⟨c, h1, h2⟩ := h
  obtain ⟨v, hv⟩ := h2 i hi
  exact ⟨v, box_cell h1 hv⟩
theorem IR.free (h : IR W g n) (i : Nat) : W.frozen? ⟨g, i, none⟩ = false := by
  obtain ⟨c, h1, _⟩ := h
  exact box_free h1
theorem IR.put (h : IR W g n) (i : Nat) (v : Int) : IR (W.setCell ⟨g, i, none⟩ (.int .i64 v)) g n := by
  obtain ⟨c, h1, h2⟩ := h
  refine ⟨_, heap_set_same h1, fun j hj => ?_⟩
  obtain ⟨x, hx⟩ := h2 j hj
  by_cases e : i = j
  · subst e
    exact ⟨v, by rw [Array.getElem?_setIfInBounds_self_of_lt (Array.getElem?_eq_some_iff.1 hx).1]⟩
  · exact ⟨x, by rw [Array.getElem?_setIfInBounds_ne e]; exact hx⟩
theorem IR.far (h : IR W g n) {b i : Nat} (hne : g ≠ b) (v : Value) : IR (W.setCell ⟨b, i, none⟩ v) g n := h.keep (Below.heap_setCell _ _ _ _ (fun x => hne (by simpa using x)))
end
/-- The graph of a thread's registers; R: which are laid aside. -/
structure GrV (w W : World) (gb ub rb rc ab rg : Nat) (clV : Value) (R : List Bool) : Prop where
  low : Below w.heap.size w W
  lo : w.heap.size ≤ gb ∧ w.heap.size ≤ ub ∧ w.heap.size ≤ rb ∧ w.heap.size ≤ ab
  box : W.heap[gb]? = some (.cells #[clV, .slice (some ⟨ub, 0, none⟩) rg rg, .slice (some ⟨rb, 0, none⟩) rg rc, .slice (some ⟨ab, 0, none⟩) rg rg] 144)
  uses : IR W ub rg
  rest : IR W rb rg
  aside : BR W ab R
  len : R.length = rg
section
variable {w W V : World} {gb ub rb rc ab rg : Nat} {clV : Value} {R : List Bool}
theorem GrV.below (h : GrV w W gb ub rb rc ab rg clV R) (hb : Below W.heap.size W V) : GrV w V gb ub rb rc ab rg clV R :=
  ⟨h.low.trans (hb.mono h.low.size), h.lo, blk hb h.box, h.uses.below hb, h.rest.below hb, h.aside.below hb, h.len⟩
theorem obj_neG {a b : Nat} {c d : Array Value} {s t : TypeId} (h : W.heap[a]? = some (.cells c s)) (h' : W.heap[b]? = some (.cells d t)) (hne : s ≠ t) : a ≠ b := fun e => by
  subst e
  rw [h] at h'
  simp only [Option.some.injEq, Obj.cells.injEq] at h'
  exact hne h'.2.1
theorem GrV.nes (h : GrV w W gb ub rb rc ab rg clV R) : gb ≠ ub ∧ gb ≠ rb ∧ gb ≠ ab ∧ ub ≠ ab ∧ rb ≠ ab := by
  obtain ⟨c, hu⟩ := h.uses.obj
  obtain ⟨d, hr⟩ := h.rest.obj
  have ha := h.aside
  exact ⟨obj_neG h.box hu (by decide), obj_neG h.box hr (by decide), obj_neG h.box ha (by decide), obj_neG hu ha (by decide), obj_neG hr ha (by decide)⟩
theorem GrV.setR (h : GrV w W gb ub rb rc ab rg clV R) (i : Nat) (v : Int) : GrV w (W.setCell ⟨rb, i, none⟩ (.int .i64 v)) gb ub rb rc ab rg clV R := by
  have hn := h.nes
  refine ⟨h.low.setCell h.lo.2.2.1 _, h.lo, (Below.heap_setCell _ _ _ _ (fun x => hn.2.1 (by simpa using x))).trans h.box, ?_, h.rest.put i v, h.aside.far (fun e => hn.2.2.2.2 e.symm) _, h.len⟩
  by_cases e : ub = rb
  · rw [e]; exact h.rest.put i v
  · exact h.uses.far e _
theorem GrV.setU (h : GrV w W gb ub rb rc ab rg clV R) (i : Nat) (v : Int) : GrV w (W.setCell ⟨ub, i, none⟩ (.int .i64 v)) gb ub rb rc ab rg clV R := by
  have hn := h.nes
  refine ⟨h.low.setCell h.lo.2.1 _, h.lo, (Below.heap_setCell _ _ _ _ (fun x => hn.1 (by simpa using x))).trans h.box, h.uses.put i v, ?_, h.aside.far (fun e => hn.2.2.2.1 e.symm) _, h.len⟩
  by_cases e : rb = ub
  · rw [e]; exact h.uses.put i v
  · exact h.rest.far e _
theorem GrV.setA (h : GrV w W gb ub rb rc ab rg clV R) (i : Nat) (b : Bool) : GrV w (W.setCell ⟨ab, i, none⟩ (.bool b)) gb ub rb rc ab rg clV (R.set i b) := by
  have hn := h.nes
  exact ⟨h.low.setCell h.lo.2.2.2 _, h.lo, (Below.heap_setCell _ _ _ _ (fun x => hn.2.2.1 (by simpa using x))).trans h.box, h.uses.far hn.2.2.2.1 _, h.rest.far hn.2.2.2.2 _, h.aside.put i b, by simpa using h.len⟩
end

theorem KpL.putE {n₀ x y q : Nat} {A B : World} (h : KpL n₀ x y A B) {i : Nat} (hq : q = x ∨ q = y) (v : Value) : KpL n₀ x y A (B.setCell ⟨q, i, none⟩ v) := ⟨by simpa using h.size, fun k h1 h2 h3 => (Below.heap_setCell _ _ _ _ (fun e => by
  have e2 : k = q := by simpa using e
  rcases hq with rfl | rfl
  · exact h2 e2
  · exact h3 e2)).trans (h.block k h1 h2 h3)⟩
/-- What lies below n stays. -/
theorem GrV.keepN {w W V : World} {gb ub rb rc ab rg n : Nat} {clV : Value} {R : List Bool} (h : GrV w W gb ub rb rc ab rg clV R) (hlow : Below w.heap.size w V) (hb : ∀ b, b < n → V.heap[b]? = W.heap[b]?) (hlt : gb < n ∧ ub < n ∧ rb < n ∧ ab < n) : GrV w V gb ub rb rc ab rg clV R :=
  ⟨hlow, h.lo, (hb gb hlt.1).trans h.box, h.uses.keep (hb ub hlt.2.1), h.rest.keep (hb rb hlt.2.2.1), (hb ab hlt.2.2.2).trans h.aside, h.len⟩

set_option maxRecDepth 100000 in
set_option maxHeartbeats 1600000 in
theorem cheaper_any (w W : World) (gb ub rb rc ab rg : Nat) (clV : Value) (R : List Bool) (h : GrV w W gb ub rb rc ab rg clV R) (i j : Nat) (hi : i < rg) (hj : j < rg) :
    Calls Tryd.prog 124 #[.pointer (some ⟨gb, 0, none⟩), .int .i64 i, .int .i64 j] W fun e w' => ∃ b, e = .returned (.bool b) ∧ Below W.heap.size W w' := by
  have c1 := box_cell (i := 1) h.box rfl
  have c2 := box_cell (i := 2) h.box rfl
  obtain ⟨u0, hu0⟩ := h.uses.at hi
  obtain ⟨u1, hu1⟩ := h.uses.at hj
  obtain ⟨r0, hr0⟩ := h.rest.at hi
  obtain ⟨r1, hr1⟩ := h.rest.at hj
  have hiI : (i : Int) < (rg : Int) := by omega
  have hjI : (j : Int) < (rg : Int) := by omega
  clear h
  go_enter Tryd.func124, Tryd.ntmps124
  go_wp2_with fail
  go_quiet (fail)
  go_wp2_with fail
  go_ret
  exact ⟨_, rfl, below_drewN (Below.refl _ _)⟩

/-- What next tells: a register that is not laid aside. -/
def NxtQ (W : World) (rg : Nat) (R : List Bool) (e : Ending) (w' : World) : Prop := ∃ r : Nat, e = .returned (.int .i64 (r : Int)) ∧ r < rg ∧ R.getD r false = false ∧ Below W.heap.size W w'
set_option maxRecDepth 100000 in
set_option maxHeartbeats 1600000 in
theorem gnext_any (w W : World) (gb ub rb rc ab rg : Nat) (ca : Option Addr) (cc : Nat) (R : List Bool) (h : GrV w W gb ub rb rc ab rg (.slice ca rg cc) R) (hrg : rg ≤ 200) (hex : ∃ r, r < rg ∧ R.getD r false = false) :
    Calls Tryd.prog 85 #[.pointer (some ⟨gb, 0, none⟩)] W (NxtQ W rg R) := by
  have HG : Hid (GrV w W gb ub rb rc ab rg (.slice ca rg cc) R) := h
  have HX := Hid.out (p := Hid _) hex
  have c0 := box_cell (i := 0) h.box rfl
  have HCH : Hid (∀ V, Below W.heap.size W V → ∀ i j : Nat, i < rg → j < rg → Calls Tryd.prog 124 #[.pointer (some ⟨gb, 0, none⟩), .int .i64 i, .int .i64 j] V fun e w' => ∃ b, e = .returned (.bool b) ∧ Below V.heap.size V w') := fun V hV i j hi hj => cheaper_any w V gb ub rb rc ab rg _ R (HG.out.below hV) i j hi hj
  clear h hex
  go_enter Tryd.func85, Tryd.ntmps85
  go_wp2_with fail
  clear c0
  go_loopw [3, 10] (fun bv kv wr => ∃ (k : Nat) (b : Int), k ≤ rg ∧ kv = .int .i64 k ∧ bv = .int .i64 b ∧ Hid (((b = -1 ∧ ∀ q, q < k → R.getD q false = true) ∨ (∃ q : Nat, q < rg ∧ b = (q : Int) ∧ R.getD q false = false)) ∧ Below W.heap.size W wr)) (fun _ kv _ => rg - (intOf kv).toNat)
  case atStart => exact ⟨0, -1, Nat.zero_le _, rfl, rfl, .inl ⟨rfl, fun q hq => absurd hq (Nat.not_lt_zero _)⟩, Below.refl _ _⟩
  case round =>
    obtain ⟨k, b, hk, rfl, rfl, HI⟩ := hrel
    by_cases hkr : k < rg
    · have hkI : (k : Int) < (rg : Int) := by omega
      have hg := HG.out.below HI.out.2
      have c2 := box_cell (i := 2) hg.box rfl
      have c3 := box_cell (i := 3) hg.box rfl
      have a0 := hg.aside.cell (i := k) (by rw [hg.len]; exact hkr)
      obtain ⟨v, r0⟩ := hg.rest.at hkr
      obtain ⟨ak, hak⟩ : ∃ x, R.getD k false = x := ⟨_, rfl⟩
      rw [hak] at a0
      have HAK := Hid.out (p := Hid _) hak
      clear hg hak
      cases ak with
      | true =>
        have HNX : Hid ((b = -1 ∧ ∀ q, q < k + 1 → R.getD q false = true) ∨ (∃ q : Nat, q < rg ∧ b = (q : Int) ∧ R.getD q false = false)) := by
          rcases HI.out.1 with ⟨h1, h2⟩ | h1
          · refine .inl ⟨h1, fun q hq => ?_⟩
            by_cases e : q = k
            · rw [e]; exact HAK.out
            · exact h2 q (by omega)
          · exact .inr h1
        go_wp2_with fail
        go_roundw
        case rel => exact ⟨k + 1, b, by omega, by go_num, rfl, HNX.out, HI.out.2⟩
        case measure => simp [intOf]; omega
      | false =>
        by_cases hv : v < 6
        · go_wp2_with fail
          go_ret
          exact ⟨k, rfl, hkr, HAK.out, HI.out.2⟩
        · have HNX : Hid (∃ q : Nat, q < rg ∧ (k : Int) = (q : Int) ∧ R.getD q false = false) := ⟨k, hkr, rfl, HAK.out⟩
          by_cases hb : b = -1
          · subst hb
            go_wp2_with fail
            go_roundw
            case rel => exact ⟨k + 1, k, by omega, by go_num, rfl, .inr HNX.out, HI.out.2⟩
            case measure => simp [intOf]; omega
          · have hq : ∃ q : Nat, q < rg ∧ b = (q : Int) ∧ R.getD q false = false := by
              rcases HI.out.1 with ⟨h1, _⟩ | h1
              · exact absurd h1 hb
              · exact h1
            obtain ⟨q, hq1, rfl, hq2⟩ := hq
            have HQ := Hid.out (p := Hid _) (And.intro hq1 hq2)
            have HCC := Hid.out (p := Hid _) (HCH.out wr HI.out.2 k q hkr hq1)
            have hnq : ¬ (q : Int) < 0 := by omega
            clear hb hq2
            go_wp2_with fail
            refine Calls.mono HCC.out ?_
            rintro e w5 ⟨x, rfl, hb5⟩
            have HB5 := Hid.out (p := Hid _) (HI.out.2.trans (hb5.mono HI.out.2.size))
            clear hb5 HCC c2 c3 a0 r0
            cases x with
            | true =>
              go_wp2_with fail
              go_roundw
              case rel => exact ⟨k + 1, k, by omega, by go_num, rfl, .inr HNX.out, HB5.out⟩
              case measure => simp [intOf]; omega
            | false =>
              go_wp2_with fail
              go_roundw
              case rel => exact ⟨k + 1, q, by omega, by go_num, rfl, .inr ⟨q, HQ.out.1, rfl, HQ.out.2⟩, HB5.out⟩
              case measure => simp [intOf]; omega
    · obtain rfl : k = rg := by omega
      have hq : ∃ q : Nat, q < k ∧ b = (q : Int) ∧ R.getD q false = false := by
        rcases HI.out.1 with ⟨_, h2⟩ | h1
        · obtain ⟨r, hr1, hr2⟩ := HX.out
          rw [h2 r hr1] at hr2
          cases hr2
        · exact h1
      obtain ⟨q, hq1, rfl, hq2⟩ := hq
      have HQ := Hid.out (p := Hid _) (And.intro hq1 hq2)
      clear hq1 hq2
      go_wp2_with fail
      go_ret
      exact ⟨q, rfl, HQ.out.1, HQ.out.2, HI.out.2⟩

set_option maxRecDepth 100000 in
set_option maxHeartbeats 1600000 in
theorem aside_any (w W : World) (gb ub rb rc ab rg : Nat) (ca : Option Addr) (cc B : Nat) (yss : List (List Int)) (R : List Bool) (h : GrV w W gb ub rb rc ab rg (.slice ca rg cc) R) (_hrg : rg ≤ 200) (hO : O2 w B (.slice ca rg cc) yss) (hyl : yss.length = rg)
    (hy : ∀ r, r < rg → (∀ x, x ∈ yss.getD r [] → ∃ s : Nat, x = (s : Int) ∧ s < rg) ∧ (yss.getD r []).length ≤ 256) (r : Nat) (hr : r < rg) :
    Calls Tryd.prog 86 #[.pointer (some ⟨gb, 0, none⟩), .int .i64 r] W fun e w' => e = .returned (.tuple #[]) ∧ GrV w w' gb ub rb rc ab rg (.slice ca rg cc) (R.set r true) ∧ KpL W.heap.size rb ab W w' := by
  have HG : Hid (GrV w W gb ub rb rc ab rg (.slice ca rg cc) R) := h
  have hrI : (r : Int) < (rg : Int) := by omega
  have c3 := box_cell (i := 3) h.box rfl
  have a0 := h.aside.cell (i := r) (by rw [h.len]; exact hr)
  have af := h.aside.free r
  have HA : Hid (GrV w (W.setCell ⟨ab, r, none⟩ (.bool true)) gb ub rb rc ab rg (.slice ca rg cc) (R.set r true)) := h.setA r true
  have c0 := box_cell (i := 0) HA.out.box rfl
  have HO : Hid (O2 w B (.slice ca rg cc) yss) := hO
  obtain ⟨g, x, rfl, -, hx, hxO⟩ := (HO.out.below HA.out.low).at (k := r) (by rw [hyl]; exact hr)
  obtain ⟨xa, xc, rfl⟩ := hxO.form
  obtain ⟨ys, hys⟩ : ∃ ys, yss.getD r [] = ys := ⟨_, rfl⟩
  have hyr := hy r hr
  rw [hys] at hx hxO hyr
  have HYR := Hid.out (p := Hid _) hyr
  obtain ⟨yl, hyl2⟩ : ∃ q, ys.length = q := ⟨_, rfl⟩
  have HYL := Hid.out (p := Hid _) hyl2
  rw [hyl2] at hx
  have hyb : yl ≤ 256 := by rw [← hyl2]; exact hyr.2
  have HXO : Hid (OwL w B (.slice xa ys.length xc) ys) := by
    obtain ⟨g', x', e, -, hx', hO'⟩ := HO.out.at (k := r) (by rw [hyl]; exact hr)
    simp only [Option.some.injEq, Addr.mk.injEq, and_true] at e
    subst e
    have e2 := (HA.out.low.cell (lt_of_cell hx')).trans hx'
    rw [hx] at e2
    have e3 := Option.some.inj e2
    rw [hys] at hO'
    rw [← hyl2] at e3
    rw [e3]
    exact hO'
  obtain ⟨vk, hvk⟩ : ∃ x, R.getD r false = x := ⟨_, rfl⟩
  rw [hvk] at a0
  clear h hO hxO hy hyr hys hyl2 hvk
  go_enter Tryd.func86, Tryd.ntmps86
  go_wp2_with fail
  clear c0 hx c3 a0 af
  go_loopw [20] (fun kv wr => ∃ q : Nat, q ≤ yl ∧ kv = .int .i64 q ∧ Hid (GrV w wr gb ub rb rc ab rg (.slice (some ⟨g, 0, none⟩) rg cc) (R.set r true) ∧ KpL W.heap.size rb ab W wr)) (fun kv _ => yl - (intOf kv).toNat)
  case atStart => exact ⟨0, Nat.zero_le _, rfl, HA.out, (KpL.refl _ _ _ _).putE (Or.inr rfl) _⟩
  case round =>
    obtain ⟨q, hq, rfl, HI⟩ := hrel
    by_cases hqy : q < yl
    · have hqI : (q : Int) < (yl : Int) := by omega
      obtain ⟨yb, yo, rfl, hyc⟩ := (HXO.out.below HI.out.1.low).sis q (by rw [HYL.out]; exact hqy)
      obtain ⟨s, hs1, hs2⟩ := HYR.out.1 (ys.getD q 0) (by
        rw [List.getD_eq_getElem?_getD, List.getElem?_eq_getElem (by rw [HYL.out]; exact hqy)]
        exact List.getElem_mem _)
      rw [hs1] at hyc
      have hsI : (s : Int) < (rg : Int) := by omega
      have c2 := box_cell (i := 2) HI.out.1.box rfl
      obtain ⟨v, r0⟩ := HI.out.1.rest.at hs2
      have rf := HI.out.1.rest.free s
      have HS := fun x => Hid.out (p := Hid _) (And.intro (HI.out.1.setR s x) (HI.out.2.putE (q := rb) (i := s) (Or.inl rfl) (.int .i64 x)))
      clear hs1
      go_wp2_with fail
      go_roundw
      case rel => exact ⟨q + 1, by omega, by go_num, (HS _).out⟩
      case measure => simp [intOf]; omega
    · obtain rfl : q = yl := by omega
      go_wp2_with fail
      go_end0
      exact ⟨rfl, HI.out.1, HI.out.2⟩

end Go.Proofs.YtkailbdjilkneaaDoor
