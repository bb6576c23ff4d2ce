/-
  All values go one way on, by the program.
  What an order becomes, by the program.
-/
import Derived.Test.YtkailbdjilkneaaDoorOptT
import Derived.Test.YtkailbdjilkneaaDoorOptS
namespace Go.Proofs.YtkailbdjilkneaaDoor
section
open Go.RowKit

section
variable {w W W' : World} {fb ga ac l cc rg : Nat} {ca : Option Addr} {MB : Nat → Nat} {ov ov' : Value} {E : Nat → Nat → Vl} {O : List (Nat × Nat)}
theorem FlV.look (h : FlV w W fb ga ac l cc rg ca MB ov E O) {i r : Nat} (hi : i ≤ l) (hr : r < rg) (hrg : rg ≤ 1000) : (Instr.lookup 110 (.map (some (MB i))) (.int .i64 (r : Int)) false).run Tryd.prog W = .ok (.agg #[.int .i64 ((E i r).st : Int), .int .i64 (E i r).nb]) W := by
  obtain ⟨n, h1, _⟩ := h.mp i hi
  exact h1.look hr hrg
end
set_option maxRecDepth 100000 in
set_option maxHeartbeats 1600000 in
/-- All registers of a go to j: what is told of what is still to be done is carried over (Z). -/
theorem fall_any (w W : World) (fb ga ac l cc rg : Nat) (ca : Option Addr) (MB : Nat → Nat) (ov : Value) (E : Nat → Nat → Vl) (O : List (Nat × Nat)) (h : FlV w W fb ga ac l cc rg ca MB ov E O) (a j : Nat) (ha : a ≤ l) (hj : j ≤ l) (hrg : rg ≤ 200)
    (Z : Nat → (Nat → Nat → Vl) → List (Nat × Nat) → Prop) (hz0 : Z 0 E O) (hz : ∀ r E O, r < rg → Z r E O → Z (r + 1) (updE E j r ((E j r).meet (E a r))) (newO E j r (E a r) O)) :
    Calls Tryd.prog 103 #[.pointer (some ⟨fb, 0, none⟩), .map (some (MB a)), .int .i64 (j : Int)] W fun e w' => ∃ ov' E' O', e = .returned (.tuple #[]) ∧ FlV w w' fb ga ac l cc rg ca MB ov' E' O' ∧ KpF W w' fb ov ov' ∧ Z rg E' O' := by
  have HI := Hid.out (p := Hid _) (And.intro h (And.intro hz0 hz))
  have c1 : W.cell? ⟨fb, 1, none⟩ = some (.int .i64 (rg : Int)) := box_cell h.box rfl
  clear h hz0 hz
  go_enter Tryd.func103, Tryd.ntmps103
  go_wp2_with fail
  go_loopw [11] (fun x wr => ∃ (r : Nat) (ov1 : Value) (E1 : Nat → Nat → Vl) (O1 : List (Nat × Nat)), r ≤ rg ∧ x = .int .i64 r ∧ Hid (FlV w wr fb ga ac l cc rg ca MB ov1 E1 O1 ∧ KpF W wr fb ov ov1 ∧ Z r E1 O1)) (fun x _ => rg - (intOf x).toNat)
  case atStart => exact ⟨0, ov, E, O, Nat.zero_le _, rfl, HI.out.1, KpF.refl _ _ _, HI.out.2.1⟩
  case round =>
    obtain ⟨r, ov1, E1, O1, hr, rfl, HL⟩ := hrel
    by_cases hlt : r < rg
    · have hlt' : (r : Int) < (rg : Int) := by omega
      have lk := HL.out.1.look ha hlt (by omega)
      have HM := Hid.out (p := Hid _) (fmeet_any w wr fb ga ac l cc rg ca MB ov1 E1 O1 HL.out.1 j r hj hlt hrg (E1 a r))
      obtain ⟨x, hx⟩ : ∃ x, E1 a r = x := ⟨_, rfl⟩
      have HX := Hid.out (p := Hid _) hx
      rw [hx] at lk HM
      obtain ⟨mb, hmb⟩ : ∃ m, MB a = m := ⟨_, rfl⟩
      rw [hmb] at lk ⊢
      clear c1 hx
      go_wp2_with fail
      refine Calls.mono HM.out ?_
      rintro e w5 ⟨ov2, rfl, h5, k5⟩
      have HN : Hid (FlV w w5 fb ga ac l cc rg ca MB ov2 (updE E1 j r ((E1 j r).meet x)) (newO E1 j r x O1) ∧ KpF W w5 fb ov ov2 ∧ Z (r + 1) (updE E1 j r ((E1 j r).meet x)) (newO E1 j r x O1)) := by
        refine ⟨h5, HL.out.2.1.trans k5, ?_⟩
        rw [← HX.out]
        exact HI.out.2.2 r E1 O1 hlt HL.out.2.2
      clear h5 k5 HM lk
      go_wp2_with fail
      go_roundw
      case rel => exact ⟨r + 1, ov2, _, _, by omega, by go_num, HN.out⟩
      case measure => simp [intOf]; omega
    · obtain rfl : r = rg := by omega
      go_wp2_with fail
      go_end0
      exact ⟨ov1, E1, O1, rfl, HL.out⟩
end

section
open Go.RowKit

/-- What an OpZero becomes by the value that it asks for. -/
def dcL (op a b c : Int) (v : Vl) : List I4 := match v with | .num n => if n = 0 then [(14, b, 0, 0)] else [] | _ => [(op, a, b, c)]
theorem srcL_one {w : World} {x : I4} : SrcL (w.alloc (.cells #[.int .i64 x.1, .int .i64 x.2.1, .int .i64 x.2.2.1, .int .i64 x.2.2.2] 44)) (some ⟨w.heap.size, 0, none⟩) (cellsT [x]) := srcL_block (heap_alloc_new w _)
set_option maxRecDepth 100000 in
set_option maxHeartbeats 1600000 in
theorem decided_any (w : World) (op a b c : Int) (v : Vl) :
    Calls Tryd.prog 62 #[.agg #[.int .i64 op, .int .i64 a, .int .i64 b, .int .i64 c], .agg #[.int .i64 (v.st : Int), .int .i64 v.nb]] w fun e w' => ∃ sa cp, e = .returned (.slice sa (dcL op a b c v).length cp) ∧ SrcL w' sa (cellsT (dcL op a b c v)) ∧ Below w.heap.size w w' := by
  obtain ⟨s, hs⟩ : ∃ x : Int, (v.st : Int) = x := ⟨_, rfl⟩
  obtain ⟨k, hk⟩ : ∃ x : Int, v.nb = x := ⟨_, rfl⟩
  rw [hs, hk]
  obtain ⟨W, hW⟩ : ∃ V, (w.alloc (.cells #[.int .i64 op, .int .i64 a, .int .i64 b, .int .i64 c] 44)).alloc (.cells #[.int .i64 s, .int .i64 k] 116) = V := ⟨_, rfl⟩
  have hbW : Below w.heap.size w W := by rw [← hW]; exact low2 _ _ _
  have hib : W.heap[w.heap.size]? = some (.cells #[.int .i64 op, .int .i64 a, .int .i64 b, .int .i64 c] 44) := by rw [← hW]; exact box_later (heap_alloc_new _ _) _
  have hvb : W.heap[w.heap.size + 1]? = some (.cells #[.int .i64 s, .int .i64 k] 116) := by
    rw [← hW]
    have := heap_alloc_new (w.alloc (.cells #[.int .i64 op, .int .i64 a, .int .i64 b, .int .i64 c] 44)) (.cells #[.int .i64 s, .int .i64 k] 116)
    rwa [World.size_alloc] at this
  have HW := Hid.out (p := Hid _) hW
  have HAC : Hid (∀ V, Below W.heap.size W V → Calls Tryd.prog 60 #[.int .i64 0] V fun e w' => e = .returned (.agg #[.int .i64 1, .int .i64 0]) ∧ Hid (Below w.heap.size w w') ∧ (w'.cell? ⟨w.heap.size + 1, 0, none⟩ = some (.int .i64 s) ∧ w'.cell? ⟨w.heap.size + 1, 1, none⟩ = some (.int .i64 k)) ∧ w'.cell? ⟨w.heap.size, 0, none⟩ = some (.int .i64 op) ∧ w'.cell? ⟨w.heap.size, 1, none⟩ = some (.int .i64 a) ∧ w'.cell? ⟨w.heap.size, 2, none⟩ = some (.int .i64 b) ∧ w'.cell? ⟨w.heap.size, 3, none⟩ = some (.int .i64 c)) := fun V hV => (always_any 0 V).mono fun e w' ⟨h1, h2⟩ => by
    have hb := hV.trans (h2.mono hV.size)
    have e1 := (hb.block _ (box_lt hvb)).trans hvb
    have e2 := (hb.block _ (box_lt hib)).trans hib
    exact ⟨h1, hbW.trans (hb.mono hbW.size), ⟨box_cell e1 rfl, box_cell e1 rfl⟩, box_cell e2 rfl, box_cell e2 rfl, box_cell e2 rfl, box_cell e2 rfl⟩
  have v0 : W.cell? ⟨w.heap.size + 1, 0, none⟩ = some (.int .i64 s) := box_cell hvb rfl
  have v1 : W.cell? ⟨w.heap.size + 1, 1, none⟩ = some (.int .i64 k) := box_cell hvb rfl
  clear hW hbW hib hvb
  rcases (by by_cases h : v.st = 1
             · by_cases h2 : v.nb = 0
               · exact Or.inl ⟨h, h2⟩
               · exact Or.inr (Or.inl ⟨h, h2⟩)
             · exact Or.inr (Or.inr h) : (v.st = 1 ∧ v.nb = 0) ∨ (v.st = 1 ∧ v.nb ≠ 0) ∨ v.st ≠ 1) with ⟨h1, h2⟩ | ⟨h1, h2⟩ | h1
  · have hd : dcL op a b c v = [(14, b, 0, 0)] := by rw [Vl.st_num.1 h1, h2]; rfl
    rw [hd]
    obtain rfl : s = 1 := by rw [← hs, h1]; rfl
    obtain rfl : k = 0 := by rw [← hk, h2]
    clear hs hk h1 h2 hd
    go_enter Tryd.func62, Tryd.ntmps62
    go_wp2_with fail
    rw [HW.out]
    go_region_with (go_at_call 60; refine Calls.mono (HAC.out _ (Below.refl _ _).drew) ?_; rintro e w5 ⟨rfl, hb5, ⟨q0, q1⟩, i0, i1, i2, i3⟩)
    all_goals go_wp2_with fail
    all_goals go_ret
    all_goals exact ⟨_, _, rfl, srcL_one (x := (14, b, 0, 0)), hb5.out.alloc hb5.out.size _⟩
  · have hd : dcL op a b c v = [] := by
      rw [Vl.st_num.1 h1]
      unfold dcL
      simp only
      rw [if_neg h2]
    rw [hd]
    obtain rfl : s = 1 := by rw [← hs, h1]; rfl
    have hk0 : (k == 0) = false := by rw [← hk]; simpa using h2
    clear hs hk h1 h2 hd
    go_enter Tryd.func62, Tryd.ntmps62
    go_wp2_with fail
    rw [HW.out]
    go_region_with (go_at_call 60; refine Calls.mono (HAC.out _ (Below.refl _ _).drew) ?_; rintro e w5 ⟨rfl, hb5, ⟨q0, q1⟩, i0, i1, i2, i3⟩)
    all_goals go_wp2_with fail
    all_goals go_ret
    all_goals exact ⟨_, _, rfl, srcL_nil _ _, hb5.out⟩
  · have hd : dcL op a b c v = [(op, a, b, c)] := by
      cases v with
      | num n => exact absurd rfl h1
      | no => rfl
      | any => rfl
    rw [hd]
    have hs1 : (s == 1) = false := by
      rw [← hs]
      have : (v.st : Int) ≠ 1 := by omega
      simpa using this
    clear hs hk h1 hd
    go_enter Tryd.func62, Tryd.ntmps62
    go_wp2_with fail
    rw [HW.out]
    go_region_with (go_at_call 60; refine Calls.mono (HAC.out _ (Below.refl _ _).drew) ?_; rintro e w5 ⟨rfl, hb5, ⟨q0, q1⟩, i0, i1, i2, i3⟩)
    all_goals go_wp2_with fail
    all_goals go_ret
    all_goals exact ⟨_, _, rfl, srcL_one (x := (op, a, b, c)), hb5.out.alloc hb5.out.size _⟩
end

end Go.Proofs.YtkailbdjilkneaaDoor
