/-
  Where an order can lead on, by the program.
-/
import Derived.Test.YtkailbdjilkneaaDoorOptS
import Derived.BigQuiet
namespace Go.Proofs.YtkailbdjilkneaaDoor
open Go.RowKit

theorem sis_none (w : World) (a : Option Addr) : SIs w a [] := fun j h => absurd h (Nat.not_lt_zero j)
theorem sis_box {w : World} {g : Nat} {x : Int} {t : TypeId} (h : w.heap[g]? = some (.cells #[.int .i64 x] t)) : SIs w (some ⟨g, 0, none⟩) [x] := fun j hj => by
  have : j = 0 := by simpa using hj
  subst this
  exact ⟨g, 0, rfl, box_cell h rfl⟩
/-- A row that lies behind what was there. -/
def FrA (w : World) (ra : Option Addr) : Prop := ∀ b o, ra = some ⟨b, o, none⟩ → w.heap.size ≤ b
theorem frA_one {w : World} {g : Nat} (h : w.heap.size ≤ g) : FrA w (some ⟨g, 0, none⟩) := fun b o e => by
  simp only [Option.some.injEq, Addr.mk.injEq] at e
  rw [← e.1]
  exact h
theorem FrA.mono {w V : World} {ra : Option Addr} (h : FrA V ra) (hs : w.heap.size ≤ V.heap.size) : FrA w ra := fun b o e => Nat.le_trans hs (h b o e)
theorem next_new (op a b c : Int) (i : Nat) (hi : i ≤ 1000) (h14 : op = 14 → 0 ≤ a) (h15 : op = 15 → 0 ≤ b) (w : World) :
    Calls Tryd.prog 129 #[ints4 op a b c, .int .i64 i] w fun e w' => ∃ ra rc, e = .returned (.slice ra (nxI op a b i).length rc) ∧ SIs w' ra (nxI op a b i) ∧ Below w.heap.size w w' ∧ FrA w ra := by
  by_cases e14 : op = 14
  · subst e14
    rw [nxI_jump (h14 rfl)]
    clear h14 h15
    go_enter Tryd.func129, Tryd.ntmps129
    go_wp2
    go_ret
    exact ⟨_, _, rfl, sis_one _ _ _, below_two _ _ _, frA_one (by simp)⟩
  · have e14' : (op == 14) = false := by simpa using e14
    by_cases e15 : op = 15
    · subst e15
      rw [nxI_zero (h15 rfl)]
      clear h14 h15
      go_enter Tryd.func129, Tryd.ntmps129
      go_wp2
      go_ret
      exact ⟨_, _, rfl, sis_two _ _ _ _, below_two _ _ _, frA_one (by simp)⟩
    · have e15' : (op == 15) = false := by simpa using e15
      rw [nxI_else e14 e15]
      clear h14 h15 e14 e15
      go_enter Tryd.func129, Tryd.ntmps129
      go_wp2
      go_ret
      exact ⟨_, _, rfl, sis_one _ _ _, below_two _ _ _, frA_one (by simp)⟩
def wyI (op a b : Int) (i : Nat) (v : Vl) : List Int := (wyL op a b i v).map fun (j : Nat) => (j : Int)
set_option maxRecDepth 100000 in
set_option maxHeartbeats 1600000 in
theorem ways_any (w : World) (mb rg n m lk sz : Nat) (f : Nat → Vl) (op a b c : Int) (i : Nat) (hi : i ≤ 1000) (hrg : rg ≤ 1000) (ho : ordE rg m lk sz op a b c = 0) (hm : MpV w mb f rg n) :
    Calls Tryd.prog 101 #[.agg #[.int .i64 op, .int .i64 a, .int .i64 b, .int .i64 c], .int .i64 (i : Int), .map (some mb)] w fun e w' => ∃ ra rc, e = .returned (.slice ra (wyI op a b i (f a.toNat)).length rc) ∧ SIs w' ra (wyI op a b i (f a.toNat)) ∧ Below w.heap.size w w' ∧ FrA w ra := by
  have hld := ok_lead ho
  have HNX : Hid (∀ V, Calls Tryd.prog 129 #[.agg #[.int .i64 op, .int .i64 a, .int .i64 b, .int .i64 c], .int .i64 (i : Int)] V fun e w' => ∃ ra rc, e = .returned (.slice ra (nxI op a b i).length rc) ∧ Hid (SIs w' ra (nxI op a b i) ∧ Below V.heap.size V w' ∧ FrA V ra)) := fun V => (next_new op a b c i hi (fun e => (hld.1 e).1) (fun e => (hld.2 e).1) V).mono fun e w' ⟨ra, rc, h1, h2, h3⟩ => ⟨ra, rc, h1, h2, h3⟩
  obtain ⟨W, hW⟩ : ∃ V, w.alloc (.cells #[.int .i64 op, .int .i64 a, .int .i64 b, .int .i64 c] 44) = V := ⟨_, rfl⟩
  have hbW : Below w.heap.size w W := by rw [← hW]; exact low1 _ _
  have hib : W.heap[w.heap.size]? = some (.cells #[.int .i64 op, .int .i64 a, .int .i64 b, .int .i64 c] 44) := by rw [← hW]; exact heap_alloc_new _ _
  have HW := Hid.out (p := Hid _) hW
  have HBW := Hid.out (p := Hid _) hbW
  have HIB := Hid.out (p := Hid _) hib
  have i0 : W.cell? ⟨w.heap.size, 0, none⟩ = some (.int .i64 op) := box_cell hib rfl
  have i1 : W.cell? ⟨w.heap.size, 1, none⟩ = some (.int .i64 a) := box_cell hib rfl
  have i2 : W.cell? ⟨w.heap.size, 2, none⟩ = some (.int .i64 b) := box_cell hib rfl
  have i3 : W.cell? ⟨w.heap.size, 3, none⟩ = some (.int .i64 c) := box_cell hib rfl
  by_cases h15 : op = 15
  · subst h15
    obtain ⟨⟨ha0, ha1⟩, hb0, _⟩ := ok_zero ho
    obtain ⟨ka, rfl⟩ : ∃ k : Nat, a = k := ⟨a.toNat, by omega⟩
    have HIB := Hid.out (p := Hid _) hib
    have hka : ka < rg := by omega
    obtain ⟨v, hv⟩ : ∃ v, f ka = v := ⟨_, rfl⟩
    have lkW : (Instr.lookup 110 (.map (some mb)) (.int .i64 (ka : Int)) false).run Tryd.prog W = .ok (.agg #[.int .i64 (v.st : Int), .int .i64 v.nb]) W := by
      have := (hm.keep (hbW.block _ hm.lt)).look hka hrg
      rw [hv] at this
      exact this
    rw [Int.toNat_natCast, hv]
    have HAL : Hid (∀ k V, Calls Tryd.prog 60 #[.int .i64 k] V fun e w' => e = .returned (.agg #[.int .i64 1, .int .i64 k]) ∧ Below V.heap.size V w') := fun k V => always_any k V
    have hn15 : nxI 15 (ka : Int) b i = wyI 15 (ka : Int) b i .any := rfl
    rw [hn15] at HNX
    clear hm ho hW hbW hib hv hld
    cases v with
    | no =>
      simp only [Vl.st, Vl.nb] at lkW
      go_enter Tryd.func101, Tryd.ntmps101
      go_wp2_with fail
      rw [HW.out]
      go_wp2
      rw [lkW]
      go_wp2
      go_ret
      exact ⟨none, 0, rfl, sis_none _ _, HBW.out.alloc HBW.out.size _, fun b o e => by cases e⟩
    | any =>
      simp only [Vl.st, Vl.nb] at lkW
      have i0u := fun o => cell_up i0 o
      have i1u := fun o => cell_up i1 o
      have i2u := fun o => cell_up i2 o
      have i3u := fun o => cell_up i3 o
      go_enter Tryd.func101, Tryd.ntmps101
      go_wp2_with fail
      rw [HW.out]
      go_wp2
      rw [lkW]
      go_wp2_with fail
      refine Calls.mono (HNX.out _) ?_
      rintro e w3 ⟨ra, rc, rfl, H3⟩
      go_wp2_with fail
      refine bodyPost_ret (v := .slice ra (wyI 15 (ka : Int) b i .any).length rc) (by simp [results, Tryd.results101, go_sem]) rfl ⟨ra, rc, rfl, H3.out.1, ?_⟩
      have h1 : Below w.heap.size w (W.alloc (.cells #[.int .i64 2, .int .i64 0] 116)) := HBW.out.alloc HBW.out.size _
      exact ⟨h1.trans (H3.out.2.1.mono h1.size), H3.out.2.2.mono h1.size⟩
    | num k =>
      simp only [Vl.st, Vl.nb] at lkW
      obtain ⟨VB, hVB⟩ : ∃ V, W.alloc (.cells #[.int .i64 1, .int .i64 k] 116) = V := ⟨_, rfl⟩
      have HV0 : Hid (W.alloc (.cells #[.int .i64 1, .int .i64 k] 116) = VB ∧ Below w.heap.size w VB) := ⟨hVB, by rw [← hVB]; exact HBW.out.alloc HBW.out.size _⟩
      have hvb : VB.heap[W.heap.size]? = some (.cells #[.int .i64 1, .int .i64 k] 116) := by rw [← hVB]; exact heap_alloc_new _ _
      have hiv : VB.heap[w.heap.size]? = some (.cells #[.int .i64 15, .int .i64 (ka : Int), .int .i64 b, .int .i64 c] 44) := by rw [← hVB]; exact box_later HIB.out _
      have HAC : Hid (∀ V, Below VB.heap.size VB V → Calls Tryd.prog 60 #[.int .i64 0] V fun e w' => e = .returned (.agg #[.int .i64 1, .int .i64 0]) ∧ Hid (Below w.heap.size w w') ∧ w'.cell? ⟨W.heap.size, 0, none⟩ = some (.int .i64 1) ∧ w'.cell? ⟨W.heap.size, 1, none⟩ = some (.int .i64 k) ∧ w'.cell? ⟨w.heap.size, 2, none⟩ = some (.int .i64 b)) := fun V hV => (HAL.out 0 V).mono fun e w' ⟨h1, h2⟩ => by
        have hb := hV.trans (h2.mono hV.size)
        have e1 := (hb.block _ (box_lt hvb)).trans hvb
        have e2 := (hb.block _ (box_lt hiv)).trans hiv
        exact ⟨h1, HV0.out.2.trans (hb.mono HV0.out.2.size), box_cell e1 rfl, box_cell e1 rfl, box_cell e2 rfl⟩
      have v0 : VB.cell? ⟨W.heap.size, 0, none⟩ = some (.int .i64 1) := box_cell hvb rfl
      have v1 : VB.cell? ⟨W.heap.size, 1, none⟩ = some (.int .i64 k) := box_cell hvb rfl
      obtain ⟨qb, hqb⟩ : ∃ q, W.heap.size = q := ⟨_, rfl⟩
      rw [hqb] at HAC v0 v1
      have HQB := Hid.out (p := Hid _) hqb
      clear hVB hvb hiv HAL HNX hqb
      rcases (by by_cases h : k = 0
                 · exact Or.inl h
                 · exact Or.inr ⟨h, by simpa using h⟩ : k = 0 ∨ (k ≠ 0 ∧ (k == 0) = false)) with rfl | ⟨hk, hk'⟩
      · have hwy : wyI 15 (ka : Int) b i (.num 0) = [b] := by
          unfold wyI wyL
          simp
          omega
        rw [hwy]
        go_enter Tryd.func101, Tryd.ntmps101
        go_wp2_with fail
        rw [HW.out]
        go_wp2
        rw [lkW]
        go_wp2_with fail
        rw [HV0.out.1, HQB.out]
        go_wp2_with fail
        go_region_with (go_at_call 60; refine Calls.mono (HAC.out _ (Below.refl _ _).drew) ?_; rintro e w5 ⟨rfl, hb5, q0, q1, q2⟩)
        all_goals go_wp2_with fail
        all_goals go_ret
        all_goals exact ⟨_, _, rfl, sis_box (heap_alloc_new _ _), hb5.out.alloc hb5.out.size _, frA_one hb5.out.size⟩
      · have hwy : wyI 15 (ka : Int) b i (.num k) = [(i : Int) + 1] := by
          unfold wyI wyL
          simp [hk]
        rw [hwy]
        clear hk
        go_enter Tryd.func101, Tryd.ntmps101
        go_wp2_with fail
        rw [HW.out]
        go_wp2
        rw [lkW]
        go_wp2_with fail
        rw [HV0.out.1, HQB.out]
        go_wp2_with fail
        go_region_with (go_at_call 60; refine Calls.mono (HAC.out _ (Below.refl _ _).drew) ?_; rintro e w5 ⟨rfl, hb5, q0, q1, q2⟩)
        all_goals go_wp2_with fail
        all_goals go_ret
        all_goals exact ⟨_, _, rfl, sis_box (heap_alloc_new _ _), hb5.out.alloc hb5.out.size _, frA_one hb5.out.size⟩
  · have h15' : (op != 15) = true := by simpa using h15
    have hwy : wyI op a b i (f a.toNat) = nxI op a b i := by
      unfold wyI wyL nxI
      rw [if_neg h15]
    rw [hwy]
    clear hm ho hW hbW hib hld hwy
    go_enter Tryd.func101, Tryd.ntmps101
    go_wp2_with fail
    rw [HW.out]
    go_wp2_with fail
    refine Calls.mono (HNX.out _) ?_
    rintro e w3 ⟨ra, rc, rfl, H3⟩
    go_wp2_with fail
    refine bodyPost_ret (v := .slice ra (nxI op a b i).length rc) (by simp [results, Tryd.results101, go_sem]) rfl ⟨ra, rc, rfl, H3.out.1, ?_⟩
    exact ⟨HBW.out.trans (H3.out.2.1.mono HBW.out.size), H3.out.2.2.mono HBW.out.size⟩

end Go.Proofs.YtkailbdjilkneaaDoor
