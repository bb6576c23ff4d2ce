/-
  What is found out of a thread for Dead: its orders, and what is live.
  Which orders of a thread nobody needs, by what is told of its registers.
-/
import Derived.Test.YtkailbdjilkneaaDoorOptDb
import Derived.Test.YtkailbdjilkneaaDoorOptCh
import Derived.Test.YtkailbdjilkneaaDoorLivK
namespace Go.Proofs.YtkailbdjilkneaaDoor
section
open Go.RowKit

set_option maxRecDepth 100000 in
set_option maxHeartbeats 1600000 in
theorem dead1_any (w : World) (pb ab hb hc : Nat) (ra : Option Addr) (rn rc : Nat) (ca : Option Addr) (n cc : Nat) (uv : Value) (lkv rgv : Int) (A : Nat → Option Addr) (L C : Nat → Nat) (X : Nat → Nat → Nat → Int) (hp : PIn w ca n A L C X) (hbx : w.heap[pb]? = some (.cells #[.slice ca n cc, uv, .int .i64 lkv, .int .i64 rgv] 25)) (hab : w.cell? ⟨ab, 0, none⟩ = some (.slice (some ⟨hb, 0, none⟩) n hc)) (t : Nat) (ht : t < n) (hv : w.cell? ⟨hb, t, none⟩ = some (.slice ra rn rc)) :
    Calls Tryd.prog 32 #[.int .i64 (t : Int), .pointer (some ⟨pb, 0, none⟩), .pointer (some ⟨ab, 0, none⟩)] w fun e w' => e = .returned (.func (.func 33) #[.agg #[.slice (A t) (L t) (C t), .slice ra rn rc]] #[]) ∧ Below w.heap.size w w' := by
  obtain ⟨cb, co, rfl, hcell⟩ := hp.code t ht
  have p0 : w.cell? ⟨pb, 0, none⟩ = some (.slice (some ⟨cb, co, none⟩) n cc) := box_cell hbx rfl
  have hti : (t : Int) < (n : Int) := by omega
  obtain ⟨At, hAt⟩ : ∃ a, A t = a := ⟨_, rfl⟩
  obtain ⟨lt, hlt⟩ : ∃ a, L t = a := ⟨_, rfl⟩
  obtain ⟨ct, hct⟩ : ∃ a, C t = a := ⟨_, rfl⟩
  rw [hAt, hlt, hct] at hcell ⊢
  have p0' := fun o => cell_up p0 o
  have hcell' := fun o => cell_up hcell o
  have hab' := fun o => cell_up hab o
  have hv' := fun o => cell_up hv o
  have HB0 : Hid (Below w.heap.size w w) := Below.refl _ _
  clear hp hbx hAt hlt hct
  go_enter Tryd.func32, Tryd.ntmps32
  go_wp2_with fail
  go_region
  all_goals go_wp2_with fail
  all_goals refine bodyPost_ret (v := .func (.func 33) #[.agg #[.slice At lt ct, .slice ra rn rc]] #[]) (by simp [results, Tryd.results32, go_sem]) rfl ⟨rfl, ?_⟩
  all_goals first | exact HB0.out | exact HB0.out.drew
end

section
open Go.RowKit

/-- What the orders of a thread become: one that nobody needs becomes none. -/
def DeaG (X : Nat → Nat → Nat → Int) (L : Nat → Nat) (t : Nat) (bt : Nat → List I4) : Prop := ∀ i, i < L t → ∃ d : Bool, bt i = bDrop d (ordAt X t i) ∧ (d = true ↔ deadO (X t) (L t) i)
theorem ok_low {rg m lk sz : Nat} {op a b c : Int} (h : ordE rg m lk sz op a b c = 0) (ho : 1 ≤ op ∧ op ≤ 8) : 0 ≤ a ∧ a < rg := by
  rcases (by omega : op = 1 ∨ op = 2 ∨ op = 3 ∨ op = 4 ∨ op = 5 ∨ op = 6 ∨ op = 7 ∨ op = 8) with rfl | rfl | rfl | rfl | rfl | rfl | rfl | rfl
  · exact ok_const h
  · exact (ok_rr (by omega) h).1
  · exact (ok_rrr (by omega) h).1
  · exact (ok_rrr (by omega) h).1
  · exact (ok_rrr (by omega) h).1
  · exact (ok_rrr (by omega) h).1
  · exact (ok_rrr (by omega) h).1
  · exact (ok_load h).1
theorem dead_row {X : Nat → Nat → Int} {l i rg m lk : Nat} {S : Nat → Nat} (hrg : rg ≤ 200) (ho : ordE rg m lk l (X i 0) (X i 1) (X i 2) (X i 3) = 0) (hS : ∀ r, has S r = true ↔ Lv X l r (i + 1)) :
    (decide (1 ≤ X i 0 ∧ X i 0 ≤ 8) && !decide (X i 1 ∈ lstP (has S) 256)) = true ↔ deadO X l i := by
  unfold deadO
  simp only [Bool.and_eq_true, decide_eq_true_eq, Bool.not_eq_true', decide_eq_false_iff_not]
  refine ⟨fun ⟨h1, h2⟩ => ⟨h1, fun r hr hl => h2 ?_⟩, fun ⟨h1, h2⟩ => ⟨h1, fun hm => ?_⟩⟩
  · have := (ok_low ho h1).2
    rw [hr]
    exact lstP_in (by omega) ((hS r).2 hl)
  · obtain ⟨r, e, _, hr⟩ := lstP_mem hm
    exact h2 r e ((hS r).1 hr)

theorem deadF_any (w : World) (pb ab : Nat) (ca : Option Addr) (n cc m lk rg : Nat) (uv : Value) (lkv : Int) (A : Nat → Option Addr) (L C : Nat → Nat) (X : Nat → Nat → Nat → Int) (hp : PIn w ca n A L C X) (hc : COk n L X m lk rg) (hbx : w.heap[pb]? = some (.cells #[.slice ca n cc, uv, .int .i64 lkv, .int .i64 (rg : Int)] 25)) (B : Nat) (u : Value) (ysss : List (List (List Int))) (hO : O3 w B u ysss) (hlen : ysss.length = n) (hS : ∀ t, t < n → ∃ S, (∀ i r, has (S i) r = true ↔ Lv (X t) (L t) r i) ∧ ysss.getD t [] = tellS S (L t + 1)) (hab : w.cell? ⟨ab, 0, none⟩ = some u) :
    ∀ V, Below w.heap.size w V → ∀ t, t < n → Calls Tryd.prog 32 (#[.int .i64 (t : Int)] ++ #[.pointer (some ⟨pb, 0, none⟩), .pointer (some ⟨ab, 0, none⟩)]) V fun e w' => ∃ bnd bt, e = .returned (.func (.func 33) bnd #[]) ∧ Below V.heap.size V w' ∧ DeaG X L t bt ∧ BecV w w' 33 bnd (L t) bt := fun V hV t ht => by
  obtain ⟨S, hS1, hS2⟩ := hS t ht
  obtain ⟨ua, uc, rfl⟩ := hO.form
  obtain ⟨hb, x, rfl, -, hx1, hx2⟩ := hO.at (k := t) (by omega)
  rw [hlen] at hab
  obtain ⟨ra, rc, rfl⟩ := hx2.form
  rw [hS2, tellS_len] at hx1
  rw [hS2] at hx2
  rw [tellS_len] at hx2
  refine (dead1_any V pb ab hb uc ra (L t + 1) rc ca n cc uv lkv rg A L C X (hp.below hV) ((hV.block _ (box_lt hbx)).trans hbx) ((hV.cell (lt_of_cell hab)).trans hab) t ht ((hV.cell (lt_of_cell hx1)).trans hx1)).mono ?_
  rintro e w' ⟨rfl, hb'⟩
  refine ⟨_, fun i => bDrop (decide (1 ≤ X t i 0 ∧ X t i 0 ≤ 8) && !decide (X t i 1 ∈ lstP (has (S (i + 1))) 256)) (ordAt X t i), rfl, hb', fun i hi => ⟨_, rfl, dead_row hc.rg2 (hc.ord t i ht hi) (hS1 (i + 1))⟩, fun U hU _ i hi => ?_⟩
  have hxU := hx2.below hU
  obtain ⟨g, y, e, -, hy1, hy2⟩ := hxU.at (k := i + 1) (by rw [tellS_len]; omega)
  subst e
  rw [tellS_at (by omega)] at hy2
  obtain ⟨ya, yc, rfl⟩ := hy2.form
  have ho := hc.ord t i ht hi
  refine nbecome_any U (A t) (L t) (C t) g 0 rc ya yc (lstP (has (S (i + 1))) 256) (X t i 0) (X t i 1) (X t i 2) (X t i 3) i (hc.L4 t ht) hi (ok_op ho) (fun h h1 => ?_) ((hp.below hU).ord t i ht hi) ?_ hy2.sis ?_
  · have := (ok_low ho h).1
    omega
  · rw [Nat.zero_add]
    exact hy1
  · have := lstP_len (has (S (i + 1))) 256
    omega
end

end Go.Proofs.YtkailbdjilkneaaDoor
