/-
  A program that is being made: more words behind its own, other numbers.
  The program with colours for registers: by the program.
-/
import Derived.Test.YtocfocjnnjdcgaaDoorFRew
import Derived.Test.YtocfocjnnjdcgaaDoorAlpF
import Derived.Test.YtocfocjnnjdcgaaDoorAppB
import Derived.Test.YtocfocjnnjdcgaaDoorFRewB
import Derived.Test.YtocfocjnnjdcgaaDoorAlcB
import Derived.Test.YtocfocjnnjdcgaaDoorCOkP
import Derived.Test.YtocfocjnnjdcgaaDoorCheckA
namespace Go.Proofs.YtocfocjnnjdcgaaDoor
section
open Go.RowKit

section
variable {S W : World} {qb : Nat} {uv cv : Value} {words : List Int} {lk rg : Int} {b : Nat → Nat → List I4} {L : Nat → Nat} {k : Nat} {tv : List Value}
/-- One word more. -/
theorem RwI.word (h : RwI S qb uv words lk rg b L k W cv tv) (x : Int) (hk : words.length ≤ 1000) :
    ∃ g cap w3, (AppS #[23, 23] 23 #[uv, .slice (some ⟨W.heap.size, 0, none⟩) 1 1]).run Tryd.prog (W.alloc (.cells #[.int .i64 x] 3)) = .ok (.slice (some ⟨g, 0, none⟩) (words.length + 1) cap) w3 ∧ w3.heap[qb]? = some (.cells #[cv, uv, .int .i64 lk, .int .i64 rg] 25) ∧
      RwI S qb (.slice (some ⟨g, 0, none⟩) (words.length + 1) cap) (words ++ [x]) lk rg b L k (w3.setCell ⟨qb, 1, none⟩ (.slice (some ⟨g, 0, none⟩) (words.length + 1) cap)) cv tv := by
  have hl := h.low.size
  obtain ⟨g, cap, w3, r1, r2, r3, r4⟩ := app_row (T := 23) Tryd.underlying23 infoI rfl (by omega) h.words (Below.refl _ W) hl 1 #[.int .i64 x] rfl (by simp [Value.oneCell']) (by omega) (by omega) (by omega)
  have hbA : Below W.heap.size W (W.alloc (.cells #[.int .i64 x] 3)) := (Below.refl _ _).alloc (Nat.le_refl _) _
  have hlow : Below S.heap.size S w3 := (h.low.alloc hl _).grown r3 (by simp; omega) (fun q hq => (h.words.lt q hq).1)
  have hq3 : w3.heap[qb]? = some (.cells #[cv, uv, .int .i64 lk, .int .i64 rg] 25) := by
    rw [grown_block r3 (by simp; have := box_lt h.box; omega) h.wq]
    exact (hbA.block _ (box_lt h.box)).trans h.box
  have hgq : g ≠ qb := fun e => by
    rcases r4 with r4 | r4
    · exact h.wq (by rw [r4, e])
    · have := box_lt h.box
      omega
  have hold : ∀ y, y < W.heap.size → uv.ownBlock ≠ some y → y ≠ g := fun y hy hne e => by
    rcases r4 with r4 | r4
    · exact hne (by rw [r4, e])
    · omega
  have hcu : ∀ y, cv.ownBlock = some y → uv.ownBlock ≠ some y := fun y hy e => h.cw y e hy
  refine ⟨g, cap, w3, r1, hq3, ⟨hlow.setCell h.hq _, h.hq, ?_, ?_, ?_, ?_, h.cq, fun y hy e => ?_, fun t ht => ?_⟩⟩
  · rw [heap_set_same hq3]
    rfl
  · refine owns_far ?_ (by simp only [Value.ownBlock]; exact fun e => hgq (by simpa using e))
    have e : (words ++ [x]).length = words.length + 1 := by simp
    rw [e, show intsV (words ++ [x]) = intsV words ++ [.int .i64 x] by simp [intsV]]
    exact r2
  · simp only [Value.ownBlock]
    exact fun e => hgq (by simpa using e)
  · exact owns_far (own_grown (owns_below2 h.code hbA) r3 (fun y hy => hcu y hy)) h.cq
  · have : g = y := by simpa [Value.ownBlock] using hy
    subst this
    exact hold _ (h.code.lt g e).2 (hcu g e) rfl
  · have h1 := h.thr t ht
    have hne : ∀ y, (tv.getD t nilV).ownBlock = some y → uv.ownBlock ≠ some y := fun y hy => owns_two h1.1 h.words (by decide) hy
    exact ⟨owns_far (own_grown (owns_below2 h1.1 hbA) r3 (fun y hy => hne y hy)) (fun e2 => (h1.2 qb e2).1 rfl), h1.2⟩
end
/-- A new program, laid into a box. -/
theorem new_box {w V : World} {n : Nat} {va : Option Addr} {vc : Nat} {ua : Option Addr} {un uc : Nat} {words : List Int} {lk rg : Int} {b : Nat → Nat → List I4} {L : Nat → Nat} {tv : List Value} (h1 : V.ownsRow w.heap.size 36 1 (.slice va n vc) n tv) (h2 : ∀ t, t < n → OwnC V w.heap.size (tv.getD t nilV) (codeR (b t) (L t))) (h3 : V.ownsRow w.heap.size 3 1 (.slice ua un uc) words.length (intsV words)) (h4 : Below w.heap.size w V) :
    RwI w V.heap.size (.slice ua un uc) words lk rg b L n (V.alloc (.cells #[.slice va n vc, .slice ua un uc, .int .i64 lk, .int .i64 rg] 25)) (.slice va n vc) tv := by
  have hb : Below V.heap.size V (V.alloc (.cells #[.slice va n vc, .slice ua un uc, .int .i64 lk, .int .i64 rg] 25)) := (Below.refl _ _).alloc (Nat.le_refl _) _
  exact ⟨h4.trans (hb.mono h4.size), h4.size, heap_alloc_new _ _, owns_below2 h3 hb, fun e => by have := (h3.lt _ e).2; omega, owns_below2 h1 hb, fun e => by have := (h1.lt _ e).2; omega, fun g hg => owns_two h3 h1 (by decide) hg, fun t ht => ⟨owns_below2 (h2 t ht) hb, fun g hg => ⟨by have := ((h2 t ht).lt g hg).2; omega, owns_two (h2 t ht) h1 (by decide) hg⟩⟩⟩
end

section
open Go.RowKit

section
variable {S W : World} {qb : Nat} {uv cv : Value} {words : List Int} {lk rg : Int} {b : Nat → Nat → List I4} {L : Nat → Nat} {k : Nat} {tv : List Value}
/-- Noughts behind the words. -/
theorem RwI.zeros (h : RwI S qb uv words lk rg b L k W cv tv) (m : Nat) (hk : words.length + m ≤ 1000000) :
    ∃ ua uc w3, (AppS #[23, 3] 23 #[uv, .int .i64 (m : Nat)]).run Tryd.prog W = .ok (.slice ua (words.length + m) uc) w3 ∧ w3.heap[qb]? = some (.cells #[cv, uv, .int .i64 lk, .int .i64 rg] 25) ∧
      RwI S qb (.slice ua (words.length + m) uc) (words ++ List.replicate m 0) lk rg b L k (w3.setCell ⟨qb, 1, none⟩ (.slice ua (words.length + m) uc)) cv tv := by
  have hl := h.low.size
  obtain ⟨v', w3, r1, r2, r3, r4⟩ := app_zeros h.words hl m hk
  obtain ⟨ua, uc, rfl⟩ := fam_form r2
  have hlow : Below S.heap.size S w3 := h.low.grown r3 hl (fun q hq => (h.words.lt q hq).1)
  have hq3 : w3.heap[qb]? = some (.cells #[cv, uv, .int .i64 lk, .int .i64 rg] 25) := by
    rw [grown_block r3 (box_lt h.box) h.wq]
    exact h.box
  have hgq : (Value.slice ua (words.length + m) uc).ownBlock ≠ some qb := fun e => by
    rcases r4 with r4 | r4
    · exact h.wq (by rw [← r4, e])
    · rw [r4] at e
      have := box_lt h.box
      have : W.heap.size = qb := by simpa using e
      omega
  have hold : ∀ y, y < W.heap.size → uv.ownBlock ≠ some y → (Value.slice ua (words.length + m) uc).ownBlock ≠ some y := fun y hy hne e => by
    rcases r4 with r4 | r4
    · exact hne (by rw [← r4, e])
    · rw [r4] at e
      have : W.heap.size = y := by simpa using e
      omega
  have hcu : ∀ y, cv.ownBlock = some y → uv.ownBlock ≠ some y := fun y hy e => h.cw y e hy
  refine ⟨ua, uc, w3, r1, hq3, ⟨hlow.setCell h.hq _, h.hq, ?_, ?_, hgq, ?_, h.cq, fun y hy e => ?_, fun t ht => ?_⟩⟩
  · rw [heap_set_same hq3]
    rfl
  · refine owns_far ?_ hgq
    have e : (words ++ List.replicate m 0).length = words.length + m := by simp
    rw [e, show intsV (words ++ List.replicate m 0) = intsV words ++ List.replicate m (.int .i64 0) by simp [intsV]]
    exact r2
  · exact owns_far (own_grown h.code r3 (fun y hy => hcu y hy)) h.cq
  · exact hold _ (h.code.lt y e).2 (hcu y e) hy
  · have h1 := h.thr t ht
    have hne : ∀ y, (tv.getD t nilV).ownBlock = some y → uv.ownBlock ≠ some y := fun y hy => owns_two h1.1 h.words (by decide) hy
    exact ⟨owns_far (own_grown h1.1 r3 (fun y hy => hne y hy)) (fun e2 => (h1.2 qb e2).1 rfl), h1.2⟩
/-- Another number of registers. -/
theorem RwI.regs (h : RwI S qb uv words lk rg b L k W cv tv) (rg' : Int) : RwI S qb uv words lk rg' b L k (W.setCell ⟨qb, 3, none⟩ (.int .i64 rg')) cv tv :=
  ⟨h.low.setCell h.hq _, h.hq, by rw [heap_set_same h.box]; rfl, owns_far h.words h.wq, h.wq, owns_far h.code h.cq, h.cq, h.cw, fun t ht => ⟨owns_far (h.thr t ht).1 (fun e => ((h.thr t ht).2 _ e).1 rfl), (h.thr t ht).2⟩⟩
end
/-- No program. -/
abbrev zeP : Value := .agg #[nilV, nilV, .int .i64 0, .int .i64 0]

set_option maxRecDepth 100000 in
set_option maxHeartbeats 3200000 in
theorem apply_no (w : World) (ca : Option Addr) (n cc : Nat) (wa : Option Addr) (m wc : Nat) (lk rg x y z : Int) (kv : Value) (hx : x ≠ 0) (HC : Hid (∀ W, Below w.heap.size w W → Calls Tryd.prog 41 #[prgV ca n cc wa m wc lk rg] W fun e w' => e = .returned (ints3 x y z) ∧ Below W.heap.size W w')) :
    Calls Tryd.prog 18 #[prgV ca n cc wa m wc lk rg, kv] w fun e w' => e = .returned (.tuple #[zeP, ints3 x y z]) ∧ Below w.heap.size w w' := by
  obtain ⟨W3, hW3, hz3, hat⟩ := box3 w (.cells #[.slice ca n cc, .slice wa m wc, .int .i64 lk, .int .i64 rg] 25) (.cells #[nilV, nilV, .int .i64 0, .int .i64 0] 25) (.cells #[.int .i64 0, .int .i64 0, .int .i64 0] 30)
  have HCK : Hid (∀ V, Below w.heap.size w V → Calls Tryd.prog 37 #[.agg #[.slice ca n cc, .slice wa m wc, .int .i64 lk, .int .i64 rg], kv] V fun e w' => e = .returned (.tuple #[.bool false, ints3 x y z]) ∧ Below V.heap.size V w') := fun V hV => acheck_no V ca n cc wa m wc lk rg x y z kv hx (fun U hU => HC.out U (hV.trans (hU.mono hV.size)))
  have hx' : (x != 0) = true := by simpa using hx
  have HAT := Hid.out (p := Hid _) hat
  have HW3 := Hid.out (p := Hid _) hW3
  clear HC hx hat hW3
  go_enter Tryd.func18, Tryd.ntmps18
  go_wp2_with fail
  rw [HW3.out]
  refine Calls.mono (HCK.out _ (HAT.out _ (Below.refl _ _)).1) ?_
  rintro e w1 ⟨rfl, hb1⟩
  obtain ⟨hw1, b0, b1, b2⟩ := HAT.out w1 hb1
  have t0 : ∀ o, (w1.alloc o).cell? ⟨w.heap.size + 1, 0, none⟩ = some nilV := fun o => box_cell (box_later b1 o) rfl
  have t1 : ∀ o, (w1.alloc o).cell? ⟨w.heap.size + 1, 1, none⟩ = some nilV := fun o => box_cell (box_later b1 o) rfl
  have t2 : ∀ o, (w1.alloc o).cell? ⟨w.heap.size + 1, 2, none⟩ = some (.int .i64 0) := fun o => box_cell (box_later b1 o) rfl
  have t3 : ∀ o, (w1.alloc o).cell? ⟨w.heap.size + 1, 3, none⟩ = some (.int .i64 0) := fun o => box_cell (box_later b1 o) rfl
  have u0 : ∀ o, (w1.alloc o).cell? ⟨w.heap.size + 1 + 1, 0, none⟩ = some (.int .i64 0) := fun o => box_cell (box_later b2 o) rfl
  have u1 : ∀ o, (w1.alloc o).cell? ⟨w.heap.size + 1 + 1, 1, none⟩ = some (.int .i64 0) := fun o => box_cell (box_later b2 o) rfl
  have u2 : ∀ o, (w1.alloc o).cell? ⟨w.heap.size + 1 + 1, 2, none⟩ = some (.int .i64 0) := fun o => box_cell (box_later b2 o) rfl
  have tf : ∀ o i, (w1.alloc o).frozen? ⟨w.heap.size + 1, i, none⟩ = false := fun o i => box_free (box_later b1 o)
  have uf : ∀ o i, (w1.alloc o).frozen? ⟨w.heap.size + 1 + 1, i, none⟩ = false := fun o i => box_free (box_later b2 o)
  have hl2 : w.heap.size + 1 + 1 < w1.heap.size := box_lt b2
  have n1 : w1.heap.size ≠ w.heap.size + 1 := by omega
  have n2 : w1.heap.size ≠ w.heap.size + 1 + 1 := by omega
  have n3 : w.heap.size + 1 ≠ w1.heap.size := by omega
  have n4 : w.heap.size + 1 + 1 ≠ w1.heap.size := by omega
  have HB1 := Hid.out (p := Hid _) hw1
  clear hw1 hb1 b0 b1 b2 HW3 HAT HCK
  go_wp2_with fail
  go_region
  all_goals go_wp2
  have hB : Below w.heap.size w (w1.alloc (.cells #[.int .i64 x, .int .i64 y, .int .i64 z] 30)) := HB1.out.alloc HB1.out.size _
  all_goals refine bodyPost_ret (v := .tuple #[zeP, ints3 x y z]) (by simp [results, Tryd.results18, go_sem, t0, t1, t2, t3, u0, u1, u2]) rfl ⟨rfl, ?_⟩
  all_goals exact below7 hB _ _ _ _ _ _ _
end

end Go.Proofs.YtocfocjnnjdcgaaDoor
