/-
  A program that is being made: more words behind its own, other numbers.
-/
import Derived.Test.YtefnmbnakphhfadNewC
namespace Go.Proofs.Ytefnmbnakphhfad
open Go.RowKit

section
variable {S W : World} {qb : Nat} {uv cv : Value} {words : List Int} {lk rg : Int} {b : Nat → Nat → List I4} {L : Nat → Nat} {k : Nat} {tv : List Value}
/-- One word more. -/
theorem RwI.word (h : RwI S qb uv words lk rg b L k W cv tv) (x : Int) (hk : words.length ≤ 1000) :
    ∃ g cap w3, (AppS #[23, 23] 23 #[uv, .slice (some ⟨W.heap.size, 0, none⟩) 1 1]).run Try.prog (W.alloc (.cells #[.int .i64 x] 3)) = .ok (.slice (some ⟨g, 0, none⟩) (words.length + 1) cap) w3 ∧ w3.heap[qb]? = some (.cells #[cv, uv, .int .i64 lk, .int .i64 rg] 25) ∧
      RwI S qb (.slice (some ⟨g, 0, none⟩) (words.length + 1) cap) (words ++ [x]) lk rg b L k (w3.setCell ⟨qb, 1, none⟩ (.slice (some ⟨g, 0, none⟩) (words.length + 1) cap)) cv tv := by
  have hl := h.low.size
  obtain ⟨g, cap, w3, r1, r2, r3, r4⟩ := app_row (T := 23) Try.underlying23 infoI rfl (by omega) h.words (Below.refl _ W) hl 1 #[.int .i64 x] rfl (by simp [Value.oneCell']) (by omega) (by omega) (by omega)
  have hbA : Below W.heap.size W (W.alloc (.cells #[.int .i64 x] 3)) := (Below.refl _ _).alloc (Nat.le_refl _) _
  have hlow : Below S.heap.size S w3 := (h.low.alloc hl _).grown r3 (by simp; omega) (fun q hq => (h.words.lt q hq).1)
  have hq3 : w3.heap[qb]? = some (.cells #[cv, uv, .int .i64 lk, .int .i64 rg] 25) := by
    rw [grown_block r3 (by simp; have := box_lt h.box; omega) h.wq]
    exact (hbA.block _ (box_lt h.box)).trans h.box
  have hgq : g ≠ qb := fun e => by
    rcases r4 with r4 | r4
    · exact h.wq (by rw [r4, e])
    · have := box_lt h.box
      omega
  have hold : ∀ y, y < W.heap.size → uv.ownBlock ≠ some y → y ≠ g := fun y hy hne e => by
    rcases r4 with r4 | r4
    · exact hne (by rw [r4, e])
    · omega
  have hcu : ∀ y, cv.ownBlock = some y → uv.ownBlock ≠ some y := fun y hy e => h.cw y e hy
  refine ⟨g, cap, w3, r1, hq3, ⟨hlow.setCell h.hq _, h.hq, ?_, ?_, ?_, ?_, h.cq, fun y hy e => ?_, fun t ht => ?_⟩⟩
  · rw [heap_set_same hq3]
    rfl
  · refine owns_far ?_ (by simp only [Value.ownBlock]; exact fun e => hgq (by simpa using e))
    have e : (words ++ [x]).length = words.length + 1 := by simp
    rw [e, show intsV (words ++ [x]) = intsV words ++ [.int .i64 x] by simp [intsV]]
    exact r2
  · simp only [Value.ownBlock]
    exact fun e => hgq (by simpa using e)
  · exact owns_far (own_grown (owns_below2 h.code hbA) r3 (fun y hy => hcu y hy)) h.cq
  · have : g = y := by simpa [Value.ownBlock] using hy
    subst this
    exact hold _ (h.code.lt g e).2 (hcu g e) rfl
  · have h1 := h.thr t ht
    have hne : ∀ y, (tv.getD t nilV).ownBlock = some y → uv.ownBlock ≠ some y := fun y hy => owns_two h1.1 h.words (by decide) hy
    exact ⟨owns_far (own_grown (owns_below2 h1.1 hbA) r3 (fun y hy => hne y hy)) (fun e2 => (h1.2 qb e2).1 rfl), h1.2⟩
/-- Other numbers of locks and registers. -/
theorem RwI.nums (h : RwI S qb uv words lk rg b L k W cv tv) (lk' rg' : Int) : RwI S qb uv words lk' rg' b L k ((W.setCell ⟨qb, 2, none⟩ (.int .i64 lk')).setCell ⟨qb, 3, none⟩ (.int .i64 rg')) cv tv :=
  ⟨(h.low.setCell h.hq _).setCell h.hq _, h.hq, by rw [heap_set_same (heap_set_same h.box)]; rfl, owns_far (owns_far h.words h.wq) h.wq, h.wq, owns_far (owns_far h.code h.cq) h.cq, h.cq, h.cw, fun t ht => ⟨owns_far (owns_far (h.thr t ht).1 (fun e => ((h.thr t ht).2 _ e).1 rfl)) (fun e => ((h.thr t ht).2 _ e).1 rfl), (h.thr t ht).2⟩⟩
end
/-- A new program, laid into a box. -/
theorem new_box {w V : World} {n : Nat} {va : Option Addr} {vc : Nat} {ua : Option Addr} {un uc : Nat} {words : List Int} {lk rg : Int} {b : Nat → Nat → List I4} {L : Nat → Nat} {tv : List Value} (h1 : V.ownsRow w.heap.size 48 1 (.slice va n vc) n tv) (h2 : ∀ t, t < n → OwnC V w.heap.size (tv.getD t nilV) (codeR (b t) (L t))) (h3 : V.ownsRow w.heap.size 3 1 (.slice ua un uc) words.length (intsV words)) (h4 : Below w.heap.size w V) :
    RwI w V.heap.size (.slice ua un uc) words lk rg b L n (V.alloc (.cells #[.slice va n vc, .slice ua un uc, .int .i64 lk, .int .i64 rg] 25)) (.slice va n vc) tv := by
  have hb : Below V.heap.size V (V.alloc (.cells #[.slice va n vc, .slice ua un uc, .int .i64 lk, .int .i64 rg] 25)) := (Below.refl _ _).alloc (Nat.le_refl _) _
  exact ⟨h4.trans (hb.mono h4.size), h4.size, heap_alloc_new _ _, owns_below2 h3 hb, fun e => by have := (h3.lt _ e).2; omega, owns_below2 h1 hb, fun e => by have := (h1.lt _ e).2; omega, fun g hg => owns_two h3 h1 (by decide) hg, fun t ht => ⟨owns_below2 (h2 t ht) hb, fun g hg => ⟨by have := ((h2 t ht).lt g hg).2; omega, owns_two (h2 t ht) h1 (by decide) hg⟩⟩⟩

end Go.Proofs.Ytefnmbnakphhfad
