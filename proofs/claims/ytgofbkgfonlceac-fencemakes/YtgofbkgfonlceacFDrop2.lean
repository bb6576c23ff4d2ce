/-
  Fences that do nothing are taken away, by the program: of each thread where something may wait.
-/
import Derived.Test.YtgofbkgfonlceacFDrop
namespace Go.Proofs.Ytgofbkgfonlceac
open Go.RowKit

theorem infoBs : (Try.prog.info? 55).map (fun i => (i.zero, i.size, i.bytes)) = some (some nilV, 1, 24) := by kernel_rfl
/-- What is known while the threads are looked at: k of them. -/
structure DwI (S : World) (vb : Nat) (L : Nat → Nat) (X : Nat → Nat → Nat → Int) (k : Nat) (W : World) (wv : Value) (tv : List Value) : Prop where
  low : Below S.heap.size S W
  hv : S.heap.size ≤ vb
  box : W.heap[vb]? = some (.cells #[wv] 35)
  row : W.ownsRow S.heap.size 55 1 wv k tv
  wq : wv.ownBlock ≠ some vb
  thr : ∀ t, t < k → ∃ g K, tv.getD t nilV = .slice (some ⟨g, 0, none⟩) (L t) (L t) ∧ W.ownsRow S.heap.size 4 1 (.slice (some ⟨g, 0, none⟩) (L t) (L t)) (L t) (boolsV (wsL (L t) K)) ∧ (∀ i, i < L t → ((i, true) ∈ K ↔ Way (L t) (X t) i true)) ∧ g ≠ vb ∧ wv.ownBlock ≠ some g
section
variable {S W : World} {vb : Nat} {L : Nat → Nat} {X : Nat → Nat → Nat → Int} {k : Nat} {wv : Value} {tv : List Value}
theorem DwI.below (h : DwI S vb L X k W wv tv) {W' : World} (hb : Below W.heap.size W W') : DwI S vb L X k W' wv tv :=
  ⟨h.low.trans (hb.mono h.low.size), h.hv, (hb.block _ (box_lt h.box)).trans h.box, owns_below2 h.row hb, h.wq, fun t ht => by
    obtain ⟨g, K, h1, h2, h3⟩ := h.thr t ht
    exact ⟨g, K, h1, owns_below2 h2 hb, h3⟩⟩
theorem DwI.push (h : DwI S vb L X k W wv tv) {V : World} (hb : Below W.heap.size W V) {g0 : Nat} {K0 : List Sp} (hr : V.ownsRow W.heap.size 4 1 (.slice (some ⟨g0, 0, none⟩) (L k) (L k)) (L k) (boolsV (wsL (L k) K0))) (hK : ∀ i, i < L k → ((i, true) ∈ K0 ↔ Way (L k) (X k) i true)) (hk : k ≤ 1000) :
    ∃ g cap w3, (AppS #[35, 35] 35 #[wv, .slice (some ⟨V.heap.size, 0, none⟩) 1 1]).run Try.prog (V.alloc (.cells #[.slice (some ⟨g0, 0, none⟩) (L k) (L k)] 55)) = .ok (.slice (some ⟨g, 0, none⟩) (k + 1) cap) w3 ∧ w3.heap[vb]? = some (.cells #[wv] 35) ∧
      DwI S vb L X (k + 1) (w3.setCell ⟨vb, 0, none⟩ (.slice (some ⟨g, 0, none⟩) (k + 1) cap)) (.slice (some ⟨g, 0, none⟩) (k + 1) cap) (tv ++ [.slice (some ⟨g0, 0, none⟩) (L k) (L k)]) := by
  have h0 := h.below hb
  have hl := h0.low.size
  have hvw : vb < W.heap.size := box_lt h.box
  obtain ⟨g, cap, w3, r1, r2, r3, r4⟩ := app_row (T := 35) Try.underlying35 infoBs rfl (by omega) h0.row (Below.refl _ V) hl 1 #[.slice (some ⟨g0, 0, none⟩) (L k) (L k)] rfl (by simp [Value.oneCell']) (by omega) (by omega) (by omega)
  have hbA : Below V.heap.size V (V.alloc (.cells #[.slice (some ⟨g0, 0, none⟩) (L k) (L k)] 55)) := (Below.refl _ _).alloc (Nat.le_refl _) _
  have hlow : Below S.heap.size S w3 := (h0.low.alloc hl _).grown r3 (by simp; omega) (fun q hq => (h0.row.lt q hq).1)
  have hv3 : w3.heap[vb]? = some (.cells #[wv] 35) := by
    rw [grown_block r3 (by simp; have := box_lt h0.box; omega) h0.wq]
    exact (hbA.block _ (box_lt h0.box)).trans h0.box
  have hgv : g ≠ vb := fun e => by
    rcases r4 with r4 | r4
    · exact h0.wq (by rw [r4, e])
    · have := box_lt h0.box
      omega
  have hold : ∀ x, x < V.heap.size → wv.ownBlock ≠ some x → x ≠ g := fun x hx hne e => by
    rcases r4 with r4 | r4
    · exact hne (by rw [r4, e])
    · omega
  have htl : tv.length = k := by have := h.row.1; omega
  have hlt0 := hr.lt g0 rfl
  refine ⟨g, cap, w3, r1, hv3, ⟨hlow.setCell h.hv _, h.hv, ?_, ?_, ?_, fun t ht => ?_⟩⟩
  · rw [heap_set_same hv3]
    rfl
  · refine owns_far r2 ?_
    simp only [Value.ownBlock]
    exact fun e => hgv (by simpa using e)
  · simp only [Value.ownBlock]
    exact fun e => hgv (by simpa using e)
  · by_cases e : t = k
    · subst e
      have e1 : (tv ++ [Value.slice (some ⟨g0, 0, none⟩) (L t) (L t)]).getD t nilV = .slice (some ⟨g0, 0, none⟩) (L t) (L t) := by simp [List.getD, ← htl]
      have hwn : wv.ownBlock ≠ some g0 := fun e2 => by have := (h.row.lt g0 e2).2; omega
      refine ⟨g0, K0, e1, owns_far (own_grown (owns_below2 (own_low hr (by have := h.low.size; omega)) hbA) r3 (fun x hx => ?_)) (fun e2 => ?_), hK, by omega, fun e2 => ?_⟩
      · have : g0 = x := by simpa [Value.ownBlock] using hx
        rw [← this]; exact hwn
      · have : g0 = vb := by simpa [Value.ownBlock] using e2
        omega
      · have : g = g0 := by simpa [Value.ownBlock] using e2
        exact hold g0 hlt0.2 hwn this.symm
    · have ht' : t < k := by omega
      have e1 : (tv ++ [Value.slice (some ⟨g0, 0, none⟩) (L k) (L k)]).getD t nilV = tv.getD t nilV := by simp [List.getD, List.getElem?_append_left (show t < tv.length by omega)]
      obtain ⟨g1, K1, h1, h2, h3, h4, h5⟩ := h0.thr t ht'
      refine ⟨g1, K1, by rw [e1]; exact h1, owns_far (own_grown (owns_below2 h2 hbA) r3 (fun x hx => ?_)) (fun e2 => ?_), h3, h4, fun e2 => ?_⟩
      · have : g1 = x := by simpa [Value.ownBlock] using hx
        rw [← this]; exact h5
      · have : g1 = vb := by simpa [Value.ownBlock] using e2
        exact h4 this
      · have : g = g1 := by simpa [Value.ownBlock] using e2
        exact hold g1 (h2.lt g1 rfl).2 h5 this.symm
/-- Behind the last thread. -/
theorem DwI.done {n : Nat} (h : DwI S vb L X n W wv tv) : ∃ B : Nat → Nat → Bool, WsIn W wv n L B ∧ ∀ t i, t < n → i < L t → (B t i = true ↔ Way (L t) (X t) i true) := by
  have hK : ∀ t, ∃ K : List Sp, t < n → ∃ g, tv.getD t nilV = .slice (some ⟨g, 0, none⟩) (L t) (L t) ∧ W.ownsRow S.heap.size 4 1 (.slice (some ⟨g, 0, none⟩) (L t) (L t)) (L t) (boolsV (wsL (L t) K)) ∧ (∀ i, i < L t → ((i, true) ∈ K ↔ Way (L t) (X t) i true)) := fun t => by
    by_cases ht : t < n
    · obtain ⟨g, K, h1, h2, h3, _⟩ := h.thr t ht
      exact ⟨K, fun _ => ⟨g, h1, h2, h3⟩⟩
    · exact ⟨[], fun h' => absurd h' ht⟩
  refine ⟨fun t i => decide ((i, true) ∈ (hK t).choose), fun t ht => ?_, fun t i ht hi => ?_⟩
  · obtain ⟨g1, h1, h2, h3⟩ := (hK t).choose_spec ht
    obtain ⟨g, cap, e, hg, _⟩ := fam_block h.row (by omega)
    have htl : tv.length = n := by have := h.row.1; omega
    refine ⟨g, cap, g1, L t, e, fam_cell h.row hg ?_, fun i hi => fam_cell h2 rfl (boolsV_at (ws_at hi))⟩
    rw [← h1]
    simp [List.getD, show t < tv.length by omega]
  · obtain ⟨g1, h1, h2, h3⟩ := (hK t).choose_spec ht
    rw [decide_eq_true_eq]
    exact h3 i hi
end

end Go.Proofs.Ytgofbkgfonlceac
