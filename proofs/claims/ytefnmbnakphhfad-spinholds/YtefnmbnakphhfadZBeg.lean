/-
  A program that is being made: more words behind its own, other numbers.
  A space that is being begun: its heads, one behind the other.
-/
import Derived.Test.YtefnmbnakphhfadNewC
import Derived.Test.YtefnmbnakphhfadZPutS
namespace Go.Proofs.Ytefnmbnakphhfad
section
open Go.RowKit

section
variable {S W : World} {qb : Nat} {uv cv : Value} {words : List Int} {lk rg : Int} {b : Nat → Nat → List I4} {L : Nat → Nat} {k : Nat} {tv : List Value}
/-- One word more. -/
theorem RwI.word (h : RwI S qb uv words lk rg b L k W cv tv) (x : Int) (hk : words.length ≤ 1000) :
    ∃ g cap w3, (AppS #[23, 23] 23 #[uv, .slice (some ⟨W.heap.size, 0, none⟩) 1 1]).run Try.prog (W.alloc (.cells #[.int .i64 x] 3)) = .ok (.slice (some ⟨g, 0, none⟩) (words.length + 1) cap) w3 ∧ w3.heap[qb]? = some (.cells #[cv, uv, .int .i64 lk, .int .i64 rg] 25) ∧
      RwI S qb (.slice (some ⟨g, 0, none⟩) (words.length + 1) cap) (words ++ [x]) lk rg b L k (w3.setCell ⟨qb, 1, none⟩ (.slice (some ⟨g, 0, none⟩) (words.length + 1) cap)) cv tv := by
  have hl := h.low.size
  obtain ⟨g, cap, w3, r1, r2, r3, r4⟩ := app_row (T := 23) Try.underlying23 infoI rfl (by omega) h.words (Below.refl _ W) hl 1 #[.int .i64 x] rfl (by simp [Value.oneCell']) (by omega) (by omega) (by omega)
  have hbA : Below W.heap.size W (W.alloc (.cells #[.int .i64 x] 3)) := (Below.refl _ _).alloc (Nat.le_refl _) _
  have hlow : Below S.heap.size S w3 := (h.low.alloc hl _).grown r3 (by simp; omega) (fun q hq => (h.words.lt q hq).1)
  have hq3 : w3.heap[qb]? = some (.cells #[cv, uv, .int .i64 lk, .int .i64 rg] 25) := by
    rw [grown_block r3 (by simp; have := box_lt h.box; omega) h.wq]
    exact (hbA.block _ (box_lt h.box)).trans h.box
  have hgq : g ≠ qb := fun e => by
    rcases r4 with r4 | r4
    · exact h.wq (by rw [r4, e])
    · have := box_lt h.box
      omega
  have hold : ∀ y, y < W.heap.size → uv.ownBlock ≠ some y → y ≠ g := fun y hy hne e => by
    rcases r4 with r4 | r4
    · exact hne (by rw [r4, e])
    · omega
  have hcu : ∀ y, cv.ownBlock = some y → uv.ownBlock ≠ some y := fun y hy e => h.cw y e hy
  refine ⟨g, cap, w3, r1, hq3, ⟨hlow.setCell h.hq _, h.hq, ?_, ?_, ?_, ?_, h.cq, fun y hy e => ?_, fun t ht => ?_⟩⟩
  · rw [heap_set_same hq3]
    rfl
  · refine owns_far ?_ (by simp only [Value.ownBlock]; exact fun e => hgq (by simpa using e))
    have e : (words ++ [x]).length = words.length + 1 := by simp
    rw [e, show intsV (words ++ [x]) = intsV words ++ [.int .i64 x] by simp [intsV]]
    exact r2
  · simp only [Value.ownBlock]
    exact fun e => hgq (by simpa using e)
  · exact owns_far (own_grown (owns_below2 h.code hbA) r3 (fun y hy => hcu y hy)) h.cq
  · have : g = y := by simpa [Value.ownBlock] using hy
    subst this
    exact hold _ (h.code.lt g e).2 (hcu g e) rfl
  · have h1 := h.thr t ht
    have hne : ∀ y, (tv.getD t nilV).ownBlock = some y → uv.ownBlock ≠ some y := fun y hy => owns_two h1.1 h.words (by decide) hy
    exact ⟨owns_far (own_grown (owns_below2 h1.1 hbA) r3 (fun y hy => hne y hy)) (fun e2 => (h1.2 qb e2).1 rfl), h1.2⟩
/-- Other numbers of locks and registers. -/
theorem RwI.nums (h : RwI S qb uv words lk rg b L k W cv tv) (lk' rg' : Int) : RwI S qb uv words lk' rg' b L k ((W.setCell ⟨qb, 2, none⟩ (.int .i64 lk')).setCell ⟨qb, 3, none⟩ (.int .i64 rg')) cv tv :=
  ⟨(h.low.setCell h.hq _).setCell h.hq _, h.hq, by rw [heap_set_same (heap_set_same h.box)]; rfl, owns_far (owns_far h.words h.wq) h.wq, h.wq, owns_far (owns_far h.code h.cq) h.cq, h.cq, h.cw, fun t ht => ⟨owns_far (owns_far (h.thr t ht).1 (fun e => ((h.thr t ht).2 _ e).1 rfl)) (fun e => ((h.thr t ht).2 _ e).1 rfl), (h.thr t ht).2⟩⟩
end
/-- A new program, laid into a box. -/
theorem new_box {w V : World} {n : Nat} {va : Option Addr} {vc : Nat} {ua : Option Addr} {un uc : Nat} {words : List Int} {lk rg : Int} {b : Nat → Nat → List I4} {L : Nat → Nat} {tv : List Value} (h1 : V.ownsRow w.heap.size 48 1 (.slice va n vc) n tv) (h2 : ∀ t, t < n → OwnC V w.heap.size (tv.getD t nilV) (codeR (b t) (L t))) (h3 : V.ownsRow w.heap.size 3 1 (.slice ua un uc) words.length (intsV words)) (h4 : Below w.heap.size w V) :
    RwI w V.heap.size (.slice ua un uc) words lk rg b L n (V.alloc (.cells #[.slice va n vc, .slice ua un uc, .int .i64 lk, .int .i64 rg] 25)) (.slice va n vc) tv := by
  have hb : Below V.heap.size V (V.alloc (.cells #[.slice va n vc, .slice ua un uc, .int .i64 lk, .int .i64 rg] 25)) := (Below.refl _ _).alloc (Nat.le_refl _) _
  exact ⟨h4.trans (hb.mono h4.size), h4.size, heap_alloc_new _ _, owns_below2 h3 hb, fun e => by have := (h3.lt _ e).2; omega, owns_below2 h1 hb, fun e => by have := (h1.lt _ e).2; omega, fun g hg => owns_two h3 h1 (by decide) hg, fun t ht => ⟨owns_below2 (h2 t ht) hb, fun g hg => ⟨by have := ((h2 t ht).lt g hg).2; omega, owns_two (h2 t ht) h1 (by decide) hg⟩⟩⟩
end

section
open Go.RowKit

/-- A space of nothing. -/
def d0 : Sd := ⟨[], [], [], nilV, false⟩
def bN (i : Nat) : Sr → Nat
  | .box => 1
  | .hd => i
  | _ => 0
def bX (v : Sr → Value) (i : Nat) : Sr → List Value
  | .box => [v .st, v .ks, v .hd, v .bf, nilV, .bool false]
  | .hd => intsV (List.replicate i (-1))
  | _ => []
/-- A space with i heads. -/
structure SpB (w W : World) (B pb i : Nat) : Prop where
  ex : ∃ v, Fam W B sTy sSz v (bN i) (bX v i) ∧ v .box = boxV pb
  below : Below B w W
theorem SpB.start (w : World) : SpB w (w.alloc (.cells #[nilV, nilV, nilV, nilV, nilV, .bool false] 42)) w.heap.size w.heap.size 0 := by
  refine ⟨⟨fun q => if q = .box then boxV w.heap.size else nilV, ⟨fun r => ?_, fun r q g hr hq => ?_⟩, rfl⟩, (Below.refl _ _).alloc (Nat.le_refl _) _⟩
  · cases r with
    | box => exact fam_box (xs := [nilV, nilV, nilV, nilV, nilV, .bool false]) (Nat.le_refl _) (heap_alloc_new _ _)
    | st => exact World.ownsRow_nil _ _ _ _
    | ks => exact World.ownsRow_nil _ _ _ _
    | hd => exact World.ownsRow_nil _ _ _ _
    | bf => exact World.ownsRow_nil _ _ _ _
  · have h1 : ∀ x : Sr, ((if x = .box then boxV w.heap.size else nilV : Value)).ownBlock = some g → x = .box := fun x hx => by
      by_cases e : x = .box
      · exact e
      · rw [if_neg e] at hx; simp [Value.ownBlock] at hx
    rw [h1 r hr, h1 q hq]
theorem SpB.push {w W : World} {B pb i : Nat} (h : SpB w W B pb i) (hi : i ≤ 5000) (hB : B ≤ W.heap.size) :
    ∃ a c g cap w3, W.cell? ⟨pb, 2, none⟩ = some (.slice a i c) ∧ (AppS #[23, 23] 23 #[.slice a i c, .slice (some ⟨W.heap.size, 0, none⟩) 1 1]).run Try.prog (W.alloc (.cells #[.int .i64 (-1)] 3)) = .ok (.slice (some ⟨g, 0, none⟩) (i + 1) cap) w3 ∧ w3.cell? ⟨pb, 2, none⟩ = some (.slice a i c) ∧ w3.frozen? ⟨pb, 2, none⟩ = false ∧
      Hid (SpB w (w3.setCell ⟨pb, 2, none⟩ (.slice (some ⟨g, 0, none⟩) (i + 1) cap)) B pb (i + 1)) := by
  obtain ⟨⟨v, hF, hbx⟩, hb⟩ := h
  have pbk : (v .box).ownBlock = some pb := by rw [hbx]; rfl
  obtain ⟨a, c, hv⟩ := fam_form (hF.own .hd)
  have hbn : bN i .hd = i := rfl
  rw [hbn] at hv
  obtain ⟨g, cap, w3, r1, o1, k1, a1⟩ := app_row (T := 23) Try.underlying23 infoI rfl (by omega) (hF.own .hd) (Below.refl _ W) hB 1 #[.int .i64 (-1)] rfl (by simp [Value.oneCell']) (by omega) (by rw [hbn]; omega) (by omega)
  rw [hbn] at r1 o1
  have hbd : Below W.heap.size W (W.alloc (.cells #[.int .i64 (-1)] 3)) := (Below.refl _ _).alloc (Nat.le_refl _) _
  obtain ⟨y, hy⟩ : ∃ y : Value, y = .slice (some ⟨g, 0, none⟩) (i + 1) cap := ⟨_, rfl⟩
  have G := (hF.below hbd).grew (r := .hd) o1 k1 a1 (by simp)
  rw [← hy] at G
  have pk : (upd v Sr.hd y .box).ownBlock = some pb := by rw [upd_ne _ _ (by decide)]; exact pbk
  have F := G.store (r := .box) (g := pb) pk 2 y
  have M := ((Moved.of_below hbd (v := v)).grow (r := .hd) (m := i + 1) (c := cap) k1 a1 (by simp)).put (r := .box) (g := pb) (by rw [upd_ne _ _ (by decide)]; exact pbk) 2 y
  rw [hv] at r1
  refine ⟨a, c, g, cap, w3, (hF.cell pbk rfl).trans (congrArg some hv), r1, (G.cell pk rfl).trans (congrArg some hv), G.frozen pk 2, ?_⟩
  rw [← hy]
  refine ⟨⟨upd v Sr.hd y, F.same (fun q => ?_) (fun q => ?_), by rw [upd_ne _ _ (by decide)]; exact hbx⟩, hb.trans (M.below hB (fun r g hg => hF.low r g hg))⟩
  · cases q <;> rfl
  · cases q with
    | box => rfl
    | hd =>
      show intsV (List.replicate (i + 1) (-1)) = intsV (List.replicate i (-1)) ++ [.int .i64 (-1)]
      rw [List.replicate_succ']
      simp [intsV]
    | st => rfl
    | ks => rfl
    | bf => rfl
theorem heads_none (f : Nat → Nat) (N : Nat) : (List.range N).map (fun h => lastS f h 0) = List.replicate N (-1) := by
  rw [List.eq_replicate_iff]
  refine ⟨by simp, fun x hx => ?_⟩
  obtain ⟨k, _, rfl⟩ := List.mem_map.mp hx
  rfl
theorem SpB.done {w W : World} {B pb : Nat} (h : SpB w W B pb 4096) (P : Pg) : ∃ v, SpIn W B P pb v d0 := by
  obtain ⟨⟨v, hF, hbx⟩, _⟩ := h
  refine ⟨v, hF.same (fun q => by cases q <;> rfl) (fun q => ?_), hbx, rfl, rfl, fun i hi => absurd hi (Nat.not_lt_zero _), fun i hi => absurd hi (Nat.not_lt_zero _)⟩
  cases q with
  | box => rfl
  | st => rfl
  | ks => rfl
  | bf => rfl
  | hd =>
    exact congrArg intsV (heads_none (sumsD d0) 4096)
end

end Go.Proofs.Ytefnmbnakphhfad
