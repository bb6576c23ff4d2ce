/-
  Blocks that lie there later; two boxes.
  Orders of one's own, to be put behind others.
  What the program tells of all threads: which registers are live.
  Fences that are put and taken away, by the document: what orders become, in memory.
  The document's Check as one contract.
-/
import Derived.Test.YtocfocjnnjdcgaaDoorLivC
import Derived.Test.YtocfocjnnjdcgaaDoorFApp
import Derived.Test.YtocfocjnnjdcgaaDoorPlain
import Derived.Test.YtocfocjnnjdcgaaDoorLivK
import Derived.Test.YtocfocjnnjdcgaaDoorLivF
import Derived.Test.YtocfocjnnjdcgaaDoorFRewI
import Derived.Test.YtocfocjnnjdcgaaDoorFRew
import Derived.Test.YtocfocjnnjdcgaaDoorCheckR2
namespace Go.Proofs.YtocfocjnnjdcgaaDoor
section
open Go.RowKit

theorem two_at (W : World) (O P : Obj) : Below W.heap.size W ((W.alloc O).alloc P) ∧ ((W.alloc O).alloc P).heap[W.heap.size]? = some O ∧ ((W.alloc O).alloc P).heap[W.heap.size + 1]? = some P := by
  refine ⟨below_two _ _ _, box_later (heap_alloc_new _ _) _, ?_⟩
  have := heap_alloc_new (W.alloc O) P
  rwa [World.size_alloc] at this
theorem blk {W V : World} {g : Nat} {o : Obj} (hb : Below W.heap.size W V) (h : W.heap[g]? = some o) : V.heap[g]? = some o := (hb.block _ (Array.getElem?_eq_some_iff.1 h).1).trans h
end

section
open Go.RowKit

theorem own_src {W : World} {B : Nat} {a : Option Addr} {c : Nat} {l : List I4} (h : OwnC W B (.slice a l.length c) l) : SrcL W a (cellsT l) := fun k u hu => by
  have hk : k < l.length * 4 := by
    rw [← cellsT_len]
    rcases Nat.lt_or_ge k (cellsT l).length with h1 | h1
    · exact h1
    · rw [List.getElem?_eq_none h1] at hu; cases hu
  obtain ⟨g, cap, e, hg, _⟩ := fam_block h (by omega)
  simp only [Value.slice.injEq] at e
  refine ⟨g, 0, e.1, ?_⟩
  rw [Nat.zero_add]
  exact fam_cell h hg hu
end

section
open Go.RowKit Go.Shelf

theorem O3.low {w : World} {B B' : Nat} {u : Value} {ysss : List (List (List Int))} (h : O3 w B u ysss) (hB : B' ≤ B) : O3 w B' u ysss := by
  obtain ⟨xs, h1, h2⟩ := h
  exact ⟨xs, own_low h1 hB, fun k hk => (h2 k hk).low hB⟩
end

section
open Go.RowKit

/-- What orders become so far. -/
structure BeI (S : World) (b : Nat → List I4) (j : Nat) (W : World) (bv : Value) (tv : List Value) : Prop where
  low : Below S.heap.size S W
  row : W.ownsRow S.heap.size 36 1 bv j tv
  thr : ∀ i, i < j → OwnC W S.heap.size (tv.getD i nilV) (b i) ∧ ∀ g, (tv.getD i nilV).ownBlock = some g → bv.ownBlock ≠ some g
section
variable {S W : World} {b : Nat → List I4} {j : Nat} {bv : Value} {tv : List Value}
theorem BeI.start (S : World) (b : Nat → List I4) : BeI S b 0 S nilV [] := ⟨Below.refl _ _, World.ownsRow_nil _ _ _ _, fun i h => absurd h (by omega)⟩
theorem BeI.below (h : BeI S b j W bv tv) {W' : World} (hb : Below W.heap.size W W') : BeI S b j W' bv tv := ⟨h.low.trans (hb.mono h.low.size), owns_below2 h.row hb, fun i hi => ⟨(h.thr i hi).1.below hb, (h.thr i hi).2⟩⟩
theorem BeI.push (h : BeI S b j W bv tv) {V : World} (hb : Below W.heap.size W V) {v : Value} (hv : OwnC V W.heap.size v (b j)) (hj : j ≤ 1000) :
    ∃ g cap w3, (AppS #[22, 22] 22 #[bv, .slice (some ⟨V.heap.size, 0, none⟩) 1 1]).run Tryd.prog (V.alloc (.cells #[v] 36)) = .ok (.slice (some ⟨g, 0, none⟩) (j + 1) cap) w3 ∧ BeI S b (j + 1) w3 (.slice (some ⟨g, 0, none⟩) (j + 1) cap) (tv ++ [v]) := by
  have h0 := h.below hb
  have hl := h0.low.size
  have hone : v.oneCell' = true := by
    rcases hv.2 with ⟨rfl, _⟩ | ⟨g, cap, cur, rfl, _⟩ <;> rfl
  obtain ⟨g, cap, w3, r1, r2, r3, r4⟩ := app_row (T := 22) Tryd.underlying22 infoOs rfl (by omega) h0.row (Below.refl _ V) hl 1 #[v] rfl (by simp [hone]) (by omega) (by omega) (by omega)
  have hbA : Below V.heap.size V (V.alloc (.cells #[v] 36)) := (Below.refl _ _).alloc (Nat.le_refl _) _
  have hlow : Below S.heap.size S w3 := (h0.low.alloc hl _).grown r3 (by simp; omega) (fun q hq => (h0.row.lt q hq).1)
  have hold : ∀ x, x < V.heap.size → bv.ownBlock ≠ some x → x ≠ g := fun x hx hne e => by
    rcases r4 with r4 | r4
    · exact hne (by rw [r4, e])
    · omega
  have htl : tv.length = j := by have := h.row.1; omega
  refine ⟨g, cap, w3, r1, ⟨hlow, r2, fun i hi => ?_⟩⟩
  by_cases e : i = j
  · subst e
    have e1 : (tv ++ [v]).getD i nilV = v := by simp [List.getD, ← htl]
    rw [e1]
    have hvq : ∀ x, v.ownBlock = some x → x < V.heap.size ∧ bv.ownBlock ≠ some x := fun x hx => by
      have h1 := hv.lt x hx
      refine ⟨h1.2, fun e2 => ?_⟩
      have := (h.row.lt x e2).2
      omega
    refine ⟨own_grown (owns_below2 (own_low hv (by have := h.low.size; omega)) hbA) r3 (fun x hx => (hvq x hx).2), fun x hx e2 => ?_⟩
    have : g = x := by simpa [Value.ownBlock] using e2
    exact hold x (hvq x hx).1 (hvq x hx).2 this.symm
  · have hi' : i < j := by omega
    have e1 : (tv ++ [v]).getD i nilV = tv.getD i nilV := by simp [List.getD, List.getElem?_append_left (show i < tv.length by omega)]
    rw [e1]
    have h1 := h0.thr i hi'
    refine ⟨own_grown (owns_below2 h1.1 hbA) r3 (fun x hx => h1.2 x hx), fun x hx e2 => ?_⟩
    have : g = x := by simpa [Value.ownBlock] using e2
    exact hold x (h1.1.lt x hx).2 (h1.2 x hx) this.symm
theorem BeI.be {a : Option Addr} {c : Nat} (h : BeI S b j W (.slice a j c) tv) : BeIn W a j b := fun i hi => by
  obtain ⟨g, cap, e, hg, _⟩ := fam_block h.row (by omega)
  simp only [Value.slice.injEq] at e
  have htl : tv.length = j := by have := h.row.1; omega
  obtain ⟨sa, sc, e2⟩ := fam_form (h.thr i hi).1
  refine ⟨g, 0, sa, sc, e.1, ?_, ?_⟩
  · rw [Nat.zero_add, ← e2]
    exact fam_cell h.row hg (by simp [List.getD, show i < tv.length by omega])
  · have := (h.thr i hi).1
    rw [e2] at this
    exact own_src this
end
/-- The document's program that is being made: ahead of the first thread. -/
theorem new_start (w : World) (PB RB : Obj) (wa : Option Addr) (words : List Int) (wc : Nat) (lk rg : Int) (hw : SIs w wa words) (hm : words.length ≤ 64) (b : Nat → Nat → List I4) (L : Nat → Nat) :
    ∃ g cap w3, (AppS #[23, 23] 23 #[.slice (some ⟨w.heap.size + 1 + 1 + 1, 0, none⟩) 0 0, .slice wa words.length wc]).run Tryd.prog ((((w.alloc PB).alloc RB).alloc (.cells #[nilV, nilV, .int .i64 lk, .int .i64 rg] 25)).alloc (.cells #[] 3)) = .ok (.slice (some ⟨g, 0, none⟩) words.length cap) w3 ∧ w3.heap[w.heap.size + 1 + 1]? = some (.cells #[nilV, nilV, .int .i64 lk, .int .i64 rg] 25) ∧
      RwI ((w.alloc PB).alloc RB) (w.heap.size + 1 + 1) (.slice (some ⟨g, 0, none⟩) words.length cap) words lk rg b L 0 (w3.setCell ⟨w.heap.size + 1 + 1, 1, none⟩ (.slice (some ⟨g, 0, none⟩) words.length cap)) nilV [] := by
  obtain ⟨S, hS⟩ : ∃ V, (w.alloc PB).alloc RB = V := ⟨_, rfl⟩
  have hSs : S.heap.size = w.heap.size + 1 + 1 := by rw [← hS]; simp
  rw [hS]
  have hwS : SIs (S.alloc (.cells #[nilV, nilV, .int .i64 lk, .int .i64 rg] 25)) wa words := by
    rw [← hS]
    exact hw.below ((((Below.refl _ _).alloc (Nat.le_refl _) _).alloc (by simp) _).alloc (by simp; omega) _)
  obtain ⟨g, cap, w3, r1, r2, r3, r4, r5⟩ := app_src (S.alloc (.cells #[nilV, nilV, .int .i64 lk, .int .i64 rg] 25)) (S.heap.size + 1) (by simp) wa words wc hwS (by omega)
  rw [World.size_alloc, hSs] at r1
  have hb3 : Below (S.heap.size + 1) (S.alloc (.cells #[nilV, nilV, .int .i64 lk, .int .i64 rg] 25)) w3 := ((Below.refl _ _).alloc (by simp) _).grown r3 (by simp) (fun k hk => by simp at hk; omega)
  have hq3 : w3.heap[w.heap.size + 1 + 1]? = some (.cells #[nilV, nilV, .int .i64 lk, .int .i64 rg] 25) := by
    rw [← hSs, hb3.block _ (by omega)]
    exact heap_alloc_new _ _
  have hlow : Below S.heap.size S w3 := ((Below.refl _ _).alloc (Nat.le_refl _) _).trans (hb3.mono (by omega))
  have hgq : g ≠ w.heap.size + 1 + 1 := by simp at r4; omega
  refine ⟨g, cap, w3, r1, hq3, ⟨hlow.setCell (by show S.heap.size ≤ w.heap.size + 1 + 1; omega) _, by omega, ?_, ?_, ?_, World.ownsRow_nil _ _ _ _, by simp [Value.ownBlock], fun x _ e => by simp [Value.ownBlock] at e, fun t ht => absurd ht (by omega)⟩⟩
  · rw [heap_set_same hq3]
    rfl
  · exact owns_far (own_low r2 (by omega)) (fun e => hgq (by simpa [Value.ownBlock] using e))
  · exact fun e => hgq (by simpa [Value.ownBlock] using e)
end

section
open Go.RowKit

/-- The document's Check, of every program that lies in memory. -/
theorem rcheck_any (ca : Option Addr) (n cc : Nat) (wa : Option Addr) (m wc : Nat) (lk rg : Int) (A : Nat → Option Addr) (L C : Nat → Nat) (X : Nat → Nat → Nat → Int) (x y z : Int) (HR : Hid (chk n L X m lk rg = (x, y, z))) (w : World) (hp : PIn w ca n A L C X) :
    Calls Tryd.prog 10 #[prgV ca n cc wa m wc lk rg] w fun e w' => e = .returned (ints3 x y z) ∧ Below w.heap.size w w' := by
  have h := HR.out
  unfold chk sizesE at h
  by_cases h1 : (n : Int) < 1 ∨ 4 < (n : Int) ∨ 64 < (m : Int)
  · simp only [h1, if_true] at h
    simp at h
    obtain ⟨rfl, rfl, rfl⟩ := h
    exact rcheck_size ca n cc wa m wc lk rg h1 w
  · by_cases h2 : lk < 0 ∨ 4 < lk ∨ rg < 1 ∨ 200 < rg
    · simp only [h1, h2, if_true, if_false] at h
      simp at h
      obtain ⟨rfl, rfl, rfl⟩ := h
      exact rcheck_range ca n cc wa m wc lk rg (by omega) (by omega) h2 w
    · simp only [h1, h2, if_false, ne_eq, not_true_eq_false] at h
      exact rcheck_go ca n cc wa m wc lk rg A L C X x y z (by omega) (by omega) (by omega) (by omega) h w hp
end

end Go.Proofs.YtocfocjnnjdcgaaDoor
