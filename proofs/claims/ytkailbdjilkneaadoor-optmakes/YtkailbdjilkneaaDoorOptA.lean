/-
  Values that are always the same, by the document: small functions.
  What is known of a thread, in the document's memory; what comes to an order that can follow.
-/
import Derived.Test.YtkailbdjilkneaaDoorOptW
import Derived.Test.YtkailbdjilkneaaDoorLivH
import Derived.BigRegion
import Derived.Test.YtkailbdjilkneaaDoorLivI
import Derived.Test.YtkailbdjilkneaaDoorBase
import Derived.StillTailTactics
namespace Go.Proofs.YtkailbdjilkneaaDoor
section
open Go.RowKit

def vlV (x : Vl) : Value := .agg #[.int .i64 (x.st : Int), .int .i64 x.nb]
theorem rbit_any (b : Bool) (w : World) : Calls Tryd.prog 73 #[.bool b] w fun e w' => e = .returned (.int .i64 (bitI b)) ∧ w' = w := by
  go_enter Tryd.func73, Tryd.ntmps73
  cases b <;> go_wp2 <;> go_ret <;> exact ⟨rfl, rfl⟩
theorem rreck_any (w : World) (op : Int) : Calls Tryd.prog 38 #[.int .i64 op] w fun e w' => e = .returned (.bool (decide (1 ≤ op) && decide (op ≤ 7))) ∧ w' = w := by
  by_cases h1 : 1 ≤ op
  · by_cases h7 : op ≤ 7
    · go_enter Tryd.func38, Tryd.ntmps38
      go_wp2
      go_ret
      simp [h1, h7]
    · go_enter Tryd.func38, Tryd.ntmps38
      go_wp2
      go_ret
      simp [h7]
  · go_enter Tryd.func38, Tryd.ntmps38
    go_wp2
    go_ret
    simp [show ¬ (1 ≤ op) by omega]
set_option maxHeartbeats 1600000 in
theorem rmeet_any (w : World) (a b : Vl) : Calls Tryd.prog 110 #[vlV a, vlV b] w fun e w' => e = .returned (vlV (a.meet b)) ∧ Below w.heap.size w w' := by
  have low3 : ∀ o1 o2 o3, Below w.heap.size w (((w.alloc o1).alloc o2).alloc o3) := fun o1 o2 o3 => (((Below.refl _ _).alloc (Nat.le_refl _) _).alloc (by simp) _).alloc (by simp; omega) _
  have num2 : ∀ m n : Int, m = n ∨ (m ≠ n ∧ (m == n) = false) := fun m n => by
    by_cases h : m = n
    · exact Or.inl h
    · exact Or.inr ⟨h, by simpa using h⟩
  cases a with
  | no =>
    cases b <;> unfold vlV Vl.meet Vl.st Vl.nb <;> go_enter Tryd.func110, Tryd.ntmps110 <;> go_wp2 <;> refine bodyPost_ret (by simp [results, Tryd.results110, go_sem] <;> rfl) rfl ⟨rfl, low3 _ _ _⟩
  | num m =>
    cases b with
    | no => unfold vlV Vl.meet Vl.st Vl.nb; go_enter Tryd.func110, Tryd.ntmps110; go_wp2; refine bodyPost_ret (by simp [results, Tryd.results110, go_sem] <;> rfl) rfl ⟨rfl, low3 _ _ _⟩
    | num n =>
      rcases num2 m n with rfl | ⟨h, h'⟩
      · unfold vlV Vl.meet Vl.st Vl.nb; go_enter Tryd.func110, Tryd.ntmps110; go_wp2; refine bodyPost_ret (by simp [results, Tryd.results110, go_sem] <;> rfl) rfl ⟨by first | rfl | simp, low3 _ _ _⟩
      · unfold vlV Vl.meet Vl.st Vl.nb; go_enter Tryd.func110, Tryd.ntmps110; go_wp2; refine bodyPost_ret (by simp [results, Tryd.results110, go_sem] <;> rfl) rfl ⟨rfl, low3 _ _ _⟩
    | any => unfold vlV Vl.meet Vl.st Vl.nb; go_enter Tryd.func110, Tryd.ntmps110; go_wp2; refine bodyPost_ret (by simp [results, Tryd.results110, go_sem] <;> rfl) rfl ⟨rfl, low3 _ _ _⟩
  | any =>
    cases b <;> unfold vlV Vl.meet Vl.st Vl.nb <;> go_enter Tryd.func110, Tryd.ntmps110 <;> go_wp2 <;> refine bodyPost_ret (by simp [results, Tryd.results110, go_sem] <;> rfl) rfl ⟨rfl, low3 _ _ _⟩

/-! A row of values in a block. -/
def vlsL (e : Nat → Vl) (n : Nat) : List Value := (List.range n).flatMap fun r => [.int .i64 ((e r).st : Int), .int .i64 (e r).nb]
theorem vlsL_len (e : Nat → Vl) : ∀ n, (vlsL e n).length = 2 * n
  | 0 => rfl
  | n + 1 => by
    have := vlsL_len e n
    unfold vlsL at this ⊢
    rw [List.range_succ, List.flatMap_append, List.length_append, this]
    simp
    omega
theorem vlsL_snoc (e : Nat → Vl) (n : Nat) : vlsL e (n + 1) = vlsL e n ++ [.int .i64 ((e n).st : Int), .int .i64 (e n).nb] := by
  unfold vlsL
  rw [List.range_succ, List.flatMap_append]
  simp
theorem vlsL_at {e : Nat → Vl} : ∀ {n r : Nat}, r < n → (vlsL e n)[r * 2]? = some (.int .i64 ((e r).st : Int)) ∧ (vlsL e n)[r * 2 + 1]? = some (.int .i64 (e r).nb)
  | 0, r, h => absurd h (Nat.not_lt_zero _)
  | n + 1, r, h => by
    rw [vlsL_snoc]
    by_cases hr : r = n
    · subst hr
      have h1 := vlsL_len e r
      rw [List.getElem?_append_right (by omega), List.getElem?_append_right (by omega), h1, show r * 2 - 2 * r = 0 by omega, show r * 2 + 1 - 2 * r = 1 by omega]
      exact ⟨rfl, rfl⟩
    · have h1 := vlsL_len e n
      rw [List.getElem?_append_left (by omega), List.getElem?_append_left (by omega)]
      exact vlsL_at (by omega)
/-- A row of n values in block g; there may be room behind it. -/
def VR (w : World) (g : Nat) (e : Nat → Vl) (n : Nat) : Prop := ∃ c, w.heap[g]? = some (.cells c 78) ∧ ∀ r, r < n → c[r * 2]? = some (.int .i64 ((e r).st : Int)) ∧ c[r * 2 + 1]? = some (.int .i64 (e r).nb)
section
variable {w w' : World} {g n r : Nat} {e f : Nat → Vl}
theorem VR.of (h : w.heap[g]? = some (.cells (vlsL e n).toArray 78)) : VR w g e n := ⟨_, h, fun r hr => by simpa using vlsL_at hr⟩
theorem VR.keep (h : VR w g e n) (hb : w'.heap[g]? = w.heap[g]?) : VR w' g e n := by
  obtain ⟨c, h1, h2⟩ := h
  exact ⟨c, hb.trans h1, h2⟩
theorem VR.obj (h : VR w g e n) : ∃ c, w.heap[g]? = some (.cells c 78) := by
  obtain ⟨c, h1, _⟩ := h
  exact ⟨c, h1⟩
theorem VR.lt (h : VR w g e n) : g < w.heap.size := by
  obtain ⟨c, h1, _⟩ := h
  exact (Array.getElem?_eq_some_iff.1 h1).1
theorem VR.below (h : VR w g e n) (hb : Below w.heap.size w w') : VR w' g e n := h.keep (hb.block g h.lt)
theorem VR.st (h : VR w g e n) (hr : r < n) : w.cell? ⟨g, r * 2, none⟩ = some (.int .i64 ((e r).st : Int)) := by
  obtain ⟨c, h1, h2⟩ := h
  exact box_cell h1 (h2 r hr).1
theorem VR.nb (h : VR w g e n) (hr : r < n) : w.cell? ⟨g, r * 2 + 1, none⟩ = some (.int .i64 (e r).nb) := by
  obtain ⟨c, h1, h2⟩ := h
  exact box_cell h1 (h2 r hr).2
theorem VR.free (h : VR w g e n) (i : Nat) : w.frozen? ⟨g, i, none⟩ = false := by
  obtain ⟨c, h1, h2⟩ := h
  exact box_free h1
theorem VR.congr (h : VR w g e n) (he : ∀ r, r < n → e r = f r) : VR w g f n := by
  obtain ⟨c, h1, h2⟩ := h
  exact ⟨c, h1, fun r hr => by rw [← he r hr]; exact h2 r hr⟩
theorem VR.far (h : VR w g e n) {b i : Nat} (hne : g ≠ b) (v : Value) : VR (w.setCell ⟨b, i, none⟩ v) g e n := h.keep (Below.heap_setCell _ _ _ _ (fun x => hne (by simpa using x)))
theorem VR.put (h : VR w g e n) (hr : r < n) (v : Vl) : VR ((w.setCell ⟨g, r * 2, none⟩ (.int .i64 (v.st : Int))).setCell ⟨g, r * 2 + 1, none⟩ (.int .i64 v.nb)) g (fun q => if q = r then v else e q) n := by
  obtain ⟨c, h1, h2⟩ := h
  refine ⟨_, heap_set_same (heap_set_same h1), fun q hq => ?_⟩
  obtain ⟨h3, h4⟩ := h2 q hq
  obtain ⟨h5, h6⟩ := h2 r hr
  have l1 := (Array.getElem?_eq_some_iff.1 h5).1
  have l2 := (Array.getElem?_eq_some_iff.1 h6).1
  by_cases e1 : q = r
  · subst e1
    simp only [↓reduceIte]
    constructor
    · rw [Array.getElem?_setIfInBounds, if_neg (by omega), Array.getElem?_setIfInBounds, if_pos rfl, if_pos (by omega)]
    · rw [Array.getElem?_setIfInBounds, if_pos rfl, if_pos (by rw [Array.size_setIfInBounds]; omega)]
  · simp only [if_neg e1]
    constructor
    · rw [Array.getElem?_setIfInBounds, if_neg (by omega), Array.getElem?_setIfInBounds, if_neg (by omega)]
      exact h3
    · rw [Array.getElem?_setIfInBounds, if_neg (by omega), Array.getElem?_setIfInBounds, if_neg (by omega)]
      exact h4
end
end

section
open Go.RowKit

/-- What is known, as it lies there: lb: the Look's box. -/
structure LkV (w W : World) (lb gg ga ac l rg : Nat) (GA : Nat → Nat) (G : Nat → Bool) (E : Nat → Nat → Vl) (ag : Bool) : Prop where
  low : Below w.heap.size w W
  lo : w.heap.size ≤ lb ∧ w.heap.size ≤ gg ∧ ∀ i, i ≤ l → w.heap.size ≤ GA i
  box : W.heap[lb]? = some (.cells #[.slice (some ⟨gg, 0, none⟩) (l + 1) (l + 1), .slice (some ⟨ga, 0, none⟩) (l + 1) ac, .bool ag] 76)
  goes : ∃ R : List Bool, BR W gg R ∧ R.length = l + 1 ∧ ∀ i, i ≤ l → R.getD i false = G i
  out : ∃ c, W.heap[ga]? = some (.cells c 80) ∧ ∀ i, i ≤ l → c[i]? = some (.slice (some ⟨GA i, 0, none⟩) rg rg)
  row : ∀ i, i ≤ l → VR W (GA i) (E i) rg
  inj : ∀ i j, i ≤ l → j ≤ l → GA i = GA j → i = j
section
variable {w W W' : World} {lb gg ga ac l rg : Nat} {GA : Nat → Nat} {G : Nat → Bool} {E : Nat → Nat → Vl} {ag : Bool}
theorem obj_ne {a b : Nat} {c d : Array Value} {s t : TypeId} (h : W.heap[a]? = some (.cells c s)) (h' : W.heap[b]? = some (.cells d t)) (hne : s ≠ t) : a ≠ b := fun e => by
  subst e
  rw [h] at h'
  simp only [Option.some.injEq, Obj.cells.injEq] at h'
  exact hne h'.2.1
theorem LkV.below (h : LkV w W lb gg ga ac l rg GA G E ag) (hb : Below W.heap.size W W') : LkV w W' lb gg ga ac l rg GA G E ag := by
  obtain ⟨R, h1, h2, h3⟩ := h.goes
  obtain ⟨c, h4, h5⟩ := h.out
  exact ⟨h.low.trans (hb.mono h.low.size), h.lo, (hb.block _ (box_lt h.box)).trans h.box, ⟨R, h1.below hb, h2, h3⟩, ⟨c, (hb.block _ (box_lt h4)).trans h4, h5⟩, fun i hi => (h.row i hi).below hb, h.inj⟩
theorem LkV.nes (h : LkV w W lb gg ga ac l rg GA G E ag) : lb ≠ gg ∧ lb ≠ ga ∧ gg ≠ ga ∧ (∀ i, i ≤ l → GA i ≠ lb ∧ GA i ≠ gg ∧ GA i ≠ ga) := by
  obtain ⟨R, h1, _, _⟩ := h.goes
  obtain ⟨c, h4, _⟩ := h.out
  exact ⟨obj_ne h.box h1 (by decide), obj_ne h.box h4 (by decide), obj_ne h1 h4 (by decide), fun i hi => by
    obtain ⟨d, h6⟩ := (h.row i hi).obj
    exact ⟨obj_ne h6 h.box (by decide), obj_ne h6 h1 (by decide), obj_ne h6 h4 (by decide)⟩⟩
theorem LkV.at (h : LkV w W lb gg ga ac l rg GA G E ag) {i : Nat} (hi : i ≤ l) : W.cell? ⟨ga, i, none⟩ = some (.slice (some ⟨GA i, 0, none⟩) rg rg) := by
  obtain ⟨c, h4, h5⟩ := h.out
  exact box_cell h4 (h5 i hi)
theorem LkV.go (h : LkV w W lb gg ga ac l rg GA G E ag) {i : Nat} (hi : i ≤ l) : W.cell? ⟨gg, i, none⟩ = some (.bool (G i)) ∧ ∀ q, W.frozen? ⟨gg, q, none⟩ = false := by
  obtain ⟨R, h1, h2, h3⟩ := h.goes
  have := h1.cell (i := i) (by omega)
  rw [h3 i hi] at this
  exact ⟨this, fun q => h1.free q⟩
/-- An order goes. -/
theorem LkV.setG (h : LkV w W lb gg ga ac l rg GA G E ag) {j : Nat} (hj : j ≤ l) : LkV w (W.setCell ⟨gg, j, none⟩ (.bool true)) lb gg ga ac l rg GA (ledG G j) E ag := by
  have hn := h.nes
  obtain ⟨R, h1, h2, h3⟩ := h.goes
  obtain ⟨c, h4, h5⟩ := h.out
  have far : ∀ b, b ≠ gg → (W.setCell ⟨gg, j, none⟩ (.bool true)).heap[b]? = W.heap[b]? := fun b hb => Below.heap_setCell _ _ _ _ (fun x => hb (by simpa using x))
  refine ⟨h.low.setCell h.lo.2.1 _, h.lo, (far _ hn.1).trans h.box, ⟨R.set j true, h1.put j true, by simpa using h2, fun i hi => ?_⟩, ⟨c, (far _ (fun e => hn.2.2.1 e.symm)).trans h4, h5⟩, fun i hi => (h.row i hi).keep (far _ (hn.2.2.2 i hi).2.1), h.inj⟩
  rw [getD_setB (by omega)]
  unfold ledG
  split
  · rfl
  · exact h3 i hi
theorem LkV.setA (h : LkV w W lb gg ga ac l rg GA G E ag) (b : Bool) : LkV w (W.setCell ⟨lb, 2, none⟩ (.bool b)) lb gg ga ac l rg GA G E b := by
  have hn := h.nes
  obtain ⟨R, h1, h2, h3⟩ := h.goes
  obtain ⟨c, h4, h5⟩ := h.out
  have far : ∀ x, x ≠ lb → (W.setCell ⟨lb, 2, none⟩ (.bool b)).heap[x]? = W.heap[x]? := fun x hb => Below.heap_setCell _ _ _ _ (fun x => hb (by simpa using x))
  refine ⟨h.low.setCell h.lo.1 _, h.lo, heap_set_same h.box, ⟨R, (far _ (fun e => hn.1 e.symm)).trans h1, h2, h3⟩, ⟨c, (far _ (fun e => hn.2.1 e.symm)).trans h4, h5⟩, fun i hi => (h.row i hi).keep (far _ (hn.2.2.2 i hi).1), h.inj⟩
/-- A value is set. -/
theorem LkV.setV (h : LkV w W lb gg ga ac l rg GA G E ag) {j r : Nat} (hj : j ≤ l) (hr : r < rg) (v : Vl) : LkV w ((W.setCell ⟨GA j, r * 2, none⟩ (.int .i64 (v.st : Int))).setCell ⟨GA j, r * 2 + 1, none⟩ (.int .i64 v.nb)) lb gg ga ac l rg GA G (updE E j r v) ag := by
  have hn := h.nes
  obtain ⟨R, h1, h2, h3⟩ := h.goes
  obtain ⟨c, h4, h5⟩ := h.out
  have far : ∀ b, b ≠ GA j → ((W.setCell ⟨GA j, r * 2, none⟩ (.int .i64 (v.st : Int))).setCell ⟨GA j, r * 2 + 1, none⟩ (.int .i64 v.nb)).heap[b]? = W.heap[b]? := fun b hb => (Below.heap_setCell _ _ _ _ (fun x => hb (by simpa using x))).trans (Below.heap_setCell _ _ _ _ (fun x => hb (by simpa using x)))
  have hj' := hn.2.2.2 j hj
  refine ⟨(h.low.setCell (h.lo.2.2 j hj) _).setCell (h.lo.2.2 j hj) _, h.lo, (far _ (fun e => hj'.1 e.symm)).trans h.box, ⟨R, (far _ (fun e => hj'.2.1 e.symm)).trans h1, h2, h3⟩, ⟨c, (far _ (fun e => hj'.2.2 e.symm)).trans h4, h5⟩, fun i hi => ?_, h.inj⟩
  by_cases e : i = j
  · subst e
    exact ((h.row i hi).put hr v).congr fun q _ => by
      unfold updE
      by_cases hq : q = r
      · rw [if_pos hq, if_pos ⟨rfl, hq⟩]
      · rw [if_neg hq, if_neg (fun e => hq e.2)]
  · rw [updE_row e]
    exact (h.row i hi).keep (far _ (fun x => e (h.inj i j hi hj x)))
end

/-- All but three blocks stands as it did. -/
structure KpV (W W' : World) (x y z : Nat) : Prop where
  size : W.heap.size ≤ W'.heap.size
  block : ∀ b, b < W.heap.size → b ≠ x → b ≠ y → b ≠ z → W'.heap[b]? = W.heap[b]?
theorem KpV.refl (W : World) (x y z : Nat) : KpV W W x y z := ⟨Nat.le_refl _, fun _ _ _ _ _ => rfl⟩
theorem KpV.below {W V V' : World} {x y z : Nat} (h : KpV W V x y z) (hb : Below V.heap.size V V') : KpV W V' x y z :=
  ⟨Nat.le_trans h.size hb.size, fun b h1 h2 h3 h4 => (hb.block b (Nat.lt_of_lt_of_le h1 h.size)).trans (h.block b h1 h2 h3 h4)⟩
theorem KpV.put {W V : World} {x y z q i : Nat} (h : KpV W V x y z) (hq : q = x ∨ q = y ∨ q = z) (u : Value) : KpV W (V.setCell ⟨q, i, none⟩ u) x y z :=
  ⟨by have e : (V.setCell ⟨q, i, none⟩ u).heap.size = V.heap.size := by simp [World.setCell]
      rw [e]; exact h.size, fun b h1 h2 h3 h4 => (Below.heap_setCell _ _ _ _ (fun e => by
    have e2 : b = q := by simpa using e
    rcases hq with rfl | rfl | rfl
    · exact h2 e2
    · exact h3 e2
    · exact h4 e2)).trans (h.block b h1 h2 h3 h4)⟩
end

end Go.Proofs.YtkailbdjilkneaaDoor
