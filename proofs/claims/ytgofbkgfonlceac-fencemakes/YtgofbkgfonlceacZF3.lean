/-
  Where something may wait, by the document: plain functions; where a thread can go on.
-/
import Derived.Test.YtgofbkgfonlceacZF1
namespace Go.Proofs.Ytgofbkgfonlceac
open Go.RowKit

set_option maxRecDepth 100000 in
set_option maxHeartbeats 1600000 in
/-- Where a thread can go on. -/
theorem rnexts_any (w : World) (ca : Option Addr) (l cc : Nat) (X : Nat → Nat → Int) (i : Nat) (hi : i < l) (hl : l ≤ 400) (hord : ∃ b o, ca = some ⟨b, o, none⟩ ∧ w.cell? ⟨b, o + i * 4, none⟩ = some (.int .i64 (X i 0)) ∧ w.cell? ⟨b, o + i * 4 + 1, none⟩ = some (.int .i64 (X i 1)) ∧ w.cell? ⟨b, o + i * 4 + 2, none⟩ = some (.int .i64 (X i 2)) ∧ w.cell? ⟨b, o + i * 4 + 3, none⟩ = some (.int .i64 (X i 3))) (h14 : X i 0 = 14 → 0 ≤ X i 1) (h15 : X i 0 = 15 → 0 ≤ X i 2) :
    Calls Try.prog 43 #[.slice ca l cc, .int .i64 i] w fun e w' => ∃ g cap, e = .returned (.slice (some ⟨g, 0, none⟩) (nextO (X i 0) (X i 1) (X i 2) i).length cap) ∧ SIs w' (some ⟨g, 0, none⟩) ((nextO (X i 0) (X i 1) (X i 2) i).map fun (j : Nat) => (j : Int)) ∧ Below w.heap.size w w' ∧ w.heap.size ≤ g := by
  obtain ⟨cb, co, rfl, c0, c1, c2, c3⟩ := hord
  have hs : ∀ (V : World) (l : List Int) g, V.heap[g]? = some (.cells (intsV l).toArray 3) → SIs V (some ⟨g, 0, none⟩) l := fun V l g h k hk => by
    refine ⟨g, 0, rfl, box_cell h ?_⟩
    rw [Nat.zero_add]
    simpa using intsV_at hk
  have HS := Hid.out (p := Hid _) hs
  have HB : Hid (∀ o o', Below w.heap.size w ((w.alloc o).alloc o')) := fun o o' => ((Below.refl _ _).alloc (Nat.le_refl _) _).alloc (by simp) _
  obtain ⟨op, h0⟩ : ∃ x, X i 0 = x := ⟨_, rfl⟩
  obtain ⟨a, h1⟩ : ∃ x, X i 1 = x := ⟨_, rfl⟩
  obtain ⟨b, h2⟩ : ∃ x, X i 2 = x := ⟨_, rfl⟩
  obtain ⟨c, h3⟩ : ∃ x, X i 3 = x := ⟨_, rfl⟩
  rw [h0] at c0 h14 h15; rw [h1] at c1 h14; rw [h2] at c2 h15; rw [h3] at c3
  rw [h0, h1, h2]
  have u0 := cell_up c0
  have u1 := cell_up c1
  have u2 := cell_up c2
  have u3 := cell_up c3
  unfold nextO
  clear hs h0 h1 h2 h3
  by_cases e14 : op = 14
  · subst e14
    rw [if_pos rfl]
    obtain ⟨q, rfl⟩ : ∃ q : Nat, a = q := ⟨a.toNat, by have := h14 rfl; omega⟩
    rw [Int.toNat_natCast]
    clear h14 h15
    go_enter Try.func43, Try.ntmps43
    go_wp2
    go_ret
    refine ⟨_, _, rfl, ?_, HB.out _ _, ?_⟩
    · have := heap_alloc_new (w.alloc (.cells #[.int .i64 14, .int .i64 q, .int .i64 b, .int .i64 c] 52)) (.cells #[.int .i64 q] 3)
      exact HS.out _ [(q : Int)] _ (by simpa [intsV] using this)
    · simp
  · have e14' : (op == 14) = false := by simpa using e14
    rw [if_neg e14]
    by_cases e15 : op = 15
    · subst e15
      rw [if_pos rfl]
      obtain ⟨q, rfl⟩ : ∃ q : Nat, b = q := ⟨b.toNat, by have := h15 rfl; omega⟩
      rw [Int.toNat_natCast]
      clear h14 h15
      go_enter Try.func43, Try.ntmps43
      go_wp2
      go_ret
      refine ⟨_, _, rfl, ?_, HB.out _ _, ?_⟩
      · have := heap_alloc_new (w.alloc (.cells #[.int .i64 15, .int .i64 a, .int .i64 q, .int .i64 c] 52)) (.cells #[.int .i64 ((i : Int) + 1), .int .i64 q] 3)
        exact HS.out _ [((i + 1 : Nat) : Int), (q : Int)] _ (by simpa [intsV] using this)
      · simp
    · have e15' : (op == 15) = false := by simpa using e15
      rw [if_neg e15]
      clear h14 h15
      go_enter Try.func43, Try.ntmps43
      go_wp2
      go_ret
      refine ⟨_, _, rfl, ?_, HB.out _ _, ?_⟩
      · have := heap_alloc_new (w.alloc (.cells #[.int .i64 op, .int .i64 a, .int .i64 b, .int .i64 c] 52)) (.cells #[.int .i64 ((i : Int) + 1)] 3)
        exact HS.out _ [((i + 1 : Nat) : Int)] _ (by simpa [intsV] using this)
      · simp

/-! Truths that grow. -/
def cntF (R : List Bool) : Nat := (R.filter fun b => !b).length
theorem cnt_set : ∀ {R : List Bool} {j : Nat}, R.getD j true = false → cntF (R.set j true) < cntF R
  | [], j, h => by simp at h
  | b :: R, 0, h => by
    have : b = false := h
    subst this
    simp [cntF]
  | b :: R, j + 1, h => by
    have := cnt_set (R := R) (j := j) (by simpa using h)
    cases b
    · simpa [cntF] using this
    · simpa [cntF] using this
/-- A pass through the orders: R as it began, Q as it is; G: from which orders truths are handed on. ag: has one been turned? -/
structure PasP (l : Nat) (nx : Nat → List Nat) (S : Nat → Prop) (G : List Bool → Nat → Bool) (R Q : List Bool) (i k : Nat) (ag : Bool) : Prop where
  len : Q.length = l + 1
  sound : ∀ j, Q.getD j false = true → S j
  more : ∀ j, R.getD j false = true → Q.getD j false = true
  same : ag = false → Q = R ∧ (∀ i', i' < i → G R i' = true → ∀ j, j ∈ nx i' → R.getD j false = true) ∧ (G R i = true → ∀ j, j ∈ (nx i).take k → R.getD j false = true)
  less : ag = true → cntF Q < cntF R
theorem getD_setT {R : List Bool} {j i : Nat} (hj : j < R.length) : (R.set j true).getD i false = if i = j then true else R.getD i false := by
  rw [List.getD_eq_getElem?_getD, List.getD_eq_getElem?_getD]
  by_cases e : i = j
  · subst e
    rw [List.getElem?_set_self hj, if_pos rfl]
    rfl
  · rw [List.getElem?_set_ne (fun x => e x.symm), if_neg e]
section
variable {l : Nat} {nx : Nat → List Nat} {S : Nat → Prop} {G : List Bool → Nat → Bool} {R Q : List Bool} {i k : Nat} {ag : Bool}
theorem PasP.begin (hl : R.length = l + 1) (hs : ∀ j, R.getD j false = true → S j) : PasP l nx S G R R 0 0 false :=
  ⟨hl, hs, fun _ h => h, fun _ => ⟨rfl, fun i' h => absurd h (by omega), fun _ j hj => by simp at hj⟩, fun h => by cases h⟩
/-- A truth is turned. -/
theorem PasP.turn (h : PasP l nx S G R Q i k ag) {j : Nat} (hj : j < l + 1) (hq : Q.getD j false = false) (hs : S j) : PasP l nx S G R (Q.set j true) i (k + 1) true := by
  have hjl : j < Q.length := by rw [h.len]; exact hj
  have hlt : cntF (Q.set j true) < cntF Q := cnt_set (by
    rw [List.getD_eq_getElem?_getD, List.getElem?_eq_getElem hjl] at hq ⊢
    exact hq)
  refine ⟨by simpa using h.len, fun q hq' => ?_, fun q hq' => ?_, (fun e => by cases e), fun _ => ?_⟩
  · rw [getD_setT hjl] at hq'
    split at hq'
    · rename_i e; rw [e]; exact hs
    · exact h.sound q hq'
  · rw [getD_setT hjl]
    split
    · rfl
    · exact h.more q hq'
  · cases ag with
    | true => exact Nat.lt_trans hlt (h.less rfl)
    | false => rw [(h.same rfl).1] at hlt ⊢; exact hlt
/-- Nothing is turned. -/
theorem PasP.stay (h : PasP l nx S G R Q i k ag) {j : Nat} (hk : (nx i)[k]? = some j) (hq : ag = false → G R i = true → R.getD j false = true) : PasP l nx S G R Q i (k + 1) ag :=
  ⟨h.len, h.sound, h.more, fun e => ⟨(h.same e).1, (h.same e).2.1, fun hg q hq' => by
    rw [List.take_add_one, hk] at hq'
    rcases List.mem_append.mp hq' with h1 | h1
    · exact (h.same e).2.2 hg q h1
    · have : q = j := by simpa using h1
      rw [this]; exact hq e hg⟩, h.less⟩
/-- The next order. -/
theorem PasP.next (h : PasP l nx S G R Q i k ag) (hk : (nx i).length ≤ k ∨ (ag = false → G R i = false)) : PasP l nx S G R Q (i + 1) 0 ag :=
  ⟨h.len, h.sound, h.more, fun e => ⟨(h.same e).1, fun i' hi' hg q hq => by
    by_cases ei : i' = i
    · subst ei
      rcases hk with hk | hk
      · exact (h.same e).2.2 hg q (by rw [List.take_of_length_le hk]; exact hq)
      · rw [hk e] at hg; cases hg
    · exact (h.same e).2.1 i' (by omega) hg q hq, fun _ q hq => by simp at hq⟩, h.less⟩
end
/-- What stands behind the passes: what is sound, and handed on from each order. -/
structure ClsP (l : Nat) (nx : Nat → List Nat) (S : Nat → Prop) (G : List Bool → Nat → Bool) (R : List Bool) : Prop where
  len : R.length = l + 1
  sound : ∀ j, R.getD j false = true → S j
  closed : ∀ i, i < l → G R i = true → ∀ j, j ∈ nx i → R.getD j false = true
theorem PasP.done {l : Nat} {nx : Nat → List Nat} {S : Nat → Prop} {G : List Bool → Nat → Bool} {R Q : List Bool} (h : PasP l nx S G R Q l 0 false) : ClsP l nx S G Q := by
  obtain ⟨h1, h2, _⟩ := h.same rfl
  subst h1
  exact ⟨h.len, h.sound, h2⟩
/-- Where there is a way. -/
def gReach : List Bool → Nat → Bool := fun R i => R.getD i false
/-- From where something that waits is handed on. -/
def gMay (X : Nat → Nat → Int) (R : List Bool) : List Bool → Nat → Bool := fun M i => R.getD i false && (wtO (X i 0) || (M.getD i false && !awO (X i 0)))
def nxO (X : Nat → Nat → Int) : Nat → List Nat := fun i => nextO (X i 0) (X i 1) (X i 2) i
theorem reach_iff {l : Nat} {X : Nat → Nat → Int} {R : List Bool} (h : ClsP l (nxO X) (fun j => ∃ w, Way l X j w) gReach R) (h0 : R.getD 0 false = true) {i : Nat} : R.getD i false = true ↔ ∃ w, Way l X i w := by
  refine ⟨h.sound i, ?_⟩
  rintro ⟨w, hw⟩
  induction hw with
  | base => exact h0
  | step _ hi hj ih => exact h.closed _ hi ih _ hj
theorem may_iff {l : Nat} {X : Nat → Nat → Int} {R M : List Bool} (h : ClsP l (nxO X) (fun j => ∃ w, Way l X j w) gReach R) (h0 : R.getD 0 false = true) (hm : ClsP l (nxO X) (fun j => Way l X j true) (gMay X R) M) {i : Nat} : M.getD i false = true ↔ Way l X i true := by
  refine ⟨hm.sound i, fun hw => ?_⟩
  have key : ∀ i w, Way l X i w → w = true → M.getD i false = true := fun i w hw => by
    induction hw with
    | base => intro e; cases e
    | @step i j w hw hi hj ih =>
      intro e
      refine hm.closed i hi ?_ j hj
      unfold gMay
      rw [(reach_iff h h0).2 ⟨w, hw⟩, Bool.true_and]
      cases hwt : wtO (X i 0) with
      | true => rfl
      | false =>
        rw [hwt] at e
        simp only [Bool.false_or, Bool.and_eq_true] at e
        rw [ih e.1, e.2]
        rfl
  exact key i true hw rfl

end Go.Proofs.Ytgofbkgfonlceac
