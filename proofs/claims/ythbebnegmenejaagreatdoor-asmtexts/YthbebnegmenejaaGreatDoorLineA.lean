/-
  What the program's readLine does with the first three lines, and with a line that has no numbers where some must stand.
-/
import Derived.Test.YthbebnegmenejaaGreatDoorAddN
namespace Go.Proofs.YthbebnegmenejaaGreatDoor
open Go.RowKit

/-- The reader's two tables. -/
structure Rd (w : World) (B pb mb ob : Nat) (js : List Nat) : Prop where
  c4 : w.cell? ⟨pb, 4, none⟩ = some (.map (some mb))
  c5 : w.cell? ⟨pb, 5, none⟩ = some (.map (some ob))
  m1 : w.heap[mb]? = some (.map shapesArr 18)
  m2 : w.heap[ob]? = some (.map (opsE js) js.length)
  hall : ∀ j, j < 18 → j ∈ js
  hjs : ∀ j ∈ js, j < 18
  l1 : mb < B
  l2 : ob < B
  n1 : mb ≠ pb
  n2 : ob ≠ pb
theorem Rd.kept {w w' : World} {B pb mb ob : Nat} {js : List Nat} (h : Rd w B pb mb ob js) (hk : Kept B pb w w') (h4 : w'.cell? ⟨pb, 4, none⟩ = w.cell? ⟨pb, 4, none⟩) (h5 : w'.cell? ⟨pb, 5, none⟩ = w.cell? ⟨pb, 5, none⟩) : Rd w' B pb mb ob js :=
  ⟨h4.trans h.c4, h5.trans h.c5, (hk.block mb h.l1 h.n1).trans h.m1, (hk.block ob h.l2 h.n2).trans h.m2, h.hall, h.hjs, h.l1, h.l2, h.n1, h.n2⟩
theorem Rd.below {w w' : World} {B pb mb ob : Nat} {js : List Nat} (h : Rd w B pb mb ob js) (hb : Below w.heap.size w w') (hB : B ≤ w.heap.size) : Rd w' B pb mb ob js :=
  h.kept (Kept.of_below hb hB) (hb.cell (lt_of_cell h.c4)) (hb.cell (lt_of_cell h.c5))
theorem Rd.box {w : World} {B pb mb ob : Nat} {js : List Nat} (h : Rd w B pb mb ob js) (i : Nat) (hi : i < 4) (u : Value) : Rd (w.setCell ⟨pb, i, none⟩ u) B pb mb ob js :=
  h.kept (Kept.box i u) (World.cell?_setCell_other _ _ _ _ (by simp <;> omega)) (World.cell?_setCell_other _ _ _ _ (by simp <;> omega))

theorem PSt.below {w w' : World} {B pb : Nat} {cv wv : Value} {tv : List Value} {st : St} (h : PSt w B pb cv wv tv st) (hb : Below w.heap.size w w') : PSt w' B pb cv wv tv st :=
  ⟨(hb.cell (lt_of_cell h.c0)).trans h.c0, (hb.cell (lt_of_cell h.c1)).trans h.c1, (hb.cell (lt_of_cell h.c2)).trans h.c2, (hb.cell (lt_of_cell h.c3)).trans h.c3, fun i hi => (hb.frozen (p := ⟨pb, i, none⟩) (Nat.lt_of_lt_of_le h.lt h.le)).trans (h.fz i hi), h.lt, Nat.le_trans h.le hb.size, h.built.below hb⟩
theorem PSt.setWords {w : World} {B pb : Nat} {cv wv : Value} {tv : List Value} {st : St} (h : PSt w B pb cv wv tv st) {v : Value} {vs : List Int} {B' : Nat} (hv : w.ownsRow B' 3 1 v vs.length (vs.map (Value.int .i64))) (hB : B ≤ B') (hc : ∀ g, cv.ownBlock = some g → g < B') (ht : ∀ t g, t < st.ths.length → (tv.getD t nilS).ownBlock = some g → g < B') :
    PSt (w.setCell ⟨pb, 1, none⟩ v) B pb cv v tv { st with words := vs } :=
  ⟨by rw [World.cell?_setCell_other _ _ _ _ (by simp)]; exact h.c0, World.cell?_setCell_same _ _ _ h.c1, by rw [World.cell?_setCell_other _ _ _ _ (by simp)]; exact h.c2, by rw [World.cell?_setCell_other _ _ _ _ (by simp)]; exact h.c3,
    fun i hi => by rw [World.frozen?_setCell]; exact h.fz i hi, h.lt, by simpa [World.setCell] using h.le, (h.built.setWords hv hB hc ht).store h.lt _⟩
theorem PSt.setLocks {w : World} {B pb : Nat} {cv wv : Value} {tv : List Value} {st : St} (h : PSt w B pb cv wv tv st) (x : Int) : PSt (w.setCell ⟨pb, 2, none⟩ (.int .i64 x)) B pb cv wv tv { st with lk := x } :=
  ⟨by rw [World.cell?_setCell_other _ _ _ _ (by simp)]; exact h.c0, by rw [World.cell?_setCell_other _ _ _ _ (by simp)]; exact h.c1, World.cell?_setCell_same _ _ _ h.c2, by rw [World.cell?_setCell_other _ _ _ _ (by simp)]; exact h.c3,
    fun i hi => by rw [World.frozen?_setCell]; exact h.fz i hi, h.lt, by simpa [World.setCell] using h.le, h.built.store h.lt _⟩
theorem PSt.setRegs {w : World} {B pb : Nat} {cv wv : Value} {tv : List Value} {st : St} (h : PSt w B pb cv wv tv st) (x : Int) : PSt (w.setCell ⟨pb, 3, none⟩ (.int .i64 x)) B pb cv wv tv { st with rg := x } :=
  ⟨by rw [World.cell?_setCell_other _ _ _ _ (by simp)]; exact h.c0, by rw [World.cell?_setCell_other _ _ _ _ (by simp)]; exact h.c1, by rw [World.cell?_setCell_other _ _ _ _ (by simp)]; exact h.c2, World.cell?_setCell_same _ _ _ h.c3,
    fun i hi => by rw [World.frozen?_setCell]; exact h.fz i hi, h.lt, by simpa [World.setCell] using h.le, h.built.store h.lt _⟩

set_option maxRecDepth 100000 in
set_option maxHeartbeats 800000 in
theorem readLine_none (pb : Nat) (k : Int) (s : ByteArray) (hs : s.size ≤ 4000) (HN : Hid (numsOf s.data.toList = none)) (te : TypeId) (ep : Value) (w : World) (hE : Env w te ep) :
    Calls Tryz.prog 32 #[.pointer (some ⟨pb, 0, none⟩), .int .i64 k, .string s] w fun e w' => e = .returned (.iface te ep) ∧ Below w.heap.size w w' := by
  go_enter Tryz.func32, Tryz.ntmps32
  go_wp2_with (first | (go_at_call 39; refine (splitLine_any s hs te ep _ hE).mono ?_; rintro e w1 ⟨hL, hb1⟩; unfold LineP at hL; rw [HN.out] at hL; subst hL))
  go_ret
  exact ⟨rfl, hb1⟩

end Go.Proofs.YthbebnegmenejaaGreatDoor
