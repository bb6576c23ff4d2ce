/-
  What the program's Parse does.
-/
import Derived.Test.YthbebnegmenejaaGreatDoorIs
import Derived.Test.YthbebnegmenejaaGreatDoorCheckA
namespace Go.Proofs.YthbebnegmenejaaGreatDoor
open Go.RowKit

def ord4 (x : I4) (q : Nat) : Int := if q = 0 then x.1 else if q = 1 then x.2.1 else if q = 2 then x.2.2.1 else x.2.2.2
def xOf (ths : List (List I4)) (t i q : Nat) : Int := ord4 ((ths.getD t []).getD i (0, 0, 0, 0)) q
def lOf (ths : List (List I4)) (t : Nat) : Nat := (ths.getD t []).length
def chkS (st : St) : Int × Int × Int := chk st.ths.length (lOf st.ths) (xOf st.ths) st.words.length st.lk st.rg

theorem cellsT_at : ∀ (l : List I4) (i q : Nat), i < l.length → q < 4 → (cellsT l)[i * 4 + q]? = some (.int .i64 (ord4 (l.getD i (0, 0, 0, 0)) q))
  | [], i, q, h, _ => by simp at h
  | x :: r, 0, q, _, hq => by
    rcases (by omega : q = 0 ∨ q = 1 ∨ q = 2 ∨ q = 3) with rfl | rfl | rfl | rfl <;> rfl
  | x :: r, i + 1, q, h, hq => by
    have ih := cellsT_at r i q (by simpa using h) hq
    have e : (i + 1) * 4 + q = 4 + (i * 4 + q) := by omega
    have e2 : cellsT (x :: r) = cells4 x ++ cellsT r := by simp [cellsT]
    have e3 : (cells4 x).length = 4 := rfl
    rw [e, e2, List.getElem?_append_right (by rw [e3]; omega), e3, Nat.add_sub_cancel_left, ih]
    simp

def sliceA : Value → Option Addr
  | .slice a _ _ => a
  | _ => none
def sliceC : Value → Nat
  | .slice _ _ c => c
  | _ => 0

theorem Built.pin {w : World} {B n cc : Nat} {ca : Option Addr} {wv : Value} {tv : List Value} {ths : List (List I4)} {wds : List Int} (h : Built w B (.slice ca n cc) wv tv ths wds) {K : Nat} (hn : ths.length ≤ K) (ht : ∀ t, (ths.getD t []).length ≤ K) (hK : K ≤ 4001) :
    PIn w ca ths.length (fun t => sliceA (tv.getD t nilS)) (lOf ths) (fun t => sliceC (tv.getD t nilS)) (xOf ths) where
  code t ht' := by
    rcases h.code.2 with ⟨_, h1⟩ | ⟨g, cp, cur, hv, _⟩
    · omega
    · simp only [Value.slice.injEq] at hv
      obtain ⟨rfl, rfl, rfl⟩ := hv
      refine ⟨g, 0, rfl, ?_⟩
      have h1 := h.code.cellAt t (by omega)
      obtain ⟨a, c, h2⟩ := owns_slice (h.thr t ht')
      rw [Nat.zero_add, h1]
      have hl := h.tv_len
      have e : tv[t]? = some (tv.getD t nilS) := by simp [List.getD, List.getElem?_eq_getElem (show t < tv.length by omega)]
      rw [e, h2]
      rfl
  ord t i ht' hi := by
    have hth := h.thr t ht'
    obtain ⟨a, c, h2⟩ := owns_slice hth
    rw [h2] at hth
    rcases hth.2 with ⟨_, h1⟩ | ⟨g, cp, cur, hv, _⟩
    · unfold lOf at hi; omega
    · simp only [Value.slice.injEq] at hv
      obtain ⟨rfl, _, rfl⟩ := hv
      have hc := fun q (hq : q < 4) => hth.cells (g := g) rfl (i * 4 + q) _ (cellsT_at _ i q hi hq)
      simp only [Addr.add_lit] at hc
      simp only [Nat.zero_add] at hc ⊢
      refine ⟨g, 0, by rw [h2]; rfl, ?_, ?_, ?_, ?_⟩
      · rw [Nat.zero_add]; exact hc 0 (by omega)
      · rw [Nat.zero_add]; exact hc 1 (by omega)
      · rw [Nat.zero_add]; exact hc 2 (by omega)
      · rw [Nat.zero_add]; exact hc 3 (by omega)
  len t _ := by have := ht t; unfold lOf; omega
  num := by omega

theorem runL_sz : ∀ (ls : List (List UInt8)) (k : Nat) (st st' : St), Sz k st → runL k ls st = .inr st' → Sz (k + ls.length) st'
  | [], k, st, st', h, e => by
    simp only [runL, Sum.inr.injEq] at e
    subst e
    exact h
  | l :: r, k, st, st', h, e => by
    rw [runL] at e
    split at e
    · cases e
    · rename_i s1 h1
      have := runL_sz r (k + 1) s1 st' (h.step h1) e
      simpa [Nat.add_comm, Nat.add_left_comm, Nat.add_assoc] using this
theorem readL_sz {l : List UInt8} {st : St} (hl : l.length ≤ 4000) (h : readL l = .inr st) : Sz 4001 st := by
  unfold readL at h
  split at h
  · cases h
  · rename_i s1 h1
    split at h
    · cases h
    · simp only [Sum.inr.injEq] at h
      subst h
      have h2 := runL_sz _ 0 _ _ ⟨Nat.zero_le _, fun t => by simp [st0]⟩ h1
      have h3 := cutL_len 10 l
      have h4 : (cutL 10 l).dropLast.length ≤ 4000 := by simp; omega
      exact ⟨by have := h2.n; omega, fun t => by have := h2.t t; omega⟩

/-- A4: a text's program, and what is wrong. -/
def parseL (l : List UInt8) : St × (Int × Int × Int) :=
  if 4000 < l.length then (st0, (1, 0, 0)) else match readL l with
    | .inl k => (st0, (5, 0, (k : Int)))
    | .inr st => if (chkS st).1 = 0 then (st, (0, 0, 0)) else (st0, chkS st)

def ParseQ (B0 : Nat) (l : List UInt8) (e : Ending) (w' : World) : Prop :=
  ∃ cv wv tv B, B0 ≤ B ∧ e = .returned (.tuple #[.agg #[cv, wv, .int .i64 (parseL l).1.lk, .int .i64 (parseL l).1.rg], ints3 (parseL l).2.1 (parseL l).2.2.1 (parseL l).2.2.2]) ∧ Built w' B cv wv tv (parseL l).1.ths (parseL l).1.words

/-- A program in a box at block B, a fault behind it: both are nothing, and may be written. -/
structure Bx (w : World) (B : Nat) : Prop where
  lt : B + 2 ≤ w.heap.size
  p0 : w.cell? ⟨B, 0, none⟩ = some nilS
  p1 : w.cell? ⟨B, 1, none⟩ = some nilS
  p2 : w.cell? ⟨B, 2, none⟩ = some (.int .i64 0)
  p3 : w.cell? ⟨B, 3, none⟩ = some (.int .i64 0)
  r0 : w.cell? ⟨B + 1, 0, none⟩ = some (.int .i64 0)
  r1 : w.cell? ⟨B + 1, 1, none⟩ = some (.int .i64 0)
  r2 : w.cell? ⟨B + 1, 2, none⟩ = some (.int .i64 0)
  pf : ∀ i, w.frozen? ⟨B, i, none⟩ = false
  rf : ∀ i, w.frozen? ⟨B + 1, i, none⟩ = false
theorem Bx.below {w w' : World} {B : Nat} (h : Bx w B) (hb : Below w.heap.size w w') : Bx w' B :=
  ⟨Nat.le_trans h.lt hb.size, (hb.cell (lt_of_cell h.p0)).trans h.p0, (hb.cell (lt_of_cell h.p1)).trans h.p1, (hb.cell (lt_of_cell h.p2)).trans h.p2, (hb.cell (lt_of_cell h.p3)).trans h.p3,
    (hb.cell (lt_of_cell h.r0)).trans h.r0, (hb.cell (lt_of_cell h.r1)).trans h.r1, (hb.cell (lt_of_cell h.r2)).trans h.r2, fun i => (hb.frozen (p := ⟨B, i, none⟩) (by have := h.lt; show B < _; omega)).trans (h.pf i), fun i => (hb.frozen (p := ⟨B + 1, i, none⟩) (by have := h.lt; show B + 1 < _; omega)).trans (h.rf i)⟩
theorem Bx.start (w : World) (t u : TypeId) : Bx ((w.alloc (.cells #[nilS, nilS, .int .i64 0, .int .i64 0] t)).alloc (.cells #[.int .i64 0, .int .i64 0, .int .i64 0] u)) w.heap.size := by
  refine ⟨by simp, by go_simp, by go_simp, by go_simp, by go_simp, by go_simp, by go_simp, by go_simp, fun i => ?_, fun i => ?_⟩
  · rw [World.frozen?_alloc_past _ _ _ (by simp)]
    simp only [World.frozen?, heap_alloc_new]
    simp
  · have e : w.heap.size + 1 = (w.alloc (.cells #[nilS, nilS, .int .i64 0, .int .i64 0] t)).heap.size := by simp
    rw [e]
    simp only [World.frozen?, heap_alloc_new]
    simp

set_option maxRecDepth 100000 in
set_option maxHeartbeats 1600000 in
theorem parse_long (s : ByteArray) (hl : 4000 < s.size) (hm : s.size ≤ 9223372036854775807) (w : World) :
    Calls Tryz.prog 8 #[.string s] w fun e w' => ParseQ w.heap.size s.data.toList e w' ∧ Below w.heap.size w w' := by
  have hi : (4000 : Int) < (s.size : Int) := by omega
  go_enter Tryz.func8, Tryz.ntmps8
  go_wp2
  have hq : parseL s.data.toList = (st0, (1, 0, 0)) := by
    unfold parseL
    rw [if_pos (by rw [← Lib.size_eq]; exact hl)]
  refine bodyPost_ret (v := .tuple #[.agg #[nilS, nilS, .int .i64 0, .int .i64 0], ints3 1 0 0]) (by simp [results, Tryz.results8, go_sem]) rfl ⟨?_, ((Below.refl _ _).alloc (Nat.le_refl _) _).alloc (by simp) _⟩
  unfold ParseQ
  rw [hq]
  exact ⟨nilS, nilS, [], w.heap.size, Nat.le_refl _, rfl, built_start _ _⟩

set_option maxRecDepth 100000 in
set_option maxHeartbeats 3200000 in
theorem parse_bad (s : ByteArray) (hl : s.size ≤ 4000) (k : Nat) (HK : Hid (readL s.data.toList = .inl k)) (a : Addr) (w : World) (hE : Env w 161 (.pointer (some a))) :
    Calls Tryz.prog 8 #[.string s] w fun e w' => ParseQ w.heap.size s.data.toList e w' ∧ Below w.heap.size w w' := by
  have hi : ¬ (4000 : Int) < (s.size : Int) := by omega
  have hE0 := hE.below (((Below.refl w.heap.size w).alloc (Nat.le_refl _) (.cells #[nilS, nilS, .int .i64 0, .int .i64 0] 25)).alloc (by simp) (.cells #[.int .i64 0, .int .i64 0, .int .i64 0] 29))
  have hB0 := Bx.start w 25 29
  go_enter Tryz.func8, Tryz.ntmps8
  go_wp2_with (first | (go_at_call 20; refine (readLines_any s hl _ _ _ hE0).mono ?_; rintro e w1 ⟨hq, hb1⟩; unfold ReadQ at hq; rw [HK.out] at hq; obtain rfl := hq; have hB1 := hB0.below hb1; have hlt := hB1.lt; have hBa := fun o => hB1.below ((Below.refl w1.heap.size w1).alloc (Nat.le_refl _) o); have ea := fun o => ((hE0.below hb1).below ((Below.refl w1.heap.size w1).alloc (Nat.le_refl _) o)).err; have p0 := fun o => (hBa o).p0; have p1 := fun o => (hBa o).p1; have p2 := fun o => (hBa o).p2; have p3 := fun o => (hBa o).p3; have r0 := fun o => (hBa o).r0; have r1 := fun o => (hBa o).r1; have r2 := fun o => (hBa o).r2; have pf := fun o => (hBa o).pf; have rf := fun o => (hBa o).rf; clear hBa) | (go_at_call 21; refine (is_same a _).mono ?_; rintro e w2 ⟨rfl, rfl⟩))
  have hq : parseL s.data.toList = (st0, (5, 0, (k : Int))) := by
    unfold parseL
    rw [if_neg (by rw [← Lib.size_eq]; omega), HK.out]
  have hb : Below w.heap.size w w1 := (((Below.refl _ _).alloc (Nat.le_refl _) _).alloc (by simp) _).trans (hb1.mono (by simp; omega))
  refine bodyPost_ret (v := .tuple #[.agg #[nilS, nilS, .int .i64 0, .int .i64 0], ints3 5 0 k]) (by simp [results, Tryz.results8, go_sem, p0, p1, p2, p3, r0, r1, r2]) rfl ⟨?_, ?_⟩
  · unfold ParseQ
    rw [hq]
    exact ⟨nilS, nilS, [], w.heap.size, Nat.le_refl _, rfl, built_start _ _⟩
  · exact (((((((hb.alloc hb.size _).setCell (Nat.le_refl _) _).setCell (Nat.le_refl _) _).setCell (Nat.le_refl _) _).setCell (Nat.le_refl _) _).setCell (Nat.le_succ _) _).setCell (Nat.le_succ _) _).setCell (Nat.le_succ _) _

end Go.Proofs.YthbebnegmenejaaGreatDoor
