/-
  The program's parser in memory, and what a function has of its own beside it.
  The program's parser: what is next, its fault, what opens and shuts.
  The program's parser: what stands next, what opens and shuts, a token that is taken, a node that is added.
-/
import Derived.Test.YtggfbfjdiikaeaaGreatDoorLexA8
import Derived.Test.YtggfbfjdiikaeaaGreatDoorSynT
import Derived.Test.YtggfbfjdiikaeaaGreatDoorBase
import Derived.Test.YtggfbfjdiikaeaaGreatDoorShelf
namespace Go.Proofs.YtggfbfjdiikaeaaGreatDoor
section
open Go.RowKit

/-- What stands behind the last token. -/
def endT (E : Int) : Tok := ⟨0, 0, E, []⟩
/-- The token that is next. -/
def tokE (E : Int) : List Tok → Tok
  | [] => endT E
  | t :: _ => t
theorem tokE_pos (E : Int) (l : List Tok) : (tokE E l).pos = posOf E l := by cases l <;> rfl
/-- The program's parser in memory. -/
structure Qs (w : World) (P : Nat) (T : List Tok) (E : Int) (i d : Nat) (tv lv : Value) : Prop where
  box : w.heap[P]? = some (.cells #[tv, .int .i64 (i : Int), .int .i64 (d : Int), lv] 111)
  toks : OwnT w 0 tv (T ++ [endT E])
  apart : tv.ownBlock ≠ some P
  le : i ≤ T.length
  few : T.length ≤ 4000
  okt : ToksOk T
  dle : d ≤ 20
section
variable {w w' : World} {P : Nat} {T : List Tok} {E : Int} {i d : Nat} {tv lv : Value}
theorem Qs.c0 (h : Qs w P T E i d tv lv) : w.cell? ⟨P, 0, none⟩ = some tv := box_cell h.box rfl
theorem Qs.c1 (h : Qs w P T E i d tv lv) : w.cell? ⟨P, 1, none⟩ = some (.int .i64 (i : Int)) := box_cell h.box rfl
theorem Qs.c2 (h : Qs w P T E i d tv lv) : w.cell? ⟨P, 2, none⟩ = some (.int .i64 (d : Int)) := box_cell h.box rfl
theorem Qs.c3 (h : Qs w P T E i d tv lv) : w.cell? ⟨P, 3, none⟩ = some lv := box_cell h.box rfl
theorem Qs.free (h : Qs w P T E i d tv lv) (k : Nat) : w.frozen? ⟨P, k, none⟩ = false := box_free h.box
theorem Qs.lt (h : Qs w P T E i d tv lv) : P < w.heap.size := lt_of_cell h.c0
/-- The parser with other numbers. -/
theorem Qs.next (h : Qs w P T E i d tv lv) (ho : Only P w w') {i' d' : Nat} {lv' : Value} (hi : i' ≤ T.length) (hd : d' ≤ 20) (hb : w'.heap[P]? = some (.cells #[tv, .int .i64 (i' : Int), .int .i64 (d' : Int), lv'] 111)) : Qs w' P T E i' d' tv lv' :=
  ⟨hb, fam_keeps h.toks fun g hg => ho.block g (h.toks.lt g hg).2 fun e => h.apart (by rw [hg, e]), h.apart, hi, h.few, h.okt, hd⟩
/-- Other blocks have changed. -/
theorem Qs.but (h : Qs w P T E i d tv lv) {kb : Option Nat} (ho : But kb w w') (hP : some P ≠ kb) (ht : ∀ g, tv.ownBlock = some g → some g ≠ kb) : Qs w' P T E i d tv lv :=
  ⟨(ho.block P h.lt hP).trans h.box, own_but h.toks ho ht, h.apart, h.le, h.few, h.okt, h.dle⟩
theorem Qs.tok (h : Qs w P T E i d tv lv) : ∃ g tc, tv = .slice (some ⟨g, 0, none⟩) (T.length + 1) tc ∧ g ≠ P ∧ g < w.heap.size ∧ w.cell? ⟨g, i * 4, none⟩ = some (.int .i64 (tokE E (T.drop i)).kind) ∧ w.cell? ⟨g, i * 4 + 1, none⟩ = some (.int .i64 (tokE E (T.drop i)).num) ∧ w.cell? ⟨g, i * 4 + 2, none⟩ = some (.int .i64 (tokE E (T.drop i)).pos) ∧ w.cell? ⟨g, i * 4 + 3, none⟩ = some (.string ⟨⟨(tokE E (T.drop i)).text⟩⟩) := by
  obtain ⟨ta, tc, rfl⟩ := h.toks.form
  have hle := h.le
  obtain ⟨g, rfl, t0, t1, t2, t3⟩ := h.toks.cells (k := i) (by simp; omega)
  have ht : (T ++ [endT E]).getD i tok0 = tokE E (T.drop i) := by
    rcases Nat.lt_or_ge i T.length with h1 | h1
    · rw [getD_drop h1, tokE, List.getD_eq_getElem?_getD, List.getElem?_append_left h1, List.getD_eq_getElem?_getD]
    · have e : i = T.length := by omega
      subst e
      rw [List.drop_length, List.getD_eq_getElem?_getD, List.getElem?_append_right (Nat.le_refl _)]
      simp [tokE]
  rw [ht] at t0 t1 t2 t3
  refine ⟨g, tc, by simp, fun e => h.apart (by rw [← e]; rfl), lt_of_cell t0, t0, t1, t2, t3⟩
end
theorem Only.trans9 {P : Nat} {w W : World} (h : Only P w W) (b : Nat) (hb : w.heap.size ≤ b) (j : Nat) (u : Value) : Only P w (W.setCell ⟨b, j, none⟩ u) :=
  ⟨h.os, h.tape, h.output, by rw [set_size]; exact h.size, fun k hk hp => (Below.heap_setCell _ _ _ _ (by simp only; omega)).trans (h.block k hk hp)⟩
/-- A function's stand: the parser, its nodes, what the function has of its own. -/
structure GpL (C : Cx9) (w : World) (d : Nat) (bx : Option (Nat × Obj)) (qs : List (List Int × Value)) (l : List Tok) (rows : List Row) (lv : Value) (i : Nat) (ys : List (Row × Value)) : Prop where
  fr : FrN C.P C.w0 C.lv0 w lv
  bx : ∀ z, bx = some z → Kp C.w0 w C.P lv z
  ps : ∀ p, p ∈ qs → Kd C.w0 w C.P lv p
  q : Qs w C.P C.T C.E i d C.tv lv
  is : C.T.drop i = l
  lst : Lst w C.B C.P C.tv lv ys
  kid : ∀ x, x ∈ ys → KdAt w C.P lv x
  few : ys.length + l.length ≤ C.T.length
  map : ys.map Prod.fst = rows
  kb : KB C qs ys
structure GoP (C : Cx9) (w : World) (d : Nat) (bx : Option (Nat × Obj)) (qs : List (List Int × Value)) (l : List Tok) (rows : List Row) : Prop where
  ex : ∃ lv i ys, GpL C w d bx qs l rows lv i ys
section
variable {C : Cx9} {w w' : World} {d d' : Nat} {lv : Value} {bx : Option (Nat × Obj)} {ps : List (List Int × Value)} {l : List Tok} {rows : List Row} {i : Nat} {ys : List (Row × Value)}
theorem GpL.only (h : GpL C w d bx ps l rows lv i ys) (ho : Only C.P w w') {i' : Nat} (hi : i ≤ i') (hi2 : i' ≤ C.T.length) (hd : d' ≤ 20) (hb : w'.heap[C.P]? = some (.cells #[C.tv, .int .i64 (i' : Int), .int .i64 (d' : Int), lv] 111)) : GoP C w' d' bx ps (C.T.drop i') rows := by
  have h1 : (C.T.drop i').length ≤ l.length := by rw [← h.is]; simp; omega
  exact ⟨lv, i', ys, h.fr.trans (FrN.of ho), fun z hz => (h.bx z hz).fr (FrN.of ho), fun p hp => ⟨(h.ps p hp).kd.fr (FrN.of ho), (h.ps p hp).new⟩, h.q.next ho hi2 hd hb, rfl, h.lst.only ho, fun x hx => (h.kid x hx).fr (FrN.of ho), by have := h.few; omega, h.map, h.kb⟩
theorem GpL.below (h : GpL C w d bx ps l rows lv i ys) (hb : Below w.heap.size w w') : GpL C w' d bx ps l rows lv i ys := by
  have ho : Only C.P w w' := Only.of hb
  exact ⟨h.fr.trans (FrN.of ho), fun z hz => (h.bx z hz).fr (FrN.of ho), fun p hp => ⟨(h.ps p hp).kd.fr (FrN.of ho), (h.ps p hp).new⟩, h.q.next ho h.q.le h.q.dle ((hb.block C.P h.q.lt).trans h.q.box), h.is, h.lst.only ho, fun x hx => (h.kid x hx).fr (FrN.of ho), h.few, h.map, h.kb⟩
theorem GoP.below (h : GoP C w d bx ps l rows) (hb : Below w.heap.size w w') : GoP C w' d bx ps l rows := by
  obtain ⟨lv, i, ys, h⟩ := h
  have hx := h.only (Only.of hb) (Nat.le_refl i) h.q.le h.q.dle ((hb.block C.P h.q.lt).trans h.q.box)
  rw [h.is] at hx
  exact hx
theorem GoP.drop (h : GoP C w d bx ps l rows) : GoP C w d none [] l rows := by
  obtain ⟨lv, i, ys, h⟩ := h
  exact ⟨lv, i, ys, h.fr, fun z hz => (by cases hz), fun p hp => (by simp at hp), h.q, h.is, h.lst, h.kid, h.few, h.map, fun y hy g hg => ⟨(h.kb y hy g hg).1, fun p hp => (by simp at hp)⟩⟩
theorem GoP.fewR (h : GoP C w d bx ps l rows) : rows.length + l.length ≤ C.T.length ∧ C.T.length ≤ 4000 ∧ d ≤ 20 ∧ ToksOk l := by
  obtain ⟨lv, i, ys, h⟩ := h
  have := h.few
  refine ⟨by rw [← h.map, List.length_map]; exact this, h.q.few, h.q.dle, ?_⟩
  rw [← h.is]
  exact fun t ht => h.q.okt t (List.mem_of_mem_drop ht)
/-- Something new is written. -/
theorem Only.setn {P b : Nat} {W : World} (h : Only P w W) (hb : w.heap.size ≤ b) (j : Nat) (u : Value) : Only P w (W.setCell ⟨b, j, none⟩ u) := h.trans9 b hb j u
/-- The frame alone. -/
def FrP (C : Cx9) (w : World) : Prop := ∃ lv, FrN C.P C.w0 C.lv0 w lv
theorem GoP.frp (h : GoP C w d bx ps l rows) : FrP C w := by
  obtain ⟨lv, i, ys, h⟩ := h
  exact ⟨lv, h.fr⟩
theorem FrP.below (h : FrP C w) (hb : Below w.heap.size w w') : FrP C w' := by
  obtain ⟨lv, h⟩ := h
  exact ⟨lv, h.trans (FrN.of (Only.of hb))⟩
/-- Another call's beginning. -/
theorem GoP.lift (h : GoP C w d bx ps l rows) : ∃ C', C'.B = C.B ∧ C'.P = C.P ∧ C'.T = C.T ∧ C'.E = C.E ∧ C'.tv = C.tv ∧ C'.w0 = w ∧ GoP C' w d none [] l rows ∧ (∀ {w' : World} {d' : Nat} {bx' : Option (Nat × Obj)} {ps' : List (List Int × Value)} {l' : List Tok} {rows' : List Row}, GoP C' w' d' bx' ps' l' rows' → GoP C w' d' bx ps l' rows') ∧ ∀ {w'}, FrP C' w' → FrP C w' := by
  obtain ⟨lv, i, ys, h⟩ := h
  refine ⟨{ C with w0 := w, lv0 := lv, K := fun g => ∃ y, y ∈ ys ∧ y.2.ownBlock = some g }, rfl, rfl, rfl, rfl, rfl, rfl, ?_, fun {w' d' bx' ps' l' rows'} k => ?_, fun {w'} k => ?_⟩
  · exact ⟨lv, i, ys, FrN.of (Only.refl _ _), fun z hz => (by cases hz), fun p hp => (by simp at hp), h.q, h.is, h.lst, h.kid, h.few, h.map, fun y hy g hg => ⟨Or.inl ⟨y, hy, hg⟩, fun p hp => (by simp at hp)⟩⟩
  · obtain ⟨lv', i', zs, k⟩ := k
    refine ⟨lv', i', zs, h.fr.trans k.fr, fun z hz => (h.bx z hz).fr k.fr, fun p hp => ⟨(h.ps p hp).kd.fr k.fr, (h.ps p hp).new⟩, k.q, k.is, k.lst, k.kid, k.few, k.map, fun z hz g hg => ?_⟩
    rcases (k.kb z hz g hg).1 with ⟨y, hy, hyg⟩ | hn
    · exact h.kb y hy g hyg
    · refine ⟨Or.inr (Nat.le_trans h.fr.size hn), fun p hp e => ?_⟩
      have h1 := ((h.ps p hp).kd.own.lt g e).2
      exact absurd hn (by simp only; omega)
  · obtain ⟨lv', k⟩ := k
    exact ⟨lv', h.fr.trans k⟩
/-- A node of one's own. -/
theorem GoP.box (h : GoP C w d none ps l rows) (o : Obj) : GoP C (w.alloc o) d (some (w.heap.size, o)) ps l rows := by
  have h2 := h.below ((Below.refl _ _).alloc (Nat.le_refl _) o)
  obtain ⟨lv, i, ys, h0⟩ := h
  have hb := (Below.refl w.heap.size w).alloc (Nat.le_refl _) o
  have ho : Only C.P w (w.alloc o) := Only.of hb
  have hl : ∀ g, lv.ownBlock = some g → g < w.heap.size := fun g hg => (h0.lst.own.lt g hg).2
  have hP := h0.q.lt
  refine ⟨lv, i, ys, h0.fr.trans (FrN.of ho), fun z hz => ?_, fun p hp => ⟨(h0.ps p hp).kd.fr (FrN.of ho), (h0.ps p hp).new⟩, h0.q.next ho h0.q.le h0.q.dle ((hb.block C.P hP).trans h0.q.box), h0.is, h0.lst.only ho, fun x hx => (h0.kid x hx).fr (FrN.of ho), h0.few, h0.map, h0.kb⟩
  cases hz
  refine ⟨heap_alloc_new _ _, fun e => ?_, fun e => ?_, h0.fr.size⟩
  · simp only at e; omega
  · have := hl _ e; simp only at this; omega
/-- Kids of one's own. -/
theorem GoP.kids (h : GoP C w d bx ps l rows) (ks : List Int) (n : Nat) (hn : n = ks.length) (h1 : 1 ≤ n) (cs : Array Value) (hcs : cs = (ks.map fun k => Value.int .i64 k).toArray) (hk : n ≤ 100) (g : Nat) (hg : g = w.heap.size) : GoP C (w.alloc (.cells cs 3)) d bx ((ks, .slice (some ⟨g, 0, none⟩) n n) :: ps) l rows := by
  subst hcs hn hg
  have hb := (Below.refl w.heap.size w).alloc (Nat.le_refl _) (Obj.cells (ks.map fun k => Value.int .i64 k).toArray 3)
  have ho : Only C.P w (w.alloc (.cells (ks.map fun k => Value.int .i64 k).toArray 3)) := Only.of hb
  obtain ⟨lv, i, ys, h0⟩ := h
  have hl : ∀ g, lv.ownBlock = some g → g < w.heap.size := fun g hg => (h0.lst.own.lt g hg).2
  have hP := h0.q.lt
  refine ⟨lv, i, ys, h0.fr.trans (FrN.of ho), fun z hz => (h0.bx z hz).fr (FrN.of ho), fun p hp => ?_, h0.q.next ho h0.q.le h0.q.dle ((hb.block C.P hP).trans h0.q.box), h0.is, h0.lst.only ho, fun x hx => (h0.kid x hx).fr (FrN.of ho), h0.few, h0.map, fun y hy g hg => ⟨(h0.kb y hy g hg).1, fun p hp => ?_⟩⟩
  · rcases List.mem_cons.1 hp with rfl | hp
    · refine ⟨⟨?_, ?_, ?_⟩, ?_⟩
      · refine ⟨by simp, Or.inr ⟨w.heap.size, ks.length, (ks.map fun k => Value.int .i64 k).toArray, rfl, Nat.zero_le _, heap_alloc_new _ _, Nat.le_refl _, ?_, by simp, by simp; exact List.take_of_length_le (by simp)⟩⟩
        unfold maxLen; omega
      · intro e
        have : w.heap.size = C.P := by simpa [Value.ownBlock] using e
        omega
      · intro g hg e
        have : w.heap.size = g := by simpa [Value.ownBlock] using hg
        have := hl g e
        omega
      · intro g hg
        have : w.heap.size = g := by simpa [Value.ownBlock] using hg
        have := h0.fr.size
        omega
    · exact ⟨(h0.ps p hp).kd.fr (FrN.of ho), (h0.ps p hp).new⟩
  · rcases List.mem_cons.1 hp with rfl | hp
    · have := ((h0.kid y hy).own.lt g hg).2
      intro e
      have : w.heap.size = g := by simpa [Value.ownBlock] using e
      omega
    · exact (h0.kb y hy g hg).2 p hp
theorem GoP.pend0 (h : GoP C w d bx ps l rows) : GoP C w d bx (([], nilV) :: ps) l rows := by
  obtain ⟨lv, i, ys, h⟩ := h
  refine ⟨lv, i, ys, h.fr, h.bx, fun p hp => ?_, h.q, h.is, h.lst, h.kid, h.few, h.map, fun y hy g hg => ⟨(h.kb y hy g hg).1, fun p hp => ?_⟩⟩
  · rcases List.mem_cons.1 hp with rfl | hp
    · exact ⟨kd_none _ _ _ _ _ _ _, fun g hg => by simp [Value.ownBlock] at hg⟩
    · exact h.ps p hp
  · rcases List.mem_cons.1 hp with rfl | hp
    · simp [Value.ownBlock]
    · exact (h.kb y hy g hg).2 p hp
/-- A cell of one's own node is set. -/
theorem GoP.setb {b : Nat} {cs : Array Value} (h : GoP C w d (some (b, .cells cs 60)) ps l rows) (j : Nat) (u : Value) : GoP C (w.setCell ⟨b, j, none⟩ u) d (some (b, .cells (cs.setIfInBounds j u) 60)) ps l rows := by
  obtain ⟨lv, i, ys, h⟩ := h
  have hk := h.bx _ rfl
  have ho : Only b w (w.setCell ⟨b, j, none⟩ u) := (Only.refl _ _).set _ _
  have hbut : But (some b) w (w.setCell ⟨b, j, none⟩ u) := ⟨rfl, rfl, rfl, ho.size, fun k hk1 hk2 => ho.block k hk1 fun e => hk2 (by rw [e])⟩
  have hne : b ≠ C.P := hk.ne
  refine ⟨lv, i, ys, ⟨h.fr.os, h.fr.tape, h.fr.output, by rw [set_size]; exact h.fr.size, fun k hk1 hk2 hk3 => ?_, h.fr.own⟩, fun z hz => ?_, fun p hp => ⟨kd_off (h.ps p hp).kd ho hk.is, (h.ps p hp).new⟩, h.q.but hbut (fun e => hne (Option.some.inj e).symm) (fun g hg e => own_apart h.q.toks hk.is (by decide) (by rw [hg, e])), h.is, lst_off h.lst ho hk.far, fun x hx => kd_off (h.kid x hx) ho hk.is, h.few, h.map, h.kb⟩
  · have := hk.new
    simp only at this
    exact (ho.block k (Nat.lt_of_lt_of_le hk1 h.fr.size) (by omega)).trans (h.fr.block k hk1 hk2 hk3)
  · cases hz
    exact ⟨heap_set9 hk.is, hk.ne, hk.far, hk.new⟩
theorem GoP.set0 {b : Nat} {a0 a1 a2 a3 a4 : Value} (h : GoP C w d (some (b, .cells #[a0, a1, a2, a3, a4] 60)) ps l rows) (u : Value) : GoP C (w.setCell ⟨b, 0, none⟩ u) d (some (b, .cells #[u, a1, a2, a3, a4] 60)) ps l rows := h.setb 0 u
theorem GoP.set1 {b : Nat} {a0 a1 a2 a3 a4 : Value} (h : GoP C w d (some (b, .cells #[a0, a1, a2, a3, a4] 60)) ps l rows) (u : Value) : GoP C (w.setCell ⟨b, 1, none⟩ u) d (some (b, .cells #[a0, u, a2, a3, a4] 60)) ps l rows := h.setb 1 u
theorem GoP.set3 {b : Nat} {a0 a1 a2 a3 a4 : Value} (h : GoP C w d (some (b, .cells #[a0, a1, a2, a3, a4] 60)) ps l rows) (u : Value) : GoP C (w.setCell ⟨b, 3, none⟩ u) d (some (b, .cells #[a0, a1, a2, u, a4] 60)) ps l rows := h.setb 3 u
theorem GoP.set4 {b : Nat} {a0 a1 a2 a3 a4 : Value} (h : GoP C w d (some (b, .cells #[a0, a1, a2, a3, a4] 60)) ps l rows) (u : Value) : GoP C (w.setCell ⟨b, 4, none⟩ u) d (some (b, .cells #[a0, a1, a2, a3, u] 60)) ps l rows := h.setb 4 u
theorem GoP.bxc {b : Nat} {o : Obj} (h : GoP C w d (some (b, o)) ps l rows) : w.heap[b]? = some o ∧ b ≠ C.P ∧ b < w.heap.size := by
  obtain ⟨lv, i, ys, h⟩ := h
  have hk := h.bx _ rfl
  exact ⟨hk.is, hk.ne, hk.lt⟩
end
end

section
open Go.RowKit

/-- What is given up with. -/
def badF (q : Int × Int) : List PanicEntry := [{ v := .iface 25 (.agg #[.int .i64 q.1, .int .i64 0, .int .i64 q.2]), recovered := false }]
theorem dec_head9 (u : Nat) : ∃ b r, Lib.decDigits u = b :: r ∧ isDig b = true := by
  obtain ⟨h1, h2, _⟩ := dec_digs u u (Nat.le_refl _)
  cases hc : Lib.decDigits u with
  | nil => exact absurd hc h2
  | cons b r =>
    rw [hc] at h1
    simp only [List.all_cons, Bool.and_eq_true] at h1
    exact ⟨b, r, rfl, h1.1⟩
theorem fld0 (a b c d : Value) (w : World) : (Instr.field 98 (.agg #[a, b, c, d]) 0).run Tryz.prog w = .ok a w := by kernel_rfl
theorem fld1 (a b c d : Value) (w : World) : (Instr.field 98 (.agg #[a, b, c, d]) 1).run Tryz.prog w = .ok b w := by kernel_rfl
theorem fld2 (a b c d : Value) (w : World) : (Instr.field 98 (.agg #[a, b, c, d]) 2).run Tryz.prog w = .ok c w := by kernel_rfl
theorem fld3 (a b c d : Value) (w : World) : (Instr.field 98 (.agg #[a, b, c, d]) 3).run Tryz.prog w = .ok d w := by kernel_rfl
section
variable {C : Cx9} {w w' : World} {d : Nat} {bx : Option (Nat × Obj)} {ps : List (List Int × Value)} {l : List Tok} {rows : List Row}
set_option maxRecDepth 100000 in
set_option maxHeartbeats 1600000 in
theorem qnext (h : GoP C w d bx ps l rows) :
    Calls Tryz.prog 84 #[.pointer (some ⟨C.P, 0, none⟩)] w fun e w' => e = .returned (.agg #[.int .i64 (tokE C.E l).kind, .int .i64 (tokE C.E l).num, .int .i64 (tokE C.E l).pos, .string ⟨⟨(tokE C.E l).text⟩⟩]) ∧ Below w.heap.size w w' := by
  obtain ⟨lv, i, ys, h⟩ := h
  have hle := h.q.le
  have hfew := h.q.few
  have hP := h.q.lt
  have c0 := h.q.c0
  have c1 := h.q.c1
  obtain ⟨g, tc, htv, hgP, hgl, t0, t1, t2, t3⟩ := h.q.tok
  rw [h.is] at t0 t1 t2 t3
  rw [htv] at c0
  obtain ⟨⟨k, n, p, t⟩, ht⟩ : ∃ x, tokE C.E l = x := ⟨_, rfl⟩
  rw [ht] at t0 t1 t2 t3 ⊢
  simp only at t0 t1 t2 t3 ⊢
  have hlt : (i : Int) < ((C.T.length + 1 : Nat) : Int) := by omega
  clear h ht htv
  go_enter Tryz.func84, Tryz.ntmps84
  go_wp2_with fail
  go_region
  go_wp2_with fail
  refine bodyPost_ret (v := .agg #[.int .i64 k, .int .i64 n, .int .i64 p, .string ⟨⟨t⟩⟩]) (by simp [results, Tryz.results84, go_sem]) rfl ⟨rfl, ?_⟩
  exact ((Below.refl _ _).alloc (Nat.le_refl _) _).drew
set_option maxRecDepth 100000 in
set_option maxHeartbeats 1600000 in
theorem qfault (h : GoP C w d bx ps l rows) (code : Int) :
    Calls Tryz.prog 85 #[.pointer (some ⟨C.P, 0, none⟩), .int .i64 code] w fun e w' => e = .returned (.agg #[.int .i64 code, .int .i64 0, .int .i64 (posOf C.E l)]) ∧ Below w.heap.size w w' := by
  rw [← tokE_pos]
  have hA := (Below.refl w.heap.size w).alloc (Nat.le_refl _) (.cells #[.int .i64 0, .int .i64 0, .int .i64 0] 25)
  have HN := Hid.out (p := Hid _) (qnext (h.below hA))
  have HA := Hid.out (p := Hid _) hA
  clear h hA
  have hfd := fld2
  go_enter Tryz.func85, Tryz.ntmps85
  go_wp2_with (go_at_call 84; refine Calls.mono HN.out ?_; rintro e w1 ⟨rfl, hb⟩; have hx := (hb.block w.heap.size (by simp)).trans (heap_alloc_new w _); have p0 := box_cell (i := 0) (u := .int .i64 0) hx rfl; have p1 := box_cell (i := 1) (u := .int .i64 0) hx rfl; have p2 := box_cell (i := 2) (u := .int .i64 0) hx rfl; have pf := (fun j => box_free (i := j) hx); have HB := Hid.out (p := Hid _) (HA.out.trans (hb.mono HA.out.size)); clear hx hb)
  refine bodyPost_ret (v := .agg #[.int .i64 code, .int .i64 0, .int .i64 (tokE C.E l).pos]) (by simp [results, Tryz.results85, go_sem, p0, p1, p2]) rfl ⟨rfl, ?_⟩
  exact ((HB.out.setCell (Nat.le_refl _) _).setCell (Nat.le_refl _) _).setCell (Nat.le_refl _) _
/-- The parser's token by its text: a word or a sign. -/
def isLit (s : List UInt8) : Prop := isWord s = true ∨ s ∈ twoL ∨ ∃ b, s = [b] ∧ b ∈ oneS
theorem lit_text {s : List UInt8} (hs : isLit s) (hl : ToksOk l) : decide ((tokE C.E l).text = s) = isTok s l := by
  have hne : s ≠ [] := by
    rintro rfl
    rcases hs with h | h | ⟨b, h, _⟩
    · revert h; decide
    · revert h; decide
    · cases h
  match l, hl with
  | [], _ => simp [tokE, endT, isTok, hne.symm]
  | t :: r, hl =>
    have ht := hl t (List.mem_cons_self ..)
    simp only [tokE, isTok]
    by_cases he : t.text = s
    · subst he
      rcases ht with ⟨h1, _, h2⟩ | ⟨h1, _, h2⟩ | ⟨h1, h2, h3, h4⟩ | ⟨h1, _, h2⟩
      · exfalso
        obtain ⟨⟨b, r, hb, hl1, hl2⟩, _, hw⟩ := h2
        rcases hs with h | h | ⟨c, h, hc⟩
        · rw [h] at hw; cases hw
        · rw [hb] at h
          simp only [twoL, List.mem_cons, List.cons.injEq, List.not_mem_nil, or_false] at h
          rcases h with h | h | h | h | h | h <;> (obtain ⟨rfl, _⟩ := h; revert hl1; decide)
        · rw [hb] at h
          simp only [List.cons.injEq] at h
          obtain ⟨rfl, _⟩ := h
          revert hl1 hc
          simp only [oneS, List.mem_cons, List.not_mem_nil, or_false]
          intro h1 h2
          rcases h2 with rfl | rfl | rfl | rfl | rfl | rfl | rfl | rfl | rfl | rfl | rfl | rfl | rfl <;> (revert h1; decide)
      · simp [h1]
      · exfalso
        obtain ⟨b, r, hb, hd⟩ := dec_head9 t.num.toNat
        rw [h4, hb] at hs
        rcases hs with h | h | ⟨c, h, hc⟩
        · obtain ⟨c, q, hc, hlt, _⟩ := word_letters h
          simp only [List.cons.injEq] at hc
          obtain ⟨rfl, _⟩ := hc
          revert hlt hd
          simp only [isLet, isDig]
          intro h5 h6
          simp at h5 h6
          omega
        · simp only [twoL, List.mem_cons, List.cons.injEq, List.not_mem_nil, or_false] at h
          rcases h with h | h | h | h | h | h <;> (obtain ⟨rfl, _⟩ := h; revert hd; decide)
        · simp only [List.cons.injEq] at h
          obtain ⟨rfl, _⟩ := h
          revert hd hc
          simp only [oneS, List.mem_cons, List.not_mem_nil, or_false]
          intro h1 h2
          rcases h2 with rfl | rfl | rfl | rfl | rfl | rfl | rfl | rfl | rfl | rfl | rfl | rfl | rfl <;> (revert h1; decide)
      · simp [h1]
    · simp [he]
end
end

section
open Go.RowKit

/-- Does one of these stand next? -/
def litB (zs : List ByteArray) (l : List Tok) : Bool := zs.any fun z => isTok z.data.toList l
section
variable {C : Cx9} {w w' : World} {d : Nat} {bx : Option (Nat × Obj)} {ps : List (List Int × Value)} {l : List Tok} {rows : List Row}
theorem has_is (zs : List ByteArray) (hlit : ∀ z, z ∈ zs → isLit z.data.toList) (hl : ToksOk l) : Lib.containsS zs ⟨⟨(tokE C.E l).text⟩⟩ = litB zs l := by
  rw [Bool.eq_iff_iff, Lib.containsS_iff]
  unfold litB
  rw [List.any_eq_true]
  constructor
  · intro h
    refine ⟨_, h, ?_⟩
    rw [← lit_text (C := C) (hlit _ h) hl]
    simp
  · rintro ⟨z, hz, h⟩
    rw [← lit_text (C := C) (hlit z hz) hl] at h
    have h2 : (tokE C.E l).text = z.data.toList := by simpa using h
    rw [h2]
    exact hz
set_option maxRecDepth 100000 in
set_option maxHeartbeats 1600000 in
theorem qis (h : GoP C w d bx ps l rows) (g n : Nat) (zs : List ByteArray) (hn : n = zs.length) (hn2 : n ≤ 100) (hz : w.heap[g]? = some (.cells (zs.map Value.string).toArray 9)) (hlit : ∀ z, z ∈ zs → isLit z.data.toList) :
    Calls Tryz.prog 81 #[.pointer (some ⟨C.P, 0, none⟩), .slice (some ⟨g, 0, none⟩) n n] w fun e w' => e = .returned (.bool (litB zs l)) ∧ Below w.heap.size w w' := by
  subst hn
  have hfw := h.fewR
  have HN := Hid.out (p := Hid _) (qnext h)
  have HI : Hid (∀ w1, Below w.heap.size w w1 → Calls Tryz.prog 110 #[.slice (some ⟨g, 0, none⟩) zs.length zs.length, .string ⟨⟨(tokE C.E l).text⟩⟩] w1 fun e w' => e = .returned (.bool (litB zs l)) ∧ w' = w1) := fun w1 hb => by
    have hg : g < w.heap.size := by
      rcases Nat.lt_or_ge g w.heap.size with h1 | h1
      · exact h1
      · rw [Array.getElem?_eq_none h1] at hz; cases hz
    have hk := Tryz.slices_Contains_string g 0 zs.length zs.length zs ⟨⟨(tokE C.E l).text⟩⟩ w1 (Nat.le_refl _) (by omega) (fun j hj => by
      refine box_cell ((hb.block g hg).trans hz) ?_
      simp [hj, List.getD_eq_getElem?_getD])
    rw [List.take_length, has_is zs hlit hfw.2.2.2] at hk
    exact hk
  have hfd := fld3
  clear h hz hlit hfw
  go_enter Tryz.func81, Tryz.ntmps81
  go_wp2_with (first
    | (go_at_call 84; refine Calls.mono HN.out ?_; rintro e w1 ⟨rfl, hb⟩; have HB := Hid.out (p := Hid _) hb; clear hb)
    | (go_at_call 110; refine Calls.mono (HI.out _ HB.out) ?_; rintro e w2 ⟨rfl, rfl⟩))
  go_ret
  exact ⟨rfl, HB.out⟩
set_option maxRecDepth 100000 in
set_option maxHeartbeats 1600000 in
theorem qopen_no (h : GoP C w 20 bx ps l rows) :
    Calls Tryz.prog 137 #[.pointer (some ⟨C.P, 0, none⟩)] w fun e w' => e = .panicked (badF (6, posOf C.E l)) ∧ FrP C w' := by
  have HF := Hid.out (p := Hid _) (qfault h 6)
  have HH := Hid.out (p := Hid _) h
  obtain ⟨lv, i, ys, h⟩ := h
  have c2 := h.q.c2
  clear h
  go_enter Tryz.func137, Tryz.ntmps137
  go_wp2_with (go_at_call 85; refine Calls.mono HF.out ?_; rintro e w1 ⟨rfl, hb⟩)
  exact ⟨rfl, rfl, HH.out.frp.below hb⟩
variable {lv : Value} {i : Nat} {ys : List (Row × Value)}
set_option maxRecDepth 100000 in
set_option maxHeartbeats 1600000 in
theorem qopen_yes (h : GpL C w d bx ps l rows lv i ys) (hd : d ≠ 20) :
    Calls Tryz.prog 137 #[.pointer (some ⟨C.P, 0, none⟩)] w fun e w' => e = .returned (.tuple #[]) ∧ w'.heap[C.P]? = some (.cells #[C.tv, .int .i64 (i : Int), .int .i64 ((d + 1 : Nat) : Int), lv] 111) ∧ Only C.P w w' := by
  have hdl := h.q.dle
  have h20 : ((d : Int) == 20) = false := by simp; omega
  have c2 := h.q.c2
  have kf := h.q.free
  have HL := Hid.out (p := Hid _) h
  clear h
  go_enter Tryz.func137, Tryz.ntmps137
  go_wp2_with fail
  go_end0
  exact ⟨rfl, heap_set9 HL.out.q.box, (Only.refl _ _).set _ _⟩
set_option maxRecDepth 100000 in
set_option maxHeartbeats 1600000 in
theorem qshut (h : GpL C w (d + 1) bx ps l rows lv i ys) :
    Calls Tryz.prog 138 #[.pointer (some ⟨C.P, 0, none⟩)] w fun e w' => e = .returned (.tuple #[]) ∧ w'.heap[C.P]? = some (.cells #[C.tv, .int .i64 (i : Int), .int .i64 (d : Int), lv] 111) ∧ Only C.P w w' := by
  have hdl := h.q.dle
  have c2 := h.q.c2
  have kf := h.q.free
  have HL := Hid.out (p := Hid _) h
  have hs : ((d + 1 : Nat) : Int) - 1 = (d : Int) := by omega
  clear h
  go_enter Tryz.func138, Tryz.ntmps138
  go_wp2_with fail
  go_end0
  have hx := heap_set9 (i := 2) (u := .int .i64 (d : Int)) HL.out.q.box
  first
    | exact ⟨rfl, hx, (Only.refl _ _).set _ _⟩
    | (refine ⟨rfl, ?_, (Only.refl _ _).set _ _⟩; rw [← hs] at hx; exact hx)
end
end

end Go.Proofs.YtggfbfjdiikaeaaGreatDoor
