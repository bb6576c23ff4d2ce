/-
  The program's parser in memory, and what a function has of its own beside it.
-/
import Derived.Test.YtclnjhffcfkihaeGreatDoorSynG
namespace Go.Proofs.YtclnjhffcfkihaeGreatDoor
open Go.RowKit

/-- What stands behind the last token. -/
def endT (E : Int) : Tok := ⟨0, 0, E, []⟩
/-- The token that is next. -/
def tokE (E : Int) : List Tok → Tok
  | [] => endT E
  | t :: _ => t
theorem tokE_pos (E : Int) (l : List Tok) : (tokE E l).pos = posOf E l := by cases l <;> rfl
/-- The program's parser in memory. -/
structure Qs (w : World) (P : Nat) (T : List Tok) (E : Int) (i d : Nat) (tv lv : Value) : Prop where
  box : w.heap[P]? = some (.cells #[tv, .int .i64 (i : Int), .int .i64 (d : Int), lv] 68)
  toks : OwnT w 0 tv (T ++ [endT E])
  apart : tv.ownBlock ≠ some P
  le : i ≤ T.length
  few : T.length ≤ 4000
  okt : ToksOk T
  dle : d ≤ 20
section
variable {w w' : World} {P : Nat} {T : List Tok} {E : Int} {i d : Nat} {tv lv : Value}
theorem Qs.c0 (h : Qs w P T E i d tv lv) : w.cell? ⟨P, 0, none⟩ = some tv := box_cell h.box rfl
theorem Qs.c1 (h : Qs w P T E i d tv lv) : w.cell? ⟨P, 1, none⟩ = some (.int .i64 (i : Int)) := box_cell h.box rfl
theorem Qs.c2 (h : Qs w P T E i d tv lv) : w.cell? ⟨P, 2, none⟩ = some (.int .i64 (d : Int)) := box_cell h.box rfl
theorem Qs.c3 (h : Qs w P T E i d tv lv) : w.cell? ⟨P, 3, none⟩ = some lv := box_cell h.box rfl
theorem Qs.free (h : Qs w P T E i d tv lv) (k : Nat) : w.frozen? ⟨P, k, none⟩ = false := box_free h.box
theorem Qs.lt (h : Qs w P T E i d tv lv) : P < w.heap.size := lt_of_cell h.c0
/-- The parser with other numbers. -/
theorem Qs.next (h : Qs w P T E i d tv lv) (ho : Only P w w') {i' d' : Nat} {lv' : Value} (hi : i' ≤ T.length) (hd : d' ≤ 20) (hb : w'.heap[P]? = some (.cells #[tv, .int .i64 (i' : Int), .int .i64 (d' : Int), lv'] 68)) : Qs w' P T E i' d' tv lv' :=
  ⟨hb, fam_keeps h.toks fun g hg => ho.block g (h.toks.lt g hg).2 fun e => h.apart (by rw [hg, e]), h.apart, hi, h.few, h.okt, hd⟩
/-- Other blocks have changed. -/
theorem Qs.but (h : Qs w P T E i d tv lv) {kb : Option Nat} (ho : But kb w w') (hP : some P ≠ kb) (ht : ∀ g, tv.ownBlock = some g → some g ≠ kb) : Qs w' P T E i d tv lv :=
  ⟨(ho.block P h.lt hP).trans h.box, own_but h.toks ho ht, h.apart, h.le, h.few, h.okt, h.dle⟩
theorem Qs.tok (h : Qs w P T E i d tv lv) : ∃ g tc, tv = .slice (some ⟨g, 0, none⟩) (T.length + 1) tc ∧ g ≠ P ∧ g < w.heap.size ∧ w.cell? ⟨g, i * 4, none⟩ = some (.int .i64 (tokE E (T.drop i)).kind) ∧ w.cell? ⟨g, i * 4 + 1, none⟩ = some (.int .i64 (tokE E (T.drop i)).num) ∧ w.cell? ⟨g, i * 4 + 2, none⟩ = some (.int .i64 (tokE E (T.drop i)).pos) ∧ w.cell? ⟨g, i * 4 + 3, none⟩ = some (.string ⟨⟨(tokE E (T.drop i)).text⟩⟩) := by
  obtain ⟨ta, tc, rfl⟩ := h.toks.form
  have hle := h.le
  obtain ⟨g, rfl, t0, t1, t2, t3⟩ := h.toks.cells (k := i) (by simp; omega)
  have ht : (T ++ [endT E]).getD i tok0 = tokE E (T.drop i) := by
    rcases Nat.lt_or_ge i T.length with h1 | h1
    · rw [getD_drop h1, tokE, List.getD_eq_getElem?_getD, List.getElem?_append_left h1, List.getD_eq_getElem?_getD]
    · have e : i = T.length := by omega
      subst e
      rw [List.drop_length, List.getD_eq_getElem?_getD, List.getElem?_append_right (Nat.le_refl _)]
      simp [tokE]
  rw [ht] at t0 t1 t2 t3
  refine ⟨g, tc, by simp, fun e => h.apart (by rw [← e]; rfl), lt_of_cell t0, t0, t1, t2, t3⟩
end
theorem Only.trans9 {P : Nat} {w W : World} (h : Only P w W) (b : Nat) (hb : w.heap.size ≤ b) (j : Nat) (u : Value) : Only P w (W.setCell ⟨b, j, none⟩ u) :=
  ⟨h.os, h.tape, h.output, by rw [set_size]; exact h.size, fun k hk hp => (Below.heap_setCell _ _ _ _ (by simp only; omega)).trans (h.block k hk hp)⟩
/-- A function's stand: the parser, its nodes, what the function has of its own. -/
structure GpL (C : Cx9) (w : World) (d : Nat) (bx : Option (Nat × Obj)) (qs : List (List Int × Value)) (l : List Tok) (rows : List Row) (lv : Value) (i : Nat) (ys : List (Row × Value)) : Prop where
  fr : FrN C.P C.w0 C.lv0 w lv
  bx : ∀ z, bx = some z → Kp C.w0 w C.P lv z
  ps : ∀ p, p ∈ qs → Kd C.w0 w C.P lv p
  q : Qs w C.P C.T C.E i d C.tv lv
  is : C.T.drop i = l
  lst : Lst w C.B C.P C.tv lv ys
  kid : ∀ x, x ∈ ys → KdAt w C.P lv x
  few : ys.length + l.length ≤ C.T.length
  map : ys.map Prod.fst = rows
  kb : KB C qs ys
structure GoP (C : Cx9) (w : World) (d : Nat) (bx : Option (Nat × Obj)) (qs : List (List Int × Value)) (l : List Tok) (rows : List Row) : Prop where
  ex : ∃ lv i ys, GpL C w d bx qs l rows lv i ys
section
variable {C : Cx9} {w w' : World} {d d' : Nat} {lv : Value} {bx : Option (Nat × Obj)} {ps : List (List Int × Value)} {l : List Tok} {rows : List Row} {i : Nat} {ys : List (Row × Value)}
theorem GpL.only (h : GpL C w d bx ps l rows lv i ys) (ho : Only C.P w w') {i' : Nat} (hi : i ≤ i') (hi2 : i' ≤ C.T.length) (hd : d' ≤ 20) (hb : w'.heap[C.P]? = some (.cells #[C.tv, .int .i64 (i' : Int), .int .i64 (d' : Int), lv] 68)) : GoP C w' d' bx ps (C.T.drop i') rows := by
  have h1 : (C.T.drop i').length ≤ l.length := by rw [← h.is]; simp; omega
  exact ⟨lv, i', ys, h.fr.trans (FrN.of ho), fun z hz => (h.bx z hz).fr (FrN.of ho), fun p hp => ⟨(h.ps p hp).kd.fr (FrN.of ho), (h.ps p hp).new⟩, h.q.next ho hi2 hd hb, rfl, h.lst.only ho, fun x hx => (h.kid x hx).fr (FrN.of ho), by have := h.few; omega, h.map, h.kb⟩
theorem GpL.below (h : GpL C w d bx ps l rows lv i ys) (hb : Below w.heap.size w w') : GpL C w' d bx ps l rows lv i ys := by
  have ho : Only C.P w w' := Only.of hb
  exact ⟨h.fr.trans (FrN.of ho), fun z hz => (h.bx z hz).fr (FrN.of ho), fun p hp => ⟨(h.ps p hp).kd.fr (FrN.of ho), (h.ps p hp).new⟩, h.q.next ho h.q.le h.q.dle ((hb.block C.P h.q.lt).trans h.q.box), h.is, h.lst.only ho, fun x hx => (h.kid x hx).fr (FrN.of ho), h.few, h.map, h.kb⟩
theorem GoP.below (h : GoP C w d bx ps l rows) (hb : Below w.heap.size w w') : GoP C w' d bx ps l rows := by
  obtain ⟨lv, i, ys, h⟩ := h
  have hx := h.only (Only.of hb) (Nat.le_refl i) h.q.le h.q.dle ((hb.block C.P h.q.lt).trans h.q.box)
  rw [h.is] at hx
  exact hx
theorem GoP.drop (h : GoP C w d bx ps l rows) : GoP C w d none [] l rows := by
  obtain ⟨lv, i, ys, h⟩ := h
  exact ⟨lv, i, ys, h.fr, fun z hz => (by cases hz), fun p hp => (by simp at hp), h.q, h.is, h.lst, h.kid, h.few, h.map, fun y hy g hg => ⟨(h.kb y hy g hg).1, fun p hp => (by simp at hp)⟩⟩
theorem GoP.fewR (h : GoP C w d bx ps l rows) : rows.length + l.length ≤ C.T.length ∧ C.T.length ≤ 4000 ∧ d ≤ 20 ∧ ToksOk l := by
  obtain ⟨lv, i, ys, h⟩ := h
  have := h.few
  refine ⟨by rw [← h.map, List.length_map]; exact this, h.q.few, h.q.dle, ?_⟩
  rw [← h.is]
  exact fun t ht => h.q.okt t (List.mem_of_mem_drop ht)
/-- Something new is written. -/
theorem Only.setn {P b : Nat} {W : World} (h : Only P w W) (hb : w.heap.size ≤ b) (j : Nat) (u : Value) : Only P w (W.setCell ⟨b, j, none⟩ u) := h.trans9 b hb j u
/-- The frame alone. -/
def FrP (C : Cx9) (w : World) : Prop := ∃ lv, FrN C.P C.w0 C.lv0 w lv
theorem GoP.frp (h : GoP C w d bx ps l rows) : FrP C w := by
  obtain ⟨lv, i, ys, h⟩ := h
  exact ⟨lv, h.fr⟩
theorem FrP.below (h : FrP C w) (hb : Below w.heap.size w w') : FrP C w' := by
  obtain ⟨lv, h⟩ := h
  exact ⟨lv, h.trans (FrN.of (Only.of hb))⟩
/-- Another call's beginning. -/
theorem GoP.lift (h : GoP C w d bx ps l rows) : ∃ C', C'.B = C.B ∧ C'.P = C.P ∧ C'.T = C.T ∧ C'.E = C.E ∧ C'.tv = C.tv ∧ C'.w0 = w ∧ GoP C' w d none [] l rows ∧ (∀ {w' : World} {d' : Nat} {bx' : Option (Nat × Obj)} {ps' : List (List Int × Value)} {l' : List Tok} {rows' : List Row}, GoP C' w' d' bx' ps' l' rows' → GoP C w' d' bx ps l' rows') ∧ ∀ {w'}, FrP C' w' → FrP C w' := by
  obtain ⟨lv, i, ys, h⟩ := h
  refine ⟨{ C with w0 := w, lv0 := lv, K := fun g => ∃ y, y ∈ ys ∧ y.2.ownBlock = some g }, rfl, rfl, rfl, rfl, rfl, rfl, ?_, fun {w' d' bx' ps' l' rows'} k => ?_, fun {w'} k => ?_⟩
  · exact ⟨lv, i, ys, FrN.of (Only.refl _ _), fun z hz => (by cases hz), fun p hp => (by simp at hp), h.q, h.is, h.lst, h.kid, h.few, h.map, fun y hy g hg => ⟨Or.inl ⟨y, hy, hg⟩, fun p hp => (by simp at hp)⟩⟩
  · obtain ⟨lv', i', zs, k⟩ := k
    refine ⟨lv', i', zs, h.fr.trans k.fr, fun z hz => (h.bx z hz).fr k.fr, fun p hp => ⟨(h.ps p hp).kd.fr k.fr, (h.ps p hp).new⟩, k.q, k.is, k.lst, k.kid, k.few, k.map, fun z hz g hg => ?_⟩
    rcases (k.kb z hz g hg).1 with ⟨y, hy, hyg⟩ | hn
    · exact h.kb y hy g hyg
    · refine ⟨Or.inr (Nat.le_trans h.fr.size hn), fun p hp e => ?_⟩
      have h1 := ((h.ps p hp).kd.own.lt g e).2
      exact absurd hn (by simp only; omega)
  · obtain ⟨lv', k⟩ := k
    exact ⟨lv', h.fr.trans k⟩
/-- A node of one's own. -/
theorem GoP.box (h : GoP C w d none ps l rows) (o : Obj) : GoP C (w.alloc o) d (some (w.heap.size, o)) ps l rows := by
  have h2 := h.below ((Below.refl _ _).alloc (Nat.le_refl _) o)
  obtain ⟨lv, i, ys, h0⟩ := h
  have hb := (Below.refl w.heap.size w).alloc (Nat.le_refl _) o
  have ho : Only C.P w (w.alloc o) := Only.of hb
  have hl : ∀ g, lv.ownBlock = some g → g < w.heap.size := fun g hg => (h0.lst.own.lt g hg).2
  have hP := h0.q.lt
  refine ⟨lv, i, ys, h0.fr.trans (FrN.of ho), fun z hz => ?_, fun p hp => ⟨(h0.ps p hp).kd.fr (FrN.of ho), (h0.ps p hp).new⟩, h0.q.next ho h0.q.le h0.q.dle ((hb.block C.P hP).trans h0.q.box), h0.is, h0.lst.only ho, fun x hx => (h0.kid x hx).fr (FrN.of ho), h0.few, h0.map, h0.kb⟩
  cases hz
  refine ⟨heap_alloc_new _ _, fun e => ?_, fun e => ?_, h0.fr.size⟩
  · simp only at e; omega
  · have := hl _ e; simp only at this; omega
/-- Kids of one's own. -/
theorem GoP.kids (h : GoP C w d bx ps l rows) (ks : List Int) (n : Nat) (hn : n = ks.length) (h1 : 1 ≤ n) (cs : Array Value) (hcs : cs = (ks.map fun k => Value.int .i64 k).toArray) (hk : n ≤ 100) (g : Nat) (hg : g = w.heap.size) : GoP C (w.alloc (.cells cs 3)) d bx ((ks, .slice (some ⟨g, 0, none⟩) n n) :: ps) l rows := by
  subst hcs hn hg
  have hb := (Below.refl w.heap.size w).alloc (Nat.le_refl _) (Obj.cells (ks.map fun k => Value.int .i64 k).toArray 3)
  have ho : Only C.P w (w.alloc (.cells (ks.map fun k => Value.int .i64 k).toArray 3)) := Only.of hb
  obtain ⟨lv, i, ys, h0⟩ := h
  have hl : ∀ g, lv.ownBlock = some g → g < w.heap.size := fun g hg => (h0.lst.own.lt g hg).2
  have hP := h0.q.lt
  refine ⟨lv, i, ys, h0.fr.trans (FrN.of ho), fun z hz => (h0.bx z hz).fr (FrN.of ho), fun p hp => ?_, h0.q.next ho h0.q.le h0.q.dle ((hb.block C.P hP).trans h0.q.box), h0.is, h0.lst.only ho, fun x hx => (h0.kid x hx).fr (FrN.of ho), h0.few, h0.map, fun y hy g hg => ⟨(h0.kb y hy g hg).1, fun p hp => ?_⟩⟩
  · rcases List.mem_cons.1 hp with rfl | hp
    · refine ⟨⟨?_, ?_, ?_⟩, ?_⟩
      · refine ⟨by simp, Or.inr ⟨w.heap.size, ks.length, (ks.map fun k => Value.int .i64 k).toArray, rfl, Nat.zero_le _, heap_alloc_new _ _, Nat.le_refl _, ?_, by simp, by simp; exact List.take_of_length_le (by simp)⟩⟩
        unfold maxLen; omega
      · intro e
        have : w.heap.size = C.P := by simpa [Value.ownBlock] using e
        omega
      · intro g hg e
        have : w.heap.size = g := by simpa [Value.ownBlock] using hg
        have := hl g e
        omega
      · intro g hg
        have : w.heap.size = g := by simpa [Value.ownBlock] using hg
        have := h0.fr.size
        omega
    · exact ⟨(h0.ps p hp).kd.fr (FrN.of ho), (h0.ps p hp).new⟩
  · rcases List.mem_cons.1 hp with rfl | hp
    · have := ((h0.kid y hy).own.lt g hg).2
      intro e
      have : w.heap.size = g := by simpa [Value.ownBlock] using e
      omega
    · exact (h0.kb y hy g hg).2 p hp
theorem GoP.pend0 (h : GoP C w d bx ps l rows) : GoP C w d bx (([], nilV) :: ps) l rows := by
  obtain ⟨lv, i, ys, h⟩ := h
  refine ⟨lv, i, ys, h.fr, h.bx, fun p hp => ?_, h.q, h.is, h.lst, h.kid, h.few, h.map, fun y hy g hg => ⟨(h.kb y hy g hg).1, fun p hp => ?_⟩⟩
  · rcases List.mem_cons.1 hp with rfl | hp
    · exact ⟨kd_none _ _ _ _ _ _ _, fun g hg => by simp [Value.ownBlock] at hg⟩
    · exact h.ps p hp
  · rcases List.mem_cons.1 hp with rfl | hp
    · simp [Value.ownBlock]
    · exact (h.kb y hy g hg).2 p hp
/-- A cell of one's own node is set. -/
theorem GoP.setb {b : Nat} {cs : Array Value} (h : GoP C w d (some (b, .cells cs 53)) ps l rows) (j : Nat) (u : Value) : GoP C (w.setCell ⟨b, j, none⟩ u) d (some (b, .cells (cs.setIfInBounds j u) 53)) ps l rows := by
  obtain ⟨lv, i, ys, h⟩ := h
  have hk := h.bx _ rfl
  have ho : Only b w (w.setCell ⟨b, j, none⟩ u) := (Only.refl _ _).set _ _
  have hbut : But (some b) w (w.setCell ⟨b, j, none⟩ u) := ⟨rfl, rfl, rfl, ho.size, fun k hk1 hk2 => ho.block k hk1 fun e => hk2 (by rw [e])⟩
  have hne : b ≠ C.P := hk.ne
  refine ⟨lv, i, ys, ⟨h.fr.os, h.fr.tape, h.fr.output, by rw [set_size]; exact h.fr.size, fun k hk1 hk2 hk3 => ?_, h.fr.own⟩, fun z hz => ?_, fun p hp => ⟨kd_off (h.ps p hp).kd ho hk.is, (h.ps p hp).new⟩, h.q.but hbut (fun e => hne (Option.some.inj e).symm) (fun g hg e => own_apart h.q.toks hk.is (by decide) (by rw [hg, e])), h.is, lst_off h.lst ho hk.far, fun x hx => kd_off (h.kid x hx) ho hk.is, h.few, h.map, h.kb⟩
  · have := hk.new
    simp only at this
    exact (ho.block k (Nat.lt_of_lt_of_le hk1 h.fr.size) (by omega)).trans (h.fr.block k hk1 hk2 hk3)
  · cases hz
    exact ⟨heap_set9 hk.is, hk.ne, hk.far, hk.new⟩
theorem GoP.set0 {b : Nat} {a0 a1 a2 a3 a4 : Value} (h : GoP C w d (some (b, .cells #[a0, a1, a2, a3, a4] 53)) ps l rows) (u : Value) : GoP C (w.setCell ⟨b, 0, none⟩ u) d (some (b, .cells #[u, a1, a2, a3, a4] 53)) ps l rows := h.setb 0 u
theorem GoP.set1 {b : Nat} {a0 a1 a2 a3 a4 : Value} (h : GoP C w d (some (b, .cells #[a0, a1, a2, a3, a4] 53)) ps l rows) (u : Value) : GoP C (w.setCell ⟨b, 1, none⟩ u) d (some (b, .cells #[a0, u, a2, a3, a4] 53)) ps l rows := h.setb 1 u
theorem GoP.set3 {b : Nat} {a0 a1 a2 a3 a4 : Value} (h : GoP C w d (some (b, .cells #[a0, a1, a2, a3, a4] 53)) ps l rows) (u : Value) : GoP C (w.setCell ⟨b, 3, none⟩ u) d (some (b, .cells #[a0, a1, a2, u, a4] 53)) ps l rows := h.setb 3 u
theorem GoP.set4 {b : Nat} {a0 a1 a2 a3 a4 : Value} (h : GoP C w d (some (b, .cells #[a0, a1, a2, a3, a4] 53)) ps l rows) (u : Value) : GoP C (w.setCell ⟨b, 4, none⟩ u) d (some (b, .cells #[a0, a1, a2, a3, u] 53)) ps l rows := h.setb 4 u
theorem GoP.bxc {b : Nat} {o : Obj} (h : GoP C w d (some (b, o)) ps l rows) : w.heap[b]? = some o ∧ b ≠ C.P ∧ b < w.heap.size := by
  obtain ⟨lv, i, ys, h⟩ := h
  have hk := h.bx _ rfl
  exact ⟨hk.is, hk.ne, hk.lt⟩
end

end Go.Proofs.YtclnjhffcfkihaeGreatDoor
