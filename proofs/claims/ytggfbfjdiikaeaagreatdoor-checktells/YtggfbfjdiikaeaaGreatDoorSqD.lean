/-
  The program's parser: a token that is taken, a node that is added.
-/
import Derived.Test.YtggfbfjdiikaeaaGreatDoorSqA
namespace Go.Proofs.YtggfbfjdiikaeaaGreatDoor
open Go.RowKit

theorem box4 {w : World} {b : Nat} {t : TypeId} {a0 a1 a2 a3 : Value} (h : w.heap[b]? = some (.cells #[a0, a1, a2, a3] t)) : w.cell? ⟨b, 0, none⟩ = some a0 ∧ w.cell? ⟨b, 1, none⟩ = some a1 ∧ w.cell? ⟨b, 2, none⟩ = some a2 ∧ w.cell? ⟨b, 3, none⟩ = some a3 ∧ ∀ j, w.frozen? ⟨b, j, none⟩ = false :=
  ⟨box_cell h rfl, box_cell h rfl, box_cell h rfl, box_cell h rfl, fun _ => box_free h⟩
section
variable {C : Cx9} {w w' : World} {d : Nat} {bx : Option (Nat × Obj)} {ps : List (List Int × Value)} {l : List Tok} {rows : List Row} {lv : Value} {i : Nat} {ys : List (Row × Value)}
theorem GoP.cells (h : GoP C w d bx ps l rows) : ∃ i : Nat, w.cell? ⟨C.P, 1, none⟩ = some (.int .i64 (i : Int)) ∧ i ≤ 4000 ∧ (∀ k, w.frozen? ⟨C.P, k, none⟩ = false) ∧ C.P < w.heap.size := by
  obtain ⟨lv, i, ys, h⟩ := h
  exact ⟨i, h.q.c1, Nat.le_trans h.q.le h.q.few, h.q.free, h.q.lt⟩
set_option maxRecDepth 100000 in
set_option maxHeartbeats 1600000 in
/-- A token that opens and shuts nothing. -/
theorem qtake {t : Tok} {r : List Tok} (h : GpL C w d bx ps (t :: r) rows lv i ys) (h1 : t.text ≠ [40]) (h2 : t.text ≠ [123]) (h3 : t.text ≠ [41]) (h4 : t.text ≠ [125]) :
    Calls Tryz.prog 111 #[.pointer (some ⟨C.P, 0, none⟩)] w fun e w' => e = .returned (.agg #[.int .i64 t.kind, .int .i64 t.num, .int .i64 t.pos, .string ⟨⟨t.text⟩⟩]) ∧ w'.heap[C.P]? = some (.cells #[C.tv, .int .i64 ((i + 1 : Nat) : Int), .int .i64 ((d : Nat) : Int), lv] 111) ∧ Only C.P w w' := by
  have hA := (Below.refl w.heap.size w).alloc (Nat.le_refl _) (.cells #[.int .i64 0, .int .i64 0, .int .i64 0, .string ⟨#[]⟩] 98)
  have HN := Hid.out (p := Hid _) (qnext ⟨lv, i, ys, h.below hA⟩)
  have HA := Hid.out (p := Hid _) hA
  have HL := Hid.out (p := Hid _) h
  have hPw := h.q.lt
  have hle := h.q.le
  have hfew := h.q.few
  have hdl := h.q.dle
  have e1 : (t.text == [40]) = false := by simpa using h1
  have e2 : (t.text == [123]) = false := by simpa using h2
  have e3 : (t.text == [41]) = false := by simpa using h3
  have e4 : (t.text == [125]) = false := by simpa using h4
  clear h1 h2 h3 h4
  clear h hA
  go_enter Tryz.func111, Tryz.ntmps111
  go_wp2_with fail
  refine Calls.mono HN.out ?_
  rintro e w1 ⟨rfl, hb⟩
  simp only [tokE]
  have hx := (hb.block w.heap.size (by simp)).trans (heap_alloc_new w _)
  have hb1 : Below w.heap.size w w1 := HA.out.trans (hb.mono HA.out.size)
  obtain ⟨p0, p1, p2, p3, pf⟩ := box4 hx
  have hl1 : w.heap.size < w1.heap.size := lt_of_cell p0
  have hg1 := HL.out.below hb1
  have c1 := hg1.q.c1
  have kf := hg1.q.free
  have hP1 := hg1.q.lt
  have hne : ¬ w.heap.size = C.P := by omega
  have hne2 : ¬ C.P = w.heap.size := by omega
  have HG := Hid.out (p := Hid _) hg1
  have HB := Hid.out (p := Hid _) hb1
  have HX := Hid.out (p := Hid _) hx
  clear hg1 hb hx hb1 HN
  go_wp2_with fail
  refine bodyPost_ret (v := .agg #[.int .i64 t.kind, .int .i64 t.num, .int .i64 t.pos, .string ⟨⟨t.text⟩⟩]) (by simp [results, Tryz.results111, go_sem, p0, p1, p2, p3, hl1]) rfl ?_
  have ho := (((((((Only.of HB.out : Only C.P w w1).set 1 (.int .i64 ((i : Int) + 1))).setn (Nat.le_refl _) 0 (.int .i64 t.kind)).setn (Nat.le_refl _) 1 (.int .i64 t.num)).setn (Nat.le_refl _) 2 (.int .i64 t.pos)).setn (Nat.le_refl _) 3 (.string ⟨⟨t.text⟩⟩)).alloc (.cells #[.int .i64 t.kind, .int .i64 t.num, .int .i64 t.pos, .string ⟨⟨t.text⟩⟩] 98))
  have hbx := box_later ((Below.heap_setCell _ ⟨w.heap.size, 3, none⟩ (.string ⟨⟨t.text⟩⟩) C.P hne2).trans ((Below.heap_setCell _ ⟨w.heap.size, 2, none⟩ (.int .i64 t.pos) C.P hne2).trans ((Below.heap_setCell _ ⟨w.heap.size, 1, none⟩ (.int .i64 t.num) C.P hne2).trans ((Below.heap_setCell _ ⟨w.heap.size, 0, none⟩ (.int .i64 t.kind) C.P hne2).trans (heap_set9 (i := 1) (u := .int .i64 ((i : Int) + 1)) HG.out.q.box))))) (.cells #[.int .i64 t.kind, .int .i64 t.num, .int .i64 t.pos, .string ⟨⟨t.text⟩⟩] 98)
  exact ⟨rfl, hbx, ho⟩
set_option maxRecDepth 100000 in
set_option maxHeartbeats 1600000 in
/-- A token that opens. -/
theorem qtake_oround {t : Tok} {r : List Tok} (h : GpL C w d bx ps (t :: r) rows lv i ys) (ht : t.text = [40]) (hd20 : d ≠ 20) :
    Calls Tryz.prog 111 #[.pointer (some ⟨C.P, 0, none⟩)] w fun e w' => e = .returned (.agg #[.int .i64 t.kind, .int .i64 t.num, .int .i64 t.pos, .string ⟨⟨t.text⟩⟩]) ∧ w'.heap[C.P]? = some (.cells #[C.tv, .int .i64 ((i + 1 : Nat) : Int), .int .i64 (((d + 1) : Nat) : Int), lv] 111) ∧ Only C.P w w' := by
  have hA := (Below.refl w.heap.size w).alloc (Nat.le_refl _) (.cells #[.int .i64 0, .int .i64 0, .int .i64 0, .string ⟨#[]⟩] 98)
  have HN := Hid.out (p := Hid _) (qnext ⟨lv, i, ys, h.below hA⟩)
  have HA := Hid.out (p := Hid _) hA
  have HL := Hid.out (p := Hid _) h
  have hPw := h.q.lt
  have hle := h.q.le
  have hfew := h.q.few
  have hdl := h.q.dle
  have e1 : (t.text == [40]) = true := by rw [ht]; decide
  have e2 : (t.text == [123]) = false := by rw [ht]; decide
  have e3 : (t.text == [41]) = false := by rw [ht]; decide
  have e4 : (t.text == [125]) = false := by rw [ht]; decide
  clear ht
  clear h hA
  go_enter Tryz.func111, Tryz.ntmps111
  go_wp2_with fail
  refine Calls.mono HN.out ?_
  rintro e w1 ⟨rfl, hb⟩
  simp only [tokE]
  have hx := (hb.block w.heap.size (by simp)).trans (heap_alloc_new w _)
  have hb1 : Below w.heap.size w w1 := HA.out.trans (hb.mono HA.out.size)
  obtain ⟨p0, p1, p2, p3, pf⟩ := box4 hx
  have hl1 : w.heap.size < w1.heap.size := lt_of_cell p0
  have hg1 := HL.out.below hb1
  have c1 := hg1.q.c1
  have kf := hg1.q.free
  have hP1 := hg1.q.lt
  have hne : ¬ w.heap.size = C.P := by omega
  have hne2 : ¬ C.P = w.heap.size := by omega
  have HG := Hid.out (p := Hid _) hg1
  have HB := Hid.out (p := Hid _) hb1
  have HX := Hid.out (p := Hid _) hx
  clear hg1 hb hx hb1 HN c1 kf
  go_wp2_with fail
  have hal := (Below.refl w1.heap.size w1).alloc (Nat.le_refl _) (.cells #[.int .i64 t.kind, .int .i64 t.num, .int .i64 t.pos, .string ⟨⟨t.text⟩⟩] 98)
  refine Calls.mono (qopen_yes (HG.out.below hal) hd20) ?_
  rintro e w2 ⟨rfl, hP2, ho2⟩
  have c1 := box_cell (i := 1) (u := .int .i64 (i : Int)) hP2 rfl
  have kf := fun j => box_free (i := j) hP2
  have hy2 := (ho2.block w1.heap.size (by simp) (by omega)).trans (heap_alloc_new w1 _)
  obtain ⟨y0, y1, y2, y3, -⟩ := box4 hy2
  have hx2 := (ho2.block w.heap.size (by simp; omega) (by omega)).trans (box_later HX.out _)
  obtain ⟨q0, q1, q2, q3, qf⟩ := box4 hx2
  have hyP : ¬ w1.heap.size = C.P := by omega
  have hyP2 : ¬ C.P = w1.heap.size := by omega
  have hyw : ¬ w1.heap.size = w.heap.size := by omega
  have hyw2 : ¬ w.heap.size = w1.heap.size := by omega
  have HO2 : Hid (Only C.P w w2) := ((Only.of HB.out : Only C.P w w1).alloc _).trans ho2
  have HP2 := Hid.out (p := Hid _) hP2
  clear p0 p1 p2 p3 pf hal hP2 ho2 hy2 hx2
  go_wp2_with fail
  refine bodyPost_ret (v := .agg #[.int .i64 t.kind, .int .i64 t.num, .int .i64 t.pos, .string ⟨⟨t.text⟩⟩]) (by simp [results, Tryz.results111, go_sem, q0, q1, q2, q3]) rfl ?_
  have ho := (((((HO2.out.set 1 (.int .i64 ((i : Int) + 1))).setn (Nat.le_refl _) 0 (.int .i64 t.kind)).setn (Nat.le_refl _) 1 (.int .i64 t.num)).setn (Nat.le_refl _) 2 (.int .i64 t.pos)).setn (Nat.le_refl _) 3 (.string ⟨⟨t.text⟩⟩))
  have hbx := ((Below.heap_setCell _ ⟨w.heap.size, 3, none⟩ (.string ⟨⟨t.text⟩⟩) C.P hne2).trans ((Below.heap_setCell _ ⟨w.heap.size, 2, none⟩ (.int .i64 t.pos) C.P hne2).trans ((Below.heap_setCell _ ⟨w.heap.size, 1, none⟩ (.int .i64 t.num) C.P hne2).trans ((Below.heap_setCell _ ⟨w.heap.size, 0, none⟩ (.int .i64 t.kind) C.P hne2).trans (heap_set9 (i := 1) (u := .int .i64 ((i : Int) + 1)) HP2.out)))))
  exact ⟨rfl, hbx, ho⟩
set_option maxRecDepth 100000 in
set_option maxHeartbeats 1600000 in
/-- A token that shuts. -/
theorem qtake_sround {t : Tok} {r : List Tok} (h : GpL C w (d + 1) bx ps (t :: r) rows lv i ys) (ht : t.text = [41]) :
    Calls Tryz.prog 111 #[.pointer (some ⟨C.P, 0, none⟩)] w fun e w' => e = .returned (.agg #[.int .i64 t.kind, .int .i64 t.num, .int .i64 t.pos, .string ⟨⟨t.text⟩⟩]) ∧ w'.heap[C.P]? = some (.cells #[C.tv, .int .i64 ((i + 1 : Nat) : Int), .int .i64 ((d : Nat) : Int), lv] 111) ∧ Only C.P w w' := by
  have hA := (Below.refl w.heap.size w).alloc (Nat.le_refl _) (.cells #[.int .i64 0, .int .i64 0, .int .i64 0, .string ⟨#[]⟩] 98)
  have HN := Hid.out (p := Hid _) (qnext ⟨lv, i, ys, h.below hA⟩)
  have HA := Hid.out (p := Hid _) hA
  have HL := Hid.out (p := Hid _) h
  have hPw := h.q.lt
  have hle := h.q.le
  have hfew := h.q.few
  have hdl := h.q.dle
  have e1 : (t.text == [40]) = false := by rw [ht]; decide
  have e2 : (t.text == [123]) = false := by rw [ht]; decide
  have e3 : (t.text == [41]) = true := by rw [ht]; decide
  have e4 : (t.text == [125]) = false := by rw [ht]; decide
  clear ht
  clear h hA
  go_enter Tryz.func111, Tryz.ntmps111
  go_wp2_with fail
  refine Calls.mono HN.out ?_
  rintro e w1 ⟨rfl, hb⟩
  simp only [tokE]
  have hx := (hb.block w.heap.size (by simp)).trans (heap_alloc_new w _)
  have hb1 : Below w.heap.size w w1 := HA.out.trans (hb.mono HA.out.size)
  obtain ⟨p0, p1, p2, p3, pf⟩ := box4 hx
  have hl1 : w.heap.size < w1.heap.size := lt_of_cell p0
  have hg1 := HL.out.below hb1
  have c1 := hg1.q.c1
  have kf := hg1.q.free
  have hP1 := hg1.q.lt
  have hne : ¬ w.heap.size = C.P := by omega
  have hne2 : ¬ C.P = w.heap.size := by omega
  have HG := Hid.out (p := Hid _) hg1
  have HB := Hid.out (p := Hid _) hb1
  have HX := Hid.out (p := Hid _) hx
  clear hg1 hb hx hb1 HN c1 kf
  go_wp2_with fail
  have hal := (Below.refl w1.heap.size w1).alloc (Nat.le_refl _) (.cells #[.int .i64 t.kind, .int .i64 t.num, .int .i64 t.pos, .string ⟨⟨t.text⟩⟩] 98)
  refine Calls.mono (qshut (HG.out.below hal)) ?_
  rintro e w2 ⟨rfl, hP2, ho2⟩
  have c1 := box_cell (i := 1) (u := .int .i64 (i : Int)) hP2 rfl
  have kf := fun j => box_free (i := j) hP2
  have hy2 := (ho2.block w1.heap.size (by simp) (by omega)).trans (heap_alloc_new w1 _)
  obtain ⟨y0, y1, y2, y3, -⟩ := box4 hy2
  have hx2 := (ho2.block w.heap.size (by simp; omega) (by omega)).trans (box_later HX.out _)
  obtain ⟨q0, q1, q2, q3, qf⟩ := box4 hx2
  have hyP : ¬ w1.heap.size = C.P := by omega
  have hyP2 : ¬ C.P = w1.heap.size := by omega
  have hyw : ¬ w1.heap.size = w.heap.size := by omega
  have hyw2 : ¬ w.heap.size = w1.heap.size := by omega
  have HO2 : Hid (Only C.P w w2) := ((Only.of HB.out : Only C.P w w1).alloc _).trans ho2
  have HP2 := Hid.out (p := Hid _) hP2
  clear p0 p1 p2 p3 pf hal hP2 ho2 hy2 hx2
  go_wp2_with fail
  refine bodyPost_ret (v := .agg #[.int .i64 t.kind, .int .i64 t.num, .int .i64 t.pos, .string ⟨⟨t.text⟩⟩]) (by simp [results, Tryz.results111, go_sem, q0, q1, q2, q3]) rfl ?_
  have ho := (((((HO2.out.set 1 (.int .i64 ((i : Int) + 1))).setn (Nat.le_refl _) 0 (.int .i64 t.kind)).setn (Nat.le_refl _) 1 (.int .i64 t.num)).setn (Nat.le_refl _) 2 (.int .i64 t.pos)).setn (Nat.le_refl _) 3 (.string ⟨⟨t.text⟩⟩))
  have hbx := ((Below.heap_setCell _ ⟨w.heap.size, 3, none⟩ (.string ⟨⟨t.text⟩⟩) C.P hne2).trans ((Below.heap_setCell _ ⟨w.heap.size, 2, none⟩ (.int .i64 t.pos) C.P hne2).trans ((Below.heap_setCell _ ⟨w.heap.size, 1, none⟩ (.int .i64 t.num) C.P hne2).trans ((Below.heap_setCell _ ⟨w.heap.size, 0, none⟩ (.int .i64 t.kind) C.P hne2).trans (heap_set9 (i := 1) (u := .int .i64 ((i : Int) + 1)) HP2.out)))))
  exact ⟨rfl, hbx, ho⟩
set_option maxRecDepth 100000 in
set_option maxHeartbeats 1600000 in
/-- A token that opens too much. -/
theorem qtake_dround {t : Tok} {r : List Tok} (h : GoP C w 20 bx ps (t :: r) rows) (ht : t.text = [40]) :
    Calls Tryz.prog 111 #[.pointer (some ⟨C.P, 0, none⟩)] w fun e w' => e = .panicked (badF (6, t.pos)) ∧ FrP C w' := by
  have hA := (Below.refl w.heap.size w).alloc (Nat.le_refl _) (.cells #[.int .i64 0, .int .i64 0, .int .i64 0, .string ⟨#[]⟩] 98)
  have HN := Hid.out (p := Hid _) (qnext (h.below hA))
  have HH := Hid.out (p := Hid _) (h.below hA)
  have e1 : (t.text == [40]) = true := by rw [ht]; decide
  have e2 : (t.text == [123]) = false := by rw [ht]; decide
  have e3 : (t.text == [41]) = false := by rw [ht]; decide
  have e4 : (t.text == [125]) = false := by rw [ht]; decide
  clear h hA ht
  go_enter Tryz.func111, Tryz.ntmps111
  go_wp2_with fail
  refine Calls.mono HN.out ?_
  rintro e w1 ⟨rfl, hb⟩
  simp only [tokE]
  have HG := Hid.out (p := Hid _) (HH.out.below hb)
  clear hb HN HH
  go_wp2_with fail
  refine Calls.mono (qopen_no (HG.out.below ((Below.refl _ _).alloc (Nat.le_refl _) _))) ?_
  rintro e w2 ⟨rfl, hf⟩
  exact ⟨rfl, rfl, hf⟩
set_option maxRecDepth 100000 in
set_option maxHeartbeats 1600000 in
/-- A token that opens. -/
theorem qtake_ocurly {t : Tok} {r : List Tok} (h : GpL C w d bx ps (t :: r) rows lv i ys) (ht : t.text = [123]) (hd20 : d ≠ 20) :
    Calls Tryz.prog 111 #[.pointer (some ⟨C.P, 0, none⟩)] w fun e w' => e = .returned (.agg #[.int .i64 t.kind, .int .i64 t.num, .int .i64 t.pos, .string ⟨⟨t.text⟩⟩]) ∧ w'.heap[C.P]? = some (.cells #[C.tv, .int .i64 ((i + 1 : Nat) : Int), .int .i64 (((d + 1) : Nat) : Int), lv] 111) ∧ Only C.P w w' := by
  have hA := (Below.refl w.heap.size w).alloc (Nat.le_refl _) (.cells #[.int .i64 0, .int .i64 0, .int .i64 0, .string ⟨#[]⟩] 98)
  have HN := Hid.out (p := Hid _) (qnext ⟨lv, i, ys, h.below hA⟩)
  have HA := Hid.out (p := Hid _) hA
  have HL := Hid.out (p := Hid _) h
  have hPw := h.q.lt
  have hle := h.q.le
  have hfew := h.q.few
  have hdl := h.q.dle
  have e1 : (t.text == [40]) = false := by rw [ht]; decide
  have e2 : (t.text == [123]) = true := by rw [ht]; decide
  have e3 : (t.text == [41]) = false := by rw [ht]; decide
  have e4 : (t.text == [125]) = false := by rw [ht]; decide
  clear ht
  clear h hA
  go_enter Tryz.func111, Tryz.ntmps111
  go_wp2_with fail
  refine Calls.mono HN.out ?_
  rintro e w1 ⟨rfl, hb⟩
  simp only [tokE]
  have hx := (hb.block w.heap.size (by simp)).trans (heap_alloc_new w _)
  have hb1 : Below w.heap.size w w1 := HA.out.trans (hb.mono HA.out.size)
  obtain ⟨p0, p1, p2, p3, pf⟩ := box4 hx
  have hl1 : w.heap.size < w1.heap.size := lt_of_cell p0
  have hg1 := HL.out.below hb1
  have c1 := hg1.q.c1
  have kf := hg1.q.free
  have hP1 := hg1.q.lt
  have hne : ¬ w.heap.size = C.P := by omega
  have hne2 : ¬ C.P = w.heap.size := by omega
  have HG := Hid.out (p := Hid _) hg1
  have HB := Hid.out (p := Hid _) hb1
  have HX := Hid.out (p := Hid _) hx
  clear hg1 hb hx hb1 HN c1 kf
  go_wp2_with fail
  have hal := (Below.refl w1.heap.size w1).alloc (Nat.le_refl _) (.cells #[.int .i64 t.kind, .int .i64 t.num, .int .i64 t.pos, .string ⟨⟨t.text⟩⟩] 98)
  refine Calls.mono (qopen_yes (HG.out.below hal) hd20) ?_
  rintro e w2 ⟨rfl, hP2, ho2⟩
  have c1 := box_cell (i := 1) (u := .int .i64 (i : Int)) hP2 rfl
  have kf := fun j => box_free (i := j) hP2
  have hy2 := (ho2.block w1.heap.size (by simp) (by omega)).trans (heap_alloc_new w1 _)
  obtain ⟨y0, y1, y2, y3, -⟩ := box4 hy2
  have hx2 := (ho2.block w.heap.size (by simp; omega) (by omega)).trans (box_later HX.out _)
  obtain ⟨q0, q1, q2, q3, qf⟩ := box4 hx2
  have hyP : ¬ w1.heap.size = C.P := by omega
  have hyP2 : ¬ C.P = w1.heap.size := by omega
  have hyw : ¬ w1.heap.size = w.heap.size := by omega
  have hyw2 : ¬ w.heap.size = w1.heap.size := by omega
  have HO2 : Hid (Only C.P w w2) := ((Only.of HB.out : Only C.P w w1).alloc _).trans ho2
  have HP2 := Hid.out (p := Hid _) hP2
  clear p0 p1 p2 p3 pf hal hP2 ho2 hy2 hx2
  go_wp2_with fail
  refine bodyPost_ret (v := .agg #[.int .i64 t.kind, .int .i64 t.num, .int .i64 t.pos, .string ⟨⟨t.text⟩⟩]) (by simp [results, Tryz.results111, go_sem, q0, q1, q2, q3]) rfl ?_
  have ho := (((((HO2.out.set 1 (.int .i64 ((i : Int) + 1))).setn (Nat.le_refl _) 0 (.int .i64 t.kind)).setn (Nat.le_refl _) 1 (.int .i64 t.num)).setn (Nat.le_refl _) 2 (.int .i64 t.pos)).setn (Nat.le_refl _) 3 (.string ⟨⟨t.text⟩⟩))
  have hbx := ((Below.heap_setCell _ ⟨w.heap.size, 3, none⟩ (.string ⟨⟨t.text⟩⟩) C.P hne2).trans ((Below.heap_setCell _ ⟨w.heap.size, 2, none⟩ (.int .i64 t.pos) C.P hne2).trans ((Below.heap_setCell _ ⟨w.heap.size, 1, none⟩ (.int .i64 t.num) C.P hne2).trans ((Below.heap_setCell _ ⟨w.heap.size, 0, none⟩ (.int .i64 t.kind) C.P hne2).trans (heap_set9 (i := 1) (u := .int .i64 ((i : Int) + 1)) HP2.out)))))
  exact ⟨rfl, hbx, ho⟩
set_option maxRecDepth 100000 in
set_option maxHeartbeats 1600000 in
/-- A token that shuts. -/
theorem qtake_scurly {t : Tok} {r : List Tok} (h : GpL C w (d + 1) bx ps (t :: r) rows lv i ys) (ht : t.text = [125]) :
    Calls Tryz.prog 111 #[.pointer (some ⟨C.P, 0, none⟩)] w fun e w' => e = .returned (.agg #[.int .i64 t.kind, .int .i64 t.num, .int .i64 t.pos, .string ⟨⟨t.text⟩⟩]) ∧ w'.heap[C.P]? = some (.cells #[C.tv, .int .i64 ((i + 1 : Nat) : Int), .int .i64 ((d : Nat) : Int), lv] 111) ∧ Only C.P w w' := by
  have hA := (Below.refl w.heap.size w).alloc (Nat.le_refl _) (.cells #[.int .i64 0, .int .i64 0, .int .i64 0, .string ⟨#[]⟩] 98)
  have HN := Hid.out (p := Hid _) (qnext ⟨lv, i, ys, h.below hA⟩)
  have HA := Hid.out (p := Hid _) hA
  have HL := Hid.out (p := Hid _) h
  have hPw := h.q.lt
  have hle := h.q.le
  have hfew := h.q.few
  have hdl := h.q.dle
  have e1 : (t.text == [40]) = false := by rw [ht]; decide
  have e2 : (t.text == [123]) = false := by rw [ht]; decide
  have e3 : (t.text == [41]) = false := by rw [ht]; decide
  have e4 : (t.text == [125]) = true := by rw [ht]; decide
  clear ht
  clear h hA
  go_enter Tryz.func111, Tryz.ntmps111
  go_wp2_with fail
  refine Calls.mono HN.out ?_
  rintro e w1 ⟨rfl, hb⟩
  simp only [tokE]
  have hx := (hb.block w.heap.size (by simp)).trans (heap_alloc_new w _)
  have hb1 : Below w.heap.size w w1 := HA.out.trans (hb.mono HA.out.size)
  obtain ⟨p0, p1, p2, p3, pf⟩ := box4 hx
  have hl1 : w.heap.size < w1.heap.size := lt_of_cell p0
  have hg1 := HL.out.below hb1
  have c1 := hg1.q.c1
  have kf := hg1.q.free
  have hP1 := hg1.q.lt
  have hne : ¬ w.heap.size = C.P := by omega
  have hne2 : ¬ C.P = w.heap.size := by omega
  have HG := Hid.out (p := Hid _) hg1
  have HB := Hid.out (p := Hid _) hb1
  have HX := Hid.out (p := Hid _) hx
  clear hg1 hb hx hb1 HN c1 kf
  go_wp2_with fail
  have hal := (Below.refl w1.heap.size w1).alloc (Nat.le_refl _) (.cells #[.int .i64 t.kind, .int .i64 t.num, .int .i64 t.pos, .string ⟨⟨t.text⟩⟩] 98)
  refine Calls.mono (qshut (HG.out.below hal)) ?_
  rintro e w2 ⟨rfl, hP2, ho2⟩
  have c1 := box_cell (i := 1) (u := .int .i64 (i : Int)) hP2 rfl
  have kf := fun j => box_free (i := j) hP2
  have hy2 := (ho2.block w1.heap.size (by simp) (by omega)).trans (heap_alloc_new w1 _)
  obtain ⟨y0, y1, y2, y3, -⟩ := box4 hy2
  have hx2 := (ho2.block w.heap.size (by simp; omega) (by omega)).trans (box_later HX.out _)
  obtain ⟨q0, q1, q2, q3, qf⟩ := box4 hx2
  have hyP : ¬ w1.heap.size = C.P := by omega
  have hyP2 : ¬ C.P = w1.heap.size := by omega
  have hyw : ¬ w1.heap.size = w.heap.size := by omega
  have hyw2 : ¬ w.heap.size = w1.heap.size := by omega
  have HO2 : Hid (Only C.P w w2) := ((Only.of HB.out : Only C.P w w1).alloc _).trans ho2
  have HP2 := Hid.out (p := Hid _) hP2
  clear p0 p1 p2 p3 pf hal hP2 ho2 hy2 hx2
  go_wp2_with fail
  refine bodyPost_ret (v := .agg #[.int .i64 t.kind, .int .i64 t.num, .int .i64 t.pos, .string ⟨⟨t.text⟩⟩]) (by simp [results, Tryz.results111, go_sem, q0, q1, q2, q3]) rfl ?_
  have ho := (((((HO2.out.set 1 (.int .i64 ((i : Int) + 1))).setn (Nat.le_refl _) 0 (.int .i64 t.kind)).setn (Nat.le_refl _) 1 (.int .i64 t.num)).setn (Nat.le_refl _) 2 (.int .i64 t.pos)).setn (Nat.le_refl _) 3 (.string ⟨⟨t.text⟩⟩))
  have hbx := ((Below.heap_setCell _ ⟨w.heap.size, 3, none⟩ (.string ⟨⟨t.text⟩⟩) C.P hne2).trans ((Below.heap_setCell _ ⟨w.heap.size, 2, none⟩ (.int .i64 t.pos) C.P hne2).trans ((Below.heap_setCell _ ⟨w.heap.size, 1, none⟩ (.int .i64 t.num) C.P hne2).trans ((Below.heap_setCell _ ⟨w.heap.size, 0, none⟩ (.int .i64 t.kind) C.P hne2).trans (heap_set9 (i := 1) (u := .int .i64 ((i : Int) + 1)) HP2.out)))))
  exact ⟨rfl, hbx, ho⟩
set_option maxRecDepth 100000 in
set_option maxHeartbeats 1600000 in
/-- A token that opens too much. -/
theorem qtake_dcurly {t : Tok} {r : List Tok} (h : GoP C w 20 bx ps (t :: r) rows) (ht : t.text = [123]) :
    Calls Tryz.prog 111 #[.pointer (some ⟨C.P, 0, none⟩)] w fun e w' => e = .panicked (badF (6, t.pos)) ∧ FrP C w' := by
  have hA := (Below.refl w.heap.size w).alloc (Nat.le_refl _) (.cells #[.int .i64 0, .int .i64 0, .int .i64 0, .string ⟨#[]⟩] 98)
  have HN := Hid.out (p := Hid _) (qnext (h.below hA))
  have HH := Hid.out (p := Hid _) (h.below hA)
  have e1 : (t.text == [40]) = false := by rw [ht]; decide
  have e2 : (t.text == [123]) = true := by rw [ht]; decide
  have e3 : (t.text == [41]) = false := by rw [ht]; decide
  have e4 : (t.text == [125]) = false := by rw [ht]; decide
  clear h hA ht
  go_enter Tryz.func111, Tryz.ntmps111
  go_wp2_with fail
  refine Calls.mono HN.out ?_
  rintro e w1 ⟨rfl, hb⟩
  simp only [tokE]
  have HG := Hid.out (p := Hid _) (HH.out.below hb)
  clear hb HN HH
  go_wp2_with fail
  refine Calls.mono (qopen_no (HG.out.below ((Below.refl _ _).alloc (Nat.le_refl _) _))) ?_
  rintro e w2 ⟨rfl, hf⟩
  exact ⟨rfl, rfl, hf⟩
end

end Go.Proofs.YtggfbfjdiikaeaaGreatDoor
