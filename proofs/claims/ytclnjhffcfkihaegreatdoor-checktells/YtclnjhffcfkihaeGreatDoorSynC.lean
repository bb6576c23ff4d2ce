/-
  The program's parser: a token of a kind; names.
  The program's parser: what a function that reads a tree leaves; names; what stands in brackets.
  The program's parser: primary ones, signs ahead.
  Expressions read by how tight signs bind, from the left: the same as level by level.
-/
import Derived.Test.YtclnjhffcfkihaeGreatDoorSqE
import Derived.Test.YtclnjhffcfkihaeGreatDoorSynY
namespace Go.Proofs.YtclnjhffcfkihaeGreatDoor
section
open Go.RowKit

section
variable {C : Cx9} {w w' : World} {d : Nat} {bx : Option (Nat × Obj)} {ps : List (List Int × Value)} {l : List Tok} {rows : List Row}
set_option maxRecDepth 100000 in
set_option maxHeartbeats 1600000 in
theorem qkind_no (h : GoP C w d bx ps l rows) (k : Int) (hk : (tokE C.E l).kind ≠ k) :
    Calls Tryz.prog 89 #[.pointer (some ⟨C.P, 0, none⟩), .int .i64 k] w fun e w' => e = .panicked (badF (5, posOf C.E l)) ∧ FrP C w' := by
  have hA := (Below.refl w.heap.size w).alloc (Nat.le_refl _) (.cells #[.int .i64 0, .int .i64 0, .int .i64 0, .string ⟨#[]⟩] 66)
  have HN := Hid.out (p := Hid _) (qnext (h.below hA))
  have HH := Hid.out (p := Hid _) (h.below hA)
  have hfd := fld0
  have hne : ((tokE C.E l).kind != k) = true := by simpa using hk
  clear h hA hk
  go_enter Tryz.func89, Tryz.ntmps89
  go_wp2_with (first
    | (go_at_call 57; refine Calls.mono HN.out ?_; rintro e w1 ⟨rfl, hb⟩; have HG := Hid.out (p := Hid _) (HH.out.below hb); clear hb)
    | (go_at_call 58; refine Calls.mono (qfault HG.out 5) ?_; rintro e w2 ⟨rfl, hb2⟩; have HF2 : Hid (FrP C w2) := HG.out.frp.below hb2; clear hb2))
  exact ⟨rfl, rfl, HF2.out⟩
theorem name_plain {t : List UInt8} (h : NameOk t) : ¬ opB t ∧ ¬ shB t := by
  obtain ⟨⟨b, r, rfl, hb, _⟩, _⟩ := h
  constructor
  · rintro (h | h) <;> (simp only [List.cons.injEq] at h; obtain ⟨rfl, _⟩ := h; revert hb; decide)
  · rintro (h | h) <;> (simp only [List.cons.injEq] at h; obtain ⟨rfl, _⟩ := h; revert hb; decide)
theorem num_plain (u : Nat) : ¬ opB (Lib.decDigits u) ∧ ¬ shB (Lib.decDigits u) := by
  obtain ⟨b, r, hd, hb⟩ := dec_head9 u
  rw [hd]
  constructor
  · rintro (h | h) <;> (simp only [List.cons.injEq] at h; obtain ⟨rfl, _⟩ := h; revert hb; decide)
  · rintro (h | h) <;> (simp only [List.cons.injEq] at h; obtain ⟨rfl, _⟩ := h; revert hb; decide)
theorem kind_plain {t : Tok} (h : TokOk t) (hk : t.kind = 1 ∨ t.kind = 3) : ¬ opB t.text ∧ ¬ shB t.text := by
  rcases h with ⟨_, _, h2⟩ | ⟨h1, _, _⟩ | ⟨_, _, _, h4⟩ | ⟨h1, _, _⟩
  · exact name_plain h2
  · rw [h1] at hk; rcases hk with hk | hk <;> cases hk
  · rw [h4]; exact num_plain _
  · rw [h1] at hk; rcases hk with hk | hk <;> cases hk
set_option maxRecDepth 100000 in
set_option maxHeartbeats 1600000 in
theorem qkind_yes {t : Tok} {r : List Tok} (h : GoP C w d bx ps (t :: r) rows) (k : Int) (hk : t.kind = k) (hk2 : k = 1 ∨ k = 3) :
    Calls Tryz.prog 89 #[.pointer (some ⟨C.P, 0, none⟩), .int .i64 k] w fun e w' => e = .returned (.agg #[.int .i64 t.kind, .int .i64 t.num, .int .i64 t.pos, .string ⟨⟨t.text⟩⟩]) ∧ GoP C w' d bx ps r rows ∧ Only C.P w w' := by
  have hA := (Below.refl w.heap.size w).alloc (Nat.le_refl _) (.cells #[.int .i64 0, .int .i64 0, .int .i64 0, .string ⟨#[]⟩] 66)
  have HN := Hid.out (p := Hid _) (qnext (h.below hA))
  have HA := Hid.out (p := Hid _) hA
  have htok := h.fewR.2.2.2 t (List.mem_cons_self ..)
  have hpl := kind_plain htok (by rw [hk]; exact hk2)
  have hst : stepD t.text d = d := by unfold stepD; rw [if_neg hpl.1, if_neg hpl.2]
  have HPL := Hid.out (p := Hid _) hpl
  have HST := Hid.out (p := Hid _) hst
  obtain ⟨lv, i, ys, h⟩ := h
  have HL := Hid.out (p := Hid _) h
  have hPw := h.q.lt
  have hfd := fld0
  have hne : (k != k) = false := by simp
  clear h hA htok hpl hst
  go_enter Tryz.func89, Tryz.ntmps89
  go_wp2_with fail
  refine Calls.mono HN.out ?_
  rintro e w1 ⟨rfl, hb⟩
  simp only [tokE]
  rw [hk]
  have hx := (hb.block w.heap.size (by simp)).trans (heap_alloc_new w _)
  have hb1 : Below w.heap.size w w1 := HA.out.trans (hb.mono HA.out.size)
  have hg1 := HL.out.below hb1
  go_wp2_with fail
  refine Calls.mono (qtakeL hg1 (fun h => absurd h HPL.out.1) (fun h => absurd h HPL.out.2)) ?_
  rintro e w2 ⟨rfl, hg2, ho2⟩
  have hx2 := (ho2.block w.heap.size (lt_of_cell (box4 hx).1) (by omega)).trans hx
  obtain ⟨p0, p1, p2, p3, pf⟩ := box4 hx2
  have hne2 : ¬ C.P = w.heap.size := by omega
  have HO2 : Hid (Only C.P w w2) := (Only.of hb1).trans ho2
  have HG2 := Hid.out (p := Hid _) hg2
  clear hx hb hb1 hg1 hx2 hg2 ho2
  go_wp2_with fail
  rw [hk]
  refine bodyPost_ret (v := .agg #[.int .i64 k, .int .i64 t.num, .int .i64 t.pos, .string ⟨⟨t.text⟩⟩]) (by simp [results, Tryz.results89, go_sem, p0, p1, p2, p3]) rfl ?_
  have ho := (((HO2.out.setn (Nat.le_refl _) 0 (.int .i64 k)).setn (Nat.le_refl _) 1 (.int .i64 t.num)).setn (Nat.le_refl _) 2 (.int .i64 t.pos)).setn (Nat.le_refl _) 3 (.string ⟨⟨t.text⟩⟩)
  have hbx := (Below.heap_setCell _ ⟨w.heap.size, 3, none⟩ (.string ⟨⟨t.text⟩⟩) C.P hne2).trans ((Below.heap_setCell _ ⟨w.heap.size, 2, none⟩ (.int .i64 t.pos) C.P hne2).trans ((Below.heap_setCell _ ⟨w.heap.size, 1, none⟩ (.int .i64 t.num) C.P hne2).trans ((Below.heap_setCell _ ⟨w.heap.size, 0, none⟩ (.int .i64 k) C.P hne2).trans HG2.out)))
  have hgo := HL.out.over (fun h => absurd h HPL.out.1) hbx ho
  rw [HST.out] at hgo
  exact ⟨rfl, hgo, ho⟩
end
end

section
open Go.RowKit

/-- What a function leaves that reads a tree. -/
def PrQ (C : Cx9) (w : World) (d : Nat) (bx : Option (Nat × Obj)) (ps : List (List Int × Value)) (rows : List Row) (r : TRes Nd) (e : Ending) : Prop :=
  match r with
  | .ok (x, q) => e = .returned (.int .i64 (((rows.length + ndSize x : Nat) : Int) - 1)) ∧ GoP C w d bx ps q (rows ++ flat rows.length x)
  | .error f => e = .panicked (badF f) ∧ FrP C w
/-- It does so. -/
def Cpr (fn : Nat) (av : List Value) (E : Int) (d : Nat) (l : List Tok) (r : TRes Nd) : Prop := ∀ (C : Cx9) (w : World) (bx : Option (Nat × Obj)) (ps : List (List Int × Value)) (rows : List Row), C.E = E → GoP C w d bx ps l rows →
  Calls Tryz.prog fn (Value.pointer (some ⟨C.P, 0, none⟩) :: av).toArray w fun e w' => PrQ C w' d bx ps rows r e
theorem cpr_of {fn : Nat} {av : List Value} {E : Int} {d : Nat} {l : List Tok} {r : TRes Nd} (h : ∀ (C : Cx9) (w : World) (rows : List Row), C.E = E → GoP C w d none [] l rows → Calls Tryz.prog fn (Value.pointer (some ⟨C.P, 0, none⟩) :: av).toArray w fun e w' => PrQ C w' d none [] rows r e) : Cpr fn av E d l r := by
  intro C w bx ps rows hE hg
  obtain ⟨C', e1, e2, e3, e4, e5, e6, h1, h2, h3⟩ := hg.lift
  rw [← e2]
  refine (h C' w rows (e4.trans hE) h1).mono ?_
  intro e w' hq
  match r, hq with
  | .ok (x, q), ⟨hv, hq⟩ => exact ⟨hv, h2 hq⟩
  | .error f, ⟨hv, hq⟩ => exact ⟨hv, h3 hq⟩
/-- So many things open. -/
def liftD (x : Except (Int × Int) (List Tok)) (d : Nat) : Except (Int × Int) (Nat × List Tok) :=
  match x with
  | .ok r => .ok (d, r)
  | .error q => .error q
section
variable {E : Int} {d : Nat} {l : List Tok}
theorem words_one {z : List UInt8} (h1 : ¬ opB z) (h2 : ¬ shB z) : wordsR E d [z] l = liftD (takeT E z l) d := by
  rw [wordsR, takeT]
  split
  · rw [if_neg (fun h => h1 h.1)]
    unfold stepD
    rw [if_neg h1, if_neg h2]
    rfl
  · rfl
theorem words_open {z : List UInt8} (h1 : opB z) : wordsR E d [z] l = liftD (openT E z d l) (d + 1) := by
  rw [wordsR, openT]
  by_cases hi : isTok z l = true
  · rw [if_pos hi]
    by_cases hd : d = 20
    · rw [if_pos ⟨h1, hd⟩, if_pos ⟨hi, hd⟩]; rfl
    · rw [if_neg (fun h => hd h.2), if_neg (fun h => hd h.2), takeT, if_pos hi]
      unfold stepD
      rw [if_pos h1]
      rfl
  · rw [if_neg hi, if_neg (fun h => hi h.1), takeT, if_neg hi]; rfl
theorem words_shut {z : List UInt8} (h2 : shB z) : wordsR E (d + 1) [z] l = liftD (takeT E z l) d := by
  have h1 : ¬ opB z := by rcases h2 with rfl | rfl <;> decide
  rw [wordsR, takeT]
  split
  · rw [if_neg (fun h => h1 h.1)]
    unfold stepD
    rw [if_neg h1, if_pos h2]
    rfl
  · rfl
end
section
variable {C : Cx9} {w w' : World} {d : Nat} {bx : Option (Nat × Obj)} {ps : List (List Int × Value)} {l : List Tok} {rows : List Row}
theorem wdq_only {w0 : World} {R : Except (Int × Int) (Nat × List Tok)} {e : Ending} (h : WdQ C w bx ps rows R e w') (ho : Only C.P w0 w) : WdQ C w0 bx ps rows R e w' := by
  match R, h with
  | .ok (d', l'), ⟨h1, h2, h3⟩ => exact ⟨h1, h2, ho.trans h3⟩
  | .error q, h => exact h
/-- One word or sign that is asked for. -/
theorem qword1 (h : GoP C w d bx ps l rows) (z : ByteArray) (hlit : isLit z.data.toList) (hsh : shB z.data.toList → 1 ≤ d) (R : Except (Int × Int) (Nat × List Tok)) (HR : wordsR C.E d [z.data.toList] l = R) :
    Calls Tryz.prog 91 #[.pointer (some ⟨C.P, 0, none⟩), .slice (some ⟨w.heap.size, 0, none⟩) 1 1] (w.alloc (.cells #[.string z] 9)) fun e w' => WdQ C w bx ps rows R e w' := by
  have hA := (Below.refl w.heap.size w).alloc (Nat.le_refl _) (.cells #[.string z] 9)
  have hP := h.cells
  obtain ⟨i, -, -, -, hP⟩ := hP
  refine (qwords (h.below hA) w.heap.size 1 [z] rfl (by decide) (heap_alloc_new _ _) (by omega) (fun y hy => by simp at hy; rw [hy]; exact hlit) ⟨hsh, trivial⟩ R HR).mono ?_
  intro e w' hq
  exact wdq_only hq (Only.of hA)
/-- Does one stand next? -/
theorem qis1 (h : GoP C w d bx ps l rows) (z : ByteArray) (hlit : isLit z.data.toList) :
    Calls Tryz.prog 54 #[.pointer (some ⟨C.P, 0, none⟩), .slice (some ⟨w.heap.size, 0, none⟩) 1 1] (w.alloc (.cells #[.string z] 9)) fun e w' => e = .returned (.bool (isTok z.data.toList l)) ∧ Below w.heap.size w w' := by
  have hA := (Below.refl w.heap.size w).alloc (Nat.le_refl _) (.cells #[.string z] 9)
  refine (qis (h.below hA) w.heap.size 1 [z] rfl (by decide) (heap_alloc_new _ _) (fun y hy => by simp at hy; rw [hy]; exact hlit)).mono ?_
  rintro e w' ⟨rfl, hb⟩
  exact ⟨by simp [litB], hA.trans (hb.mono hA.size)⟩
theorem lit_sign {b : UInt8} (h : b ∈ oneS) : isLit [b] := Or.inr (Or.inr ⟨b, rfl, h⟩)
end
section
variable {E : Int} {d : Nat} {l : List Tok}
/-- A name as a tree. -/
def nmT (E : Int) (l : List Tok) : TRes Nd := bindT (nameT E l) fun s r => .ok (.mk 16 0 (posOf E l) s [], r)
set_option maxRecDepth 100000 in
set_option maxHeartbeats 1600000 in
theorem qname : Cpr 164 [] E d l (nmT E l) := by
  refine cpr_of fun C w rows hE hg => ?_
  subst hE
  have hfw := hg.fewR
  by_cases hk : ∃ t r, l = t :: r ∧ t.kind = 1
  · obtain ⟨t, r, rfl, hk⟩ := hk
    have hR : nmT C.E (t :: r) = .ok (.mk 16 0 t.pos t.text [], r) := by
      unfold nmT
      rw [nameT_yes hk]
      rfl
    rw [hR]
    have HK := Hid.out (p := Hid _) (qkind_yes hg 1 hk (Or.inl rfl))
    have hfe : rows.length + 1 + r.length ≤ C.T.length := by have := hfw.1; simp only [List.length_cons] at this; omega
    clear hg hR
    go_enter Tryz.func164, Tryz.ntmps164
    go_wp2_with (first
      | (go_at_call 89; refine Calls.mono HK.out ?_; rintro e w1 ⟨rfl, hg1, -⟩; have HG1 := Hid.out (p := Hid _) hg1; clear hg1)
      | (go_at_call 59; refine Calls.mono (qadd (HG1.out.below ((Below.refl _ _).alloc (Nat.le_refl _) _)) 16 0 t.pos t.text [] none 0 0 (Or.inr ⟨rfl, rfl⟩) hfe) ?_; rintro e w2 ⟨rfl, hg2⟩))
    go_ret
    refine ⟨by rw [size_none]; simp, ?_⟩
    simpa [flat, flats, idxs] using hg2
  · have hk2 : (tokE C.E l).kind ≠ 1 := fun h => by
      cases l with
      | nil => cases h
      | cons t r => exact hk ⟨t, r, rfl, h⟩
    have hR : nmT C.E l = .error (5, posOf C.E l) := by
      unfold nmT
      cases l with
      | nil => rfl
      | cons t r => rw [nameT_no (show ¬ t.kind = 1 from hk2)]; rfl
    rw [hR]
    have HK := Hid.out (p := Hid _) (qkind_no hg 1 hk2)
    clear hg hR hk hk2
    go_enter Tryz.func164, Tryz.ntmps164
    go_wp2_with (go_at_call 89; refine Calls.mono HK.out ?_; rintro e w1 ⟨rfl, hf1⟩)
    exact ⟨rfl, rfl, hf1⟩
set_option maxRecDepth 100000 in
set_option maxHeartbeats 1600000 in
theorem qprim_held (h4 : isTok [40] l = true) (IH : ∀ r, r.length < l.length → d + 1 ≤ 20 → Cpr 152 [.int .i64 1] E (d + 1) r (exprT E 0 (d + 1) r)) : Cpr 171 [] E d l (heldT E d l) := by
  refine cpr_of fun C w rows hE hg => ?_
  subst hE
  have HN := Hid.out (p := Hid _) (qnext hg)
  have HG := Hid.out (p := Hid _) hg
  have hfd := fld0
  have hk3 : ((tokE C.E l).kind == 3) = false := by
    cases l with
    | nil => cases h4
    | cons t r =>
      simp only [isTok, Bool.and_eq_true, Bool.or_eq_true, decide_eq_true_eq] at h4
      simp only [tokE]
      rcases h4.1 with h | h <;> (rw [h]; decide)
  have HI4 := Hid.out (p := Hid _) h4
  rw [heldT_is]
  obtain ⟨R, hR⟩ : ∃ R, R = bindL (openT C.E [40] d l) fun r => bindT (exprT C.E 0 (d + 1) r) fun x q => bindL (takeT C.E [41] q) fun p => .ok (x, p) := ⟨_, rfl⟩
  rw [← hR]
  have HR := Hid.out (p := Hid _) hR
  clear hg hR h4
  go_enter Tryz.func171, Tryz.ntmps171
  go_wp2_with (first
    | (go_at_call 57; refine Calls.mono HN.out ?_; rintro e w1 ⟨rfl, hb⟩; have HG1 := Hid.out (p := Hid _) (HG.out.below hb); clear hb)
    | (go_at_call 54; refine Calls.mono (qis1 HG1.out _ (lit_sign (by decide))) ?_; rintro e w2 ⟨rfl, hb⟩; rw [show isTok (⟨#[40]⟩ : ByteArray).data.toList l = true from HI4.out]; have HG2 := Hid.out (p := Hid _) (HG1.out.below hb); clear hb))
  refine Calls.mono (qword1 HG2.out _ (lit_sign (by decide)) (fun h => absurd h (by decide)) _ (words_open (Or.inl rfl))) ?_
  intro e w3 hq
  have hRR := HR.out
  change WdQ C w2 none [] rows (liftD (openT C.E [40] d l) (d + 1)) e w3 at hq
  cases ho : openT C.E [40] d l with
  | error f =>
    rw [ho] at hq hRR
    obtain ⟨rfl, hf⟩ := hq
    subst hRR
    exact ⟨rfl, rfl, hf⟩
  | ok r =>
    rw [ho] at hq hRR
    obtain ⟨rfl, hg3, -⟩ := hq
    have hd1 : d + 1 ≤ 20 := hg3.fewR.2.2.1
    have HX := Hid.out (p := Hid _) (IH r (open_len ho) hd1 C w3 none [] rows rfl hg3)
    simp only [bindL] at hRR
    clear hg3 ho
    go_wp2_with fail
    refine Calls.mono HX.out ?_
    intro e w4 hq
    cases hx : exprT C.E 0 (d + 1) r with
    | error f =>
      rw [hx] at hq hRR
      obtain ⟨rfl, hf⟩ := hq
      subst hRR
      exact ⟨rfl, rfl, hf⟩
    | ok y =>
      obtain ⟨x, q⟩ := y
      rw [hx] at hq hRR
      obtain ⟨rfl, hg4⟩ := hq
      simp only [bindT] at hRR
      have HG4 := Hid.out (p := Hid _) hg4
      clear hg4 hx HX
      go_wp2_with fail
      refine Calls.mono (qword1 HG4.out _ (lit_sign (by decide)) (fun _ => Nat.le_add_left 1 d) _ (words_shut (Or.inl rfl))) ?_
      intro e w5 hq
      change WdQ C w4 none [] _ (liftD (takeT C.E [41] q) d) e w5 at hq
      cases ht : takeT C.E [41] q with
      | error f =>
        rw [ht] at hq hRR
        obtain ⟨rfl, hf⟩ := hq
        subst hRR
        exact ⟨rfl, rfl, hf⟩
      | ok p =>
        rw [ht] at hq hRR
        obtain ⟨rfl, hg5, -⟩ := hq
        have HG5 := Hid.out (p := Hid _) hg5
        clear hg5 ht
        go_wp2_with fail
        go_ret
        rw [hRR]
        exact ⟨rfl, HG5.out⟩
end
end

section
open Go.RowKit

section
variable {C : Cx9} {w w' : World} {d : Nat} {bx : Option (Nat × Obj)} {ps : List (List Int × Value)} {l : List Tok} {rows : List Row}
theorem qopenG (h : GoP C w d bx ps l rows) (hd : d ≠ 20) :
    Calls Tryz.prog 115 #[.pointer (some ⟨C.P, 0, none⟩)] w fun e w' => e = .returned (.tuple #[]) ∧ GoP C w' (d + 1) bx ps l rows := by
  obtain ⟨lv, i, ys, h⟩ := h
  refine (qopen_yes h hd).mono ?_
  rintro e w' ⟨rfl, hb, ho⟩
  have hx := h.only (d' := d + 1) ho (Nat.le_refl i) h.q.le (by have := h.q.dle; omega) hb
  rw [h.is] at hx
  exact ⟨rfl, hx⟩
theorem qshutG (h : GoP C w (d + 1) bx ps l rows) :
    Calls Tryz.prog 116 #[.pointer (some ⟨C.P, 0, none⟩)] w fun e w' => e = .returned (.tuple #[]) ∧ GoP C w' d bx ps l rows := by
  obtain ⟨lv, i, ys, h⟩ := h
  refine (qshut h).mono ?_
  rintro e w' ⟨rfl, hb, ho⟩
  have hx := h.only (d' := d) ho (Nat.le_refl i) h.q.le (by have := h.q.dle; omega) hb
  rw [h.is] at hx
  exact ⟨rfl, hx⟩
end
section
variable {E : Int} {d : Nat} {l : List Tok}
set_option maxRecDepth 100000 in
set_option maxHeartbeats 1600000 in
theorem qprim_num {t : Tok} {r : List Tok} (hk : t.kind = 3) : Cpr 171 [] E d (t :: r) (.ok (.mk 15 t.num t.pos [] [], r)) := by
  refine cpr_of fun C w rows hE hg => ?_
  subst hE
  have hfw := hg.fewR
  have hpl := kind_plain (hfw.2.2.2 t (List.mem_cons_self ..)) (Or.inr hk)
  have hst : stepD t.text d = d := by unfold stepD; rw [if_neg hpl.1, if_neg hpl.2]
  have HN := Hid.out (p := Hid _) (qnext hg)
  have HG := Hid.out (p := Hid _) hg
  have HPL := Hid.out (p := Hid _) hpl
  have HST := Hid.out (p := Hid _) hst
  have hfd := fld0
  have hk3 : ((tokE C.E (t :: r)).kind == 3) = true := by simp [tokE, hk]
  have hfe : rows.length + 1 + r.length ≤ C.T.length := by have := hfw.1; simp only [List.length_cons] at this; omega
  clear hg hpl hst hfw
  go_enter Tryz.func171, Tryz.ntmps171
  go_wp2_with (first
    | (go_at_call 57; refine Calls.mono HN.out ?_; rintro e w1 ⟨rfl, hb⟩; have HG1 := Hid.out (p := Hid _) (HG.out.below hb); clear hb)
    | (go_at_call 88; refine Calls.mono (qtake_any HG1.out (fun h => absurd h HPL.out.1) (fun h => absurd h HPL.out.2)) ?_; rintro e w2 ⟨rfl, hg2, -⟩; rw [HST.out] at hg2; have HG2 := Hid.out (p := Hid _) hg2; clear hg2)
    | (go_at_call 59; refine Calls.mono (qadd (HG2.out.below ((Below.refl _ _).alloc (Nat.le_refl _) _)) 15 t.num t.pos [] [] none 0 0 (Or.inr ⟨rfl, rfl⟩) hfe) ?_; rintro e w3 ⟨rfl, hg3⟩))
  go_ret
  refine ⟨by rw [size_none]; simp, ?_⟩
  simpa [flat, flats, idxs] using hg3
set_option maxRecDepth 100000 in
set_option maxHeartbeats 1600000 in
theorem qprim_name (hk : (tokE E l).kind ≠ 3) (h4 : isTok [40] l = false) : Cpr 171 [] E d l (nmT E l) := by
  refine cpr_of fun C w rows hE hg => ?_
  subst hE
  have HN := Hid.out (p := Hid _) (qnext hg)
  have HG := Hid.out (p := Hid _) hg
  have hfd := fld0
  have hk3 : ((tokE C.E l).kind == 3) = false := by simpa using hk
  have HI4 := Hid.out (p := Hid _) h4
  obtain ⟨R, hR⟩ : ∃ R, R = nmT C.E l := ⟨_, rfl⟩
  rw [← hR]
  have HX : Hid (∀ w1, GoP C w1 d none [] l rows → Calls Tryz.prog 164 #[.pointer (some ⟨C.P, 0, none⟩)] w1 fun e w' => PrQ C w' d none [] rows R e) := fun w1 h1 => by
    rw [hR]
    exact qname C w1 none [] rows rfl h1
  clear hg hR h4 hk
  go_enter Tryz.func171, Tryz.ntmps171
  go_wp2_with (first
    | (go_at_call 57; refine Calls.mono HN.out ?_; rintro e w1 ⟨rfl, hb⟩; have HG1 := Hid.out (p := Hid _) (HG.out.below hb); clear hb)
    | (go_at_call 54; refine Calls.mono (qis1 HG1.out _ (lit_sign (by decide))) ?_; rintro e w2 ⟨rfl, hb⟩; rw [show isTok (⟨#[40]⟩ : ByteArray).data.toList l = false from HI4.out]; have HG2 := Hid.out (p := Hid _) (HG1.out.below hb); clear hb))
  refine Calls.mono (HX.out _ HG2.out) ?_
  intro e w3 hq
  cases R with
  | error f =>
    obtain ⟨rfl, hf⟩ := hq
    exact ⟨rfl, rfl, hf⟩
  | ok y =>
    obtain ⟨x, q⟩ := y
    obtain ⟨rfl, hg3⟩ := hq
    have HG3 := Hid.out (p := Hid _) hg3
    clear hg3
    go_wp2_with fail
    go_ret
    exact ⟨rfl, HG3.out⟩
set_option maxRecDepth 100000 in
set_option maxHeartbeats 1600000 in
theorem qsigned {S : List UInt8} (k : Int) (hS : S = [45] ∨ S = [33]) (hi : isTok S l = true) (IH : d + 1 ≤ 20 → Cpr 165 [] E (d + 1) l.tail (unaryT E (d + 1) l.tail)) : Cpr 170 [.int .i64 k] E d l (bindL (openT E S d l) fun r => bindT (unaryT E (d + 1) r) fun x q => .ok (.mk k 0 (posOf E l) [] [x], q)) := by
  refine cpr_of fun C w rows hE hg => ?_
  subst hE
  have hfw := hg.fewR
  obtain ⟨t, r, rfl⟩ : ∃ t r, l = t :: r := by
    cases l with
    | nil => cases hi
    | cons t r => exact ⟨t, r, rfl⟩
  have htx : t.text = S := by
    simp only [isTok, Bool.and_eq_true, decide_eq_true_eq] at hi
    exact hi.2
  by_cases h20 : d = 20
  · have ho : openT C.E S d (t :: r) = .error (6, t.pos) := by unfold openT; rw [if_pos ⟨hi, h20⟩]; rfl
    rw [ho]
    subst h20
    have HO := Hid.out (p := Hid _) (qopen_no hg)
    clear hg hi htx ho
    go_enter Tryz.func170, Tryz.ntmps170
    go_wp2_with (go_at_call 115; refine Calls.mono HO.out ?_; rintro e w1 ⟨rfl, hf⟩)
    exact ⟨rfl, rfl, hf⟩
  · have ho : openT C.E S d (t :: r) = .ok r := by unfold openT takeT; rw [if_neg (fun h => h20 h.2), if_pos hi]; rfl
    rw [ho]
    simp only [bindL]
    have hpl : ¬ opB t.text ∧ ¬ shB t.text := by rw [htx]; rcases hS with rfl | rfl <;> decide
    have hst : ∀ n, stepD t.text n = n := fun n => by unfold stepD; rw [if_neg hpl.1, if_neg hpl.2]
    have HO := Hid.out (p := Hid _) (qopenG hg h20)
    have HPL := Hid.out (p := Hid _) hpl
    have HST := Hid.out (p := Hid _) hst
    have HX := Hid.out (p := Hid _) (IH (by have := hfw.2.2.1; omega))
    obtain ⟨R, hR⟩ : ∃ R : TRes Nd, R = bindT (unaryT C.E (d + 1) r) fun x q => .ok (.mk k 0 (posOf C.E (t :: r)) [] [x], q) := ⟨_, rfl⟩
    rw [← hR]
    have HSZ : Hid (∀ x q, unaryT C.E (d + 1) r = .ok (x, q) → rows.length + ndSize x + 1 + q.length ≤ C.T.length) := fun x q hx => by
      obtain ⟨n, y, hy⟩ := un_tot (e := C.E) (d + 1) r
      have h3 := tld_is (un_up r) hy
      have h4 := (expr_size n).2.2.1 _ _ _ _ (hy.trans (congrArg some (h3.symm.trans hx)))
      have h5 := hfw.1
      simp only [List.length_cons] at h5
      omega
    clear hg hi ho hpl hst IH htx
    go_enter Tryz.func170, Tryz.ntmps170
    go_wp2_with (first
      | (go_at_call 115; refine Calls.mono HO.out ?_; rintro e w1 ⟨rfl, hg1⟩; have HG1 := Hid.out (p := Hid _) hg1; clear hg1)
      | (go_at_call 88; refine Calls.mono (qtake_any HG1.out (fun h => absurd h HPL.out.1) (fun h => absurd h HPL.out.2)) ?_; rintro e w2 ⟨rfl, hg2, -⟩; rw [HST.out] at hg2; have HG2 := Hid.out (p := Hid _) hg2; clear hg2))
    have hg2 := HG2.out.box (.cells #[.int .i64 t.kind, .int .i64 t.num, .int .i64 t.pos, .string ⟨⟨t.text⟩⟩] 66)
    refine Calls.mono (HX.out C _ _ _ _ rfl hg2) ?_
    intro e w3 hq
    simp only [List.tail_cons] at hq
    cases hx : unaryT C.E (d + 1) r with
    | error f =>
      rw [hx] at hq hR
      obtain ⟨rfl, hf⟩ := hq
      subst hR
      exact ⟨rfl, rfl, hf⟩
    | ok y =>
      obtain ⟨x, q⟩ := y
      rw [hx] at hq hR
      obtain ⟨rfl, hg3⟩ := hq
      have hfe := HSZ.out x q hx
      have HG3 := Hid.out (p := Hid _) hg3
      have HR := Hid.out (p := Hid _) hR
      clear hg3 hg2 hx hR
      go_wp2_with fail
      refine Calls.mono (qshutG HG3.out) ?_
      rintro e w4 ⟨rfl, hg4⟩
      obtain ⟨hb4, hbP, hbl⟩ := hg4.bxc
      obtain ⟨b0, b1, b2, b3, bf⟩ := box4 hb4
      have HG4 := Hid.out (p := Hid _) hg4
      clear hg4 hb4
      go_wp2_with fail
      refine Calls.mono (qadd (HG4.out.kids [((rows.length + ndSize x : Nat) : Int) - 1] 1 rfl (Nat.le_refl _) _ rfl (by decide) w4.heap.size rfl) k 0 t.pos [] [((rows.length + ndSize x : Nat) : Int) - 1] _ _ _ (Or.inl (List.mem_cons_self ..)) (by rw [List.length_append, flat_len]; omega)) ?_
      rintro e w5 ⟨rfl, hg5⟩
      have HG5 := Hid.out (p := Hid _) hg5.drop
      clear hg5
      go_wp2_with fail
      go_ret
      rw [HR.out]
      refine ⟨?_, ?_⟩
      · exact ret_int (by rw [flat_len, size_one]; omega)
      · have h7 : rows ++ flat rows.length (.mk k 0 (posOf C.E (t :: r)) [] [x]) = (rows ++ flat rows.length x) ++ [⟨k, 0, t.pos, [], [((rows.length + ndSize x : Nat) : Int) - 1]⟩] := by
          simp [flat, flats, idxs, posOf]
        rw [h7]
        exact HG5.out
set_option maxRecDepth 100000 in
set_option maxHeartbeats 1600000 in
/-- What a sign stands ahead of, or what has none. -/
theorem qahead (IHu : ∀ r, r.length < l.length → d + 1 ≤ 20 → Cpr 165 [] E (d + 1) r (unaryT E (d + 1) r)) (IHe : ∀ r, r.length < l.length → d + 1 ≤ 20 → Cpr 152 [.int .i64 1] E (d + 1) r (exprT E 0 (d + 1) r)) : Cpr 165 [] E d l (unaryT E d l) := by
  refine cpr_of fun C w rows hE hg => ?_
  subst hE
  have hl := hg.fewR.2.2.2
  have HN := Hid.out (p := Hid _) (qnext hg)
  have HG := Hid.out (p := Hid _) hg
  have hfd := fld3
  obtain ⟨R, hR⟩ : ∃ R, R = unaryT C.E d l := ⟨_, rfl⟩
  rw [← hR]
  have h45 := lit_text (C := C) (lit_sign (b := 45) (by decide)) hl
  have h33 := lit_text (C := C) (lit_sign (b := 33) (by decide)) hl
  rw [unaryT_is] at hR
  by_cases h1 : isTok [45] l = true
  · rw [if_pos h1] at hR
    have e1 : ((tokE C.E l).text == [45]) = true := by
      rw [h1] at h45; simpa using h45
    have HX : Hid (∀ w1, GoP C w1 d none [] l rows → Calls Tryz.prog 170 #[.pointer (some ⟨C.P, 0, none⟩), .int .i64 17] w1 fun e w' => PrQ C w' d none [] rows R e) := fun w1 hg1 => by
      rw [hR]
      exact qsigned 17 (Or.inl rfl) h1 (IHu l.tail (is_len h1)) C w1 none [] rows rfl hg1
    clear hg hR h1 h45 h33
    go_enter Tryz.func165, Tryz.ntmps165
    go_wp2_with (go_at_call 57; refine Calls.mono HN.out ?_; rintro e w1 ⟨rfl, hb⟩; have HG1 := Hid.out (p := Hid _) (HG.out.below hb); clear hb)
    refine Calls.mono (HX.out _ HG1.out) ?_
    intro e w3 hq
    cases R with
    | error f => obtain ⟨rfl, hf⟩ := hq; exact ⟨rfl, rfl, hf⟩
    | ok y =>
      obtain ⟨x, q⟩ := y
      obtain ⟨rfl, hg3⟩ := hq
      have HG3 := Hid.out (p := Hid _) hg3
      clear hg3
      go_wp2_with fail
      go_ret
      exact ⟨rfl, HG3.out⟩
  · rw [if_neg h1] at hR
    have e1 : ((tokE C.E l).text == [45]) = false := by
      rw [Bool.eq_false_iff.2 h1] at h45; simpa using h45
    by_cases h2 : isTok [33] l = true
    · rw [if_pos h2] at hR
      have e2 : ((tokE C.E l).text == [33]) = true := by
        rw [h2] at h33; simpa using h33
      have HX : Hid (∀ w1, GoP C w1 d none [] l rows → Calls Tryz.prog 170 #[.pointer (some ⟨C.P, 0, none⟩), .int .i64 18] w1 fun e w' => PrQ C w' d none [] rows R e) := fun w1 hg1 => by
        rw [hR]
        exact qsigned 18 (Or.inr rfl) h2 (IHu l.tail (is_len h2)) C w1 none [] rows rfl hg1
      clear hg hR h1 h2 h45 h33
      go_enter Tryz.func165, Tryz.ntmps165
      go_wp2_with (go_at_call 57; refine Calls.mono HN.out ?_; rintro e w1 ⟨rfl, hb⟩; have HG1 := Hid.out (p := Hid _) (HG.out.below hb); clear hb)
      refine Calls.mono (HX.out _ HG1.out) ?_
      intro e w3 hq
      cases R with
      | error f => obtain ⟨rfl, hf⟩ := hq; exact ⟨rfl, rfl, hf⟩
      | ok y =>
        obtain ⟨x, q⟩ := y
        obtain ⟨rfl, hg3⟩ := hq
        have HG3 := Hid.out (p := Hid _) hg3
        clear hg3
        go_wp2_with fail
        go_ret
        exact ⟨rfl, HG3.out⟩
    · rw [if_neg h2] at hR
      have e2 : ((tokE C.E l).text == [33]) = false := by
        rw [Bool.eq_false_iff.2 h2] at h33; simpa using h33
      have HX : Hid (∀ w1, GoP C w1 d none [] l rows → Calls Tryz.prog 171 #[.pointer (some ⟨C.P, 0, none⟩)] w1 fun e w' => PrQ C w' d none [] rows R e) := fun w1 hg1 => by
        rw [hR]
        by_cases h3 : isTok [40] l = true
        · rw [if_pos h3]
          exact qprim_held h3 IHe C w1 none [] rows rfl hg1
        · rw [if_neg h3]
          by_cases hk : ∃ t r, l = t :: r ∧ t.kind = 3
          · obtain ⟨t, r, rfl, hk⟩ := hk
            rw [prim_is _ t r rfl hk]
            exact qprim_num hk C w1 none [] rows rfl hg1
          · have hk2 : (tokE C.E l).kind ≠ 3 := fun h => by
              cases l with
              | nil => cases h
              | cons t r => exact hk ⟨t, r, rfl, h⟩
            have hpn : primT C.E l = nmT C.E l := by
              have ht : ∃ f, tnumT C.E l = .error f := by
                match l, hk2 with
                | [], _ => exact ⟨_, rfl⟩
                | t :: r, hk2 => exact ⟨_, by rw [tnumT, if_neg (show ¬ t.kind = 3 from hk2)]⟩
              obtain ⟨f, hf⟩ := ht
              unfold primT nmT
              rw [hf]
              cases nameT C.E l with
              | error f => rfl
              | ok y => rfl
            rw [hpn]
            exact qprim_name hk2 (by simpa using h3) C w1 none [] rows rfl hg1
      clear hg hR h1 h2 h45 h33
      go_enter Tryz.func165, Tryz.ntmps165
      go_wp2_with (go_at_call 57; refine Calls.mono HN.out ?_; rintro e w1 ⟨rfl, hb⟩; have HG1 := Hid.out (p := Hid _) (HG.out.below hb); clear hb)
      refine Calls.mono (HX.out _ HG1.out) ?_
      intro e w3 hq
      cases R with
      | error f => obtain ⟨rfl, hf⟩ := hq; exact ⟨rfl, rfl, hf⟩
      | ok y =>
        obtain ⟨x, q⟩ := y
        obtain ⟨rfl, hg3⟩ := hq
        have HG3 := Hid.out (p := Hid _) hg3
        clear hg3
        go_wp2_with fail
        go_ret
        exact ⟨rfl, HG3.out⟩
end
end

section
section
variable {e : Int}
/-- More of the levels 4 down to 5 - j behind what stands. -/
noncomputable def restJ (e : Int) : Nat → Nat → Nd → List Tok → TRes Nd
  | 0, _, x, l => .ok (x, l)
  | j + 1, d, x, l => bindT (restJ e j d x l) (loopT e (4 - j) d)
theorem bindT_assoc {α β γ : Type} (x : TRes α) (f : α → List Tok → TRes β) (g : β → List Tok → TRes γ) : bindT (bindT x f) g = bindT x fun a l => bindT (f a l) g := by
  cases x with
  | error q => rfl
  | ok y => rfl
theorem expr_rest (d : Nat) (l : List Tok) : ∀ j k : Nat, k + j = 5 → exprT e k d l = bindT (unaryT e d l) (restJ e j d)
  | 0, k, hk => by
    obtain rfl : k = 5 := by omega
    rw [exprT_five]
    cases unaryT e d l with
    | error q => rfl
    | ok y => rfl
  | j + 1, k, hk => by
    rw [exprT_low (by omega), expr_rest d l j (k + 1) (by omega), bindT_assoc]
    have h4 : 4 - j = k := by omega
    congr 1
    funext x q
    rw [restJ, h4]
theorem sign_more {k : Nat} {l : List Tok} (h : NoSign (k + 1) l) (hs : signAt k l = none) : NoSign k l := by
  match l, h with
  | [], _ => trivial
  | t :: r, h =>
    intro h4
    have h1 := h h4
    rw [signAt] at hs
    split at hs
    · cases hs
    · rename_i hn
      have : lvl t.text ≠ (k : Int) := fun e => hn ⟨h4, e⟩
      omega
theorem loop_ns {k d : Nat} (hx : ∀ r y q, exprT e (k + 1) d r = .ok (y, q) → NoSign (k + 1) q ∧ q.length < r.length) : ∀ (N : Nat) (l : List Tok), l.length ≤ N → ∀ x y q, NoSign (k + 1) l → loopT e k d x l = .ok (y, q) → NoSign k q := by
  intro N
  induction N with
  | zero =>
    intro l hl x y q hn h
    have : l = [] := by cases l with
      | nil => rfl
      | cons a b => simp at hl
    subst this
    rw [loopT_is] at h
    have h1 := Except.ok.inj h
    simp only [Prod.mk.injEq] at h1
    rw [← h1.2]
    trivial
  | succ N ih =>
    intro l hl x y q hn h
    rw [loopT_is] at h
    cases hs : signAt k l with
    | none =>
      rw [hs] at h
      have h1 := Except.ok.inj h
      simp only [Prod.mk.injEq] at h1
      rw [← h1.2]
      exact sign_more hn hs
    | some p =>
      obtain ⟨t, r⟩ := p
      rw [hs] at h
      have hr := sign_tl hs
      simp only at h
      cases he : exprT e (k + 1) d r with
      | error f => rw [he] at h; cases h
      | ok z =>
        obtain ⟨z, q2⟩ := z
        rw [he] at h
        have h2 := hx r z q2 he
        exact ih q2 (by omega) _ y q h2.1 h
theorem exprT_len {k d : Nat} (hk : k ≤ 5) {l q : List Tok} {x : Nd} (h : exprT e k d l = .ok (x, q)) : q.length < l.length ∧ ndSize x + q.length ≤ l.length := by
  obtain ⟨n, y, hy⟩ := ex_tot (e := e) k d l hk
  have h3 := tld_is (ex_up k l) hy
  have h4 := hy.trans (congrArg some (h3.symm.trans h))
  exact ⟨(expr_len n).1 _ _ _ _ _ h4, (expr_size n).1 _ _ _ _ _ h4⟩
/-- Behind an expression of a level no sign of it stands. -/
theorem expr_ns : ∀ j k : Nat, k + j = 5 → ∀ d l x q, exprT e k d l = .ok (x, q) → NoSign k q
  | 0, k, hk, d, l, x, q, _ => by
    obtain rfl : k = 5 := by omega
    cases q with
    | nil => trivial
    | cons t r => exact fun _ => by have := lvl_le t.text; omega
  | j + 1, k, hk, d, l, x, q, h => by
    rw [exprT_low (by omega)] at h
    cases he : exprT e (k + 1) d l with
    | error f => rw [he] at h; cases h
    | ok z =>
      obtain ⟨z, q2⟩ := z
      rw [he] at h
      exact loop_ns (fun r y q hr => ⟨expr_ns j (k + 1) (by omega) d r y q hr, (exprT_len (by omega) hr).1⟩) q2.length q2 (Nat.le_refl _) z x q (expr_ns j (k + 1) (by omega) d l z q2 he) h
/-- No sign that binds so tight: nothing more. -/
theorem rest_none {d : Nat} {x : Nd} {l : List Tok} : ∀ j k : Nat, k + j = 5 → NoSign k l → restJ e j d x l = .ok (x, l)
  | 0, _, _, _ => rfl
  | j + 1, k, hk, h => by
    have h4 : 4 - j = k := by omega
    rw [restJ, rest_none j (k + 1) (by omega) (h.up (by omega)), h4]
    show loopT e k d x l = _
    rw [loopT_is, h.none (Nat.le_refl k)]
/-- A sign that binds so tight: what stands behind it, and more. -/
theorem rest_sign {d m : Nat} {x : Nd} {l r : List Tok} {t : Tok} (hs : signAt m l = some (t, r)) (hm : m ≤ 4) (hn : NoSign (m + 1) l) : ∀ i j k : Nat, k + j = 5 → k + i = m → restJ e j d x l = bindT (exprT e (m + 1) d r) fun y q => restJ e j d (.mk 19 0 t.pos t.text [x, y]) q
  | 0, j, k, hk, hi => by
    obtain rfl : k = m := by omega
    obtain ⟨j, rfl⟩ : ∃ j', j = j' + 1 := ⟨j - 1, by omega⟩
    have h4 : 4 - j = k := by omega
    rw [restJ, rest_none j (k + 1) (by omega) hn, h4]
    show loopT e k d x l = _
    rw [loopT_is, hs]
    simp only
    cases he : exprT e (k + 1) d r with
    | error f => rfl
    | ok z =>
      obtain ⟨y, q⟩ := z
      simp only [bindT]
      rw [restJ, rest_none j (k + 1) (by omega) (expr_ns j (k + 1) (by omega) d r y q he), h4]
      rfl
  | i + 1, j, k, hk, hi => by
    obtain ⟨j, rfl⟩ : ∃ j', j = j' + 1 := ⟨j - 1, by omega⟩
    rw [restJ, rest_sign hs hm hn i j (k + 1) (by omega) (by omega), bindT_assoc]
    rfl
end
end

end Go.Proofs.YtclnjhffcfkihaeGreatDoor
