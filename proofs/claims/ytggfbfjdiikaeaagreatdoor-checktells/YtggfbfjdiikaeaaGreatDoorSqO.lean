/-
  The program's parser: what is assigned; a guard and its block; while.
  The program's parser: a guard and its block; while.
  The program's parser: one more kid.
-/
import Derived.Test.YtggfbfjdiikaeaaGreatDoorSqM
namespace Go.Proofs.YtggfbfjdiikaeaaGreatDoor
section
open Go.RowKit

/-- The kids of a cas. -/
noncomputable def casT (E : Int) (d : Nat) (l : List Tok) : TRes (List Nd) := bindL (takeT E wCas l) fun r => bindL (openT E [40] d r) fun r => bindT (nmT E r) fun a q => bindL (takeT E [44] q) fun q => etT E (d + 1) [44] q fun b q => etT E (d + 1) [41] q fun c q => .ok ([a, b, c], q)
theorem assign_is {E : Int} {d : Nat} {t : Tok} {r : List Tok} (hk : t.kind = 1) : assignT E d (t :: r) = bindL (takeT E [61] r) fun r => if isTok wCas r = true then bindT (casT E d r) (fun xs q => bindL (takeT E [59] q) fun p => .ok (.mk 8 0 t.pos t.text xs, p)) else etT E d [59] r fun x q => .ok (.mk 7 0 t.pos t.text [x], q) := by
  rw [assignT_is, nameT_yes hk]
  simp only [bindT, posOf]
  congr 1
  funext r
  split
  · unfold casT nmT etT
    cases takeT E wCas r with
    | error f => rfl
    | ok r1 =>
      simp only [bindL]
      cases openT E [40] d r1 with
      | error f => rfl
      | ok r2 =>
        simp only
        cases nameT E r2 with
        | error f => rfl
        | ok y =>
          obtain ⟨s2, q⟩ := y
          simp only [bindT]
          cases takeT E [44] q with
          | error f => rfl
          | ok q1 =>
            simp only
            cases exprT E 0 (d + 1) q1 with
            | error f => rfl
            | ok y =>
              obtain ⟨b, q2⟩ := y
              simp only
              cases takeT E [44] q2 with
              | error f => rfl
              | ok q3 =>
                simp only
                cases exprT E 0 (d + 1) q3 with
                | error f => rfl
                | ok y =>
                  obtain ⟨c, q4⟩ := y
                  simp only
                  cases takeT E [41] q4 with
                  | error f => rfl
                  | ok q5 => rfl
  · rfl
theorem kids_size : ∀ (xs : List Nd) (k n p : Int) (t : List UInt8), ndSize (.mk k n p t xs) = ndsSize xs + 1 := fun _ _ _ _ _ => rfl

section
variable {E : Int} {d : Nat} {l : List Tok}
set_option maxRecDepth 100000 in
set_option maxHeartbeats 1600000 in
theorem qassign {t : Tok} {r : List Tok} (hk : t.kind = 1) : Cpr 148 [] E d (t :: r) (assignT E d (t :: r)) := by
  refine cpr_of fun C w rows hE hg => ?_
  subst hE
  have hfw := hg.fewR
  have hpl := kind_plain (hfw.2.2.2 t (List.mem_cons_self ..)) (Or.inl hk)
  have hst : stepD t.text d = d := by unfold stepD; rw [if_neg hpl.1, if_neg hpl.2]
  have HT := Hid.out (p := Hid _) (qtake_any hg (fun h => absurd h hpl.1) (fun h => absurd h hpl.2))
  have HST := Hid.out (p := Hid _) hst
  have HSZ : Hid (∀ x q, assignT C.E d (t :: r) = .ok (x, q) → rows.length + ndSize x + q.length ≤ C.T.length) := fun x q hx => by
    obtain ⟨n, y, hy⟩ := (tl_assign (e := C.E) d (t :: r)).tot
    have h3 := tld_is (tl_assign (e := C.E) d (t :: r)).up hy
    have h4 := assign_size (hy.trans (congrArg some (h3.symm.trans hx)))
    have := hfw.1
    omega
  obtain ⟨R, hR⟩ : ∃ R : TRes Nd, R = assignT C.E d (t :: r) := ⟨_, rfl⟩
  rw [← hR] at HSZ ⊢
  rw [assign_is hk] at hR
  clear hg hpl hst
  go_enter Tryz.func148, Tryz.ntmps148
  go_wp2_with (go_at_call 111; refine Calls.mono HT.out ?_; rintro e w1 ⟨rfl, hg, -⟩; rw [HST.out] at hg; have HG1 := Hid.out (p := Hid _) hg; clear hg)
  have hgA := HG1.out.below ((Below.refl _ _).alloc (Nat.le_refl _) (.cells #[.int .i64 1, .int .i64 t.num, .int .i64 t.pos, .string ⟨⟨t.text⟩⟩] 98))
  have hg1 := hgA.box (.cells #[.int .i64 7, .int .i64 0, .int .i64 t.pos, .string ⟨⟨t.text⟩⟩, nilV] 60)
  rw [show (w1.alloc (.cells #[.int .i64 1, .int .i64 t.num, .int .i64 t.pos, .string ⟨⟨t.text⟩⟩] 98)).heap.size = w1.heap.size + 1 by simp] at hg1
  refine Calls.mono (qword1g hg1 (w1.heap.size + 1 + 1) (by simp) ⟨#[61]⟩ (lit_sign (by decide)) (fun h => absurd h (by decide)) _ (words_one (by decide) (by decide))) ?_
  intro e w2 hq
  change WdQ C _ _ _ _ (liftD (takeT C.E [61] r) d) e w2 at hq
  cases ht1 : takeT C.E [61] r with
  | error f =>
    rw [ht1] at hq hR
    obtain ⟨rfl, hf⟩ := hq
    subst hR
    exact ⟨rfl, rfl, hf⟩
  | ok r1 =>
    rw [ht1] at hq hR
    obtain ⟨rfl, hg, -⟩ := hq
    simp only [bindL] at hR
    obtain ⟨hb2, hbP, hbl⟩ := hg.bxc
    have hbP2 : ¬ C.P = w1.heap.size + 1 := fun e => hbP e.symm
    obtain ⟨b0, b1, b2, b3, b4, bf⟩ := box5 hb2
    have HG2 := Hid.out (p := Hid _) hg
    clear hg hb2 hgA hg1
    go_wp2_with fail
    refine Calls.mono (qis1g HG2.out w2.heap.size rfl ⟨#[99, 97, 115]⟩ (lit_word (by decide))) ?_
    rintro e w3 ⟨rfl, hb3⟩
    have hg3 := HG2.out.below hb3
    obtain ⟨hbx3, -, hbl3⟩ := hg3.bxc
    obtain ⟨c0, c1, c2, c3, c4, cf⟩ := box5 hbx3
    have HG3 := Hid.out (p := Hid _) hg3
    clear hg3 hb3 hbx3 b0 b1 b2 b3 b4 bf
    cases hc : isTok wCas r1 with
    | true =>
      rw [if_pos hc] at hR
      have HX := Hid.out (p := Hid _) (qcas HG3.out (casT C.E d r1) rfl)
      clear hc
      go_wp2_with fail
      refine Calls.mono HX.out ?_
      intro e w4 hq
      cases hx : casT C.E d r1 with
      | error f =>
        rw [hx] at hq hR
        obtain ⟨rfl, hf⟩ := hq
        subst hR
        exact ⟨rfl, rfl, hf⟩
      | ok y =>
        obtain ⟨xs, q4⟩ := y
        rw [hx] at hq hR
        obtain ⟨g4, n4, rfl, hg4⟩ := hq
        simp only [bindT] at hR
        obtain ⟨hbx4, -, hbl4⟩ := hg4.bxc
        obtain ⟨d0, d1, d2, d3, d4, df⟩ := box5 hbx4
        have HG4 := Hid.out (p := Hid _) hg4
        clear hg4 hx hbx4 HX c0 c1 c2 c3 c4 cf
        go_wp2_with fail
        have hg5 := (HG4.out.set0 (.int .i64 8)).set4 (.slice (some ⟨g4, 0, none⟩) n4 n4)
        refine Calls.mono (qword1g hg5 w4.heap.size (by rw [set_size, set_size]) ⟨#[59]⟩ (lit_sign (by decide)) (fun h => absurd h (by decide)) _ (words_one (by decide) (by decide))) ?_
        intro e w5 hq
        change WdQ C _ _ _ _ (liftD (takeT C.E [59] q4) d) e w5 at hq
        cases ht : takeT C.E [59] q4 with
        | error f =>
          rw [ht] at hq hR
          obtain ⟨rfl, hf⟩ := hq
          subst hR
          exact ⟨rfl, rfl, hf⟩
        | ok p =>
          rw [ht] at hq hR
          obtain ⟨rfl, hg6, -⟩ := hq
          obtain ⟨hbx6, -, hbl6⟩ := hg6.bxc
          obtain ⟨e0, e1, e2, e3, e4, ef⟩ := box5 hbx6
          have HG6 := Hid.out (p := Hid _) hg6
          have HR := Hid.out (p := Hid _) hR
          have hfe : (rows ++ flats rows.length xs).length + 1 + p.length ≤ C.T.length := by
            have := HSZ.out _ _ hR
            rw [kids_size] at this
            rw [List.length_append, flats_len]
            omega
          clear hg6 hg5 hbx6 hR ht d0 d1 d2 d3 d4 df
          go_wp2_with fail
          refine Calls.mono (qadd HG6.out 8 0 t.pos t.text (idxs rows.length xs) _ _ _ (Or.inl (List.mem_cons_self ..)) hfe) ?_
          rintro e w7 ⟨rfl, hg7⟩
          have HG7 := Hid.out (p := Hid _) hg7.drop
          clear hg7
          go_wp2_with fail
          go_ret
          rw [HR.out]
          refine ⟨?_, ?_⟩
          · exact ret_int (by first | (rw [List.length_append, flats_len, kids_size]; omega) | (rw [flats_len, kids_size]; omega))
          · rw [flat, ← List.append_assoc]
            exact HG7.out
    | false =>
      rw [if_neg (by rw [hc]; decide)] at hR
      unfold etT at hR
      have HX := Hid.out (p := Hid _) (qexpr0 (E := C.E) r1 d C w3 _ [] _ rfl HG3.out)
      clear hc
      go_wp2_with fail
      refine Calls.mono HX.out ?_
      intro e w4 hq
      cases hx : exprT C.E 0 d r1 with
      | error f =>
        rw [hx] at hq hR
        obtain ⟨rfl, hf⟩ := hq
        subst hR
        exact ⟨rfl, rfl, hf⟩
      | ok y =>
        obtain ⟨x, q4⟩ := y
        rw [hx] at hq hR
        obtain ⟨rfl, hg4⟩ := hq
        simp only [bindT] at hR
        obtain ⟨v, hv⟩ : ∃ v, v = ((rows.length + ndSize x : Nat) : Int) - 1 := ⟨_, rfl⟩
        rw [← hv]
        have HV := Hid.out (p := Hid _) hv
        obtain ⟨hbx4, -, hbl4⟩ := hg4.bxc
        obtain ⟨d0, d1, d2, d3, d4, df⟩ := box5 hbx4
        have HG4 := Hid.out (p := Hid _) hg4
        clear hg4 hx hbx4 HX c0 c1 c2 c3 c4 cf hv
        go_wp2_with fail
        have hg5 := (HG4.out.set4 (.slice (some ⟨w4.heap.size, 0, none⟩) 1 1)).kids [v] 1 rfl (Nat.le_refl _) #[.int .i64 v] rfl (by decide) w4.heap.size (by rw [set_size])
        refine Calls.mono (qword1g hg5 (w4.heap.size + 1) (by simp) ⟨#[59]⟩ (lit_sign (by decide)) (fun h => absurd h (by decide)) _ (words_one (by decide) (by decide))) ?_
        intro e w5 hq
        change WdQ C _ _ _ _ (liftD (takeT C.E [59] q4) d) e w5 at hq
        cases ht : takeT C.E [59] q4 with
        | error f =>
          rw [ht] at hq hR
          obtain ⟨rfl, hf⟩ := hq
          subst hR
          exact ⟨rfl, rfl, hf⟩
        | ok p =>
          rw [ht] at hq hR
          obtain ⟨rfl, hg6, -⟩ := hq
          obtain ⟨hbx6, -, hbl6⟩ := hg6.bxc
          obtain ⟨e0, e1, e2, e3, e4, ef⟩ := box5 hbx6
          have HG6 := Hid.out (p := Hid _) hg6
          have HR := Hid.out (p := Hid _) hR
          have hfe : (rows ++ flat rows.length x).length + 1 + p.length ≤ C.T.length := by
            have := HSZ.out _ _ hR
            rw [size_one] at this
            rw [List.length_append, flat_len]
            omega
          clear hg6 hg5 hbx6 hR ht d0 d1 d2 d3 d4 df
          go_wp2_with fail
          refine Calls.mono (qadd HG6.out 7 0 t.pos t.text [v] _ _ _ (Or.inl (List.mem_cons_self ..)) hfe) ?_
          rintro e w7 ⟨rfl, hg7⟩
          have HG7 := Hid.out (p := Hid _) hg7.drop
          clear hg7
          go_wp2_with fail
          go_ret
          rw [HR.out]
          refine ⟨?_, ?_⟩
          · exact ret_int (by first | (rw [List.length_append, flat_len, size_one]; omega) | (rw [flat_len, size_one]; omega))
          · have h7 : rows ++ flat rows.length (.mk 7 0 t.pos t.text [x]) = (rows ++ flat rows.length x) ++ [⟨7, 0, t.pos, t.text, [v]⟩] := by
              rw [HV.out]
              simp [flat, flats, idxs]
            rw [h7]
            exact HG7.out
end
end

section
open Go.RowKit

/-- A guard behind a word, and its block. -/
noncomputable def grdT (E : Int) (d : Nat) (z : List UInt8) (l : List Tok) : TRes (List Nd) := bindT (bindL (takeT E z l) fun r => heldT E d r) fun x r => bindT (blockT E d r) fun b q => .ok ([x, b], q)
section
variable {E : Int} {d : Nat} {l : List Tok}
theorem held_len {e : Int} {r q : List Tok} {x : Nd} (h : heldT e d r = .ok (x, q)) : q.length < r.length ∧ ndSize x + q.length ≤ r.length := by
  obtain ⟨n, y, hy⟩ := he_tot (e := e) d r
  have h3 := tld_is (he_up r) hy
  have h4 := hy.trans (congrArg some (h3.symm.trans h))
  exact ⟨(expr_len n).2.2.2 _ _ _ _ h4, (expr_size n).2.2.2 _ _ _ _ h4⟩
theorem block_len {e : Int} {r q : List Tok} {x : Nd} (h : blockT e d r = .ok (x, q)) : q.length < r.length ∧ ndSize x + q.length ≤ r.length := by
  obtain ⟨n, y, hy⟩ := (tl_block (e := e) d r).tot
  have h3 := tld_is (bl_up d r) hy
  have h4 := hy.trans (congrArg some (h3.symm.trans h))
  exact ⟨(stmt_len n).2.1 _ _ _ _ h4, (stmt_size n).2.1 _ _ _ _ h4⟩
theorem grd_len {e : Int} {z : List UInt8} {q : List Tok} {xs : List Nd} (h : grdT e d z l = .ok (xs, q)) : ndsSize xs + q.length + 1 ≤ l.length ∧ xs.length = 2 := by
  unfold grdT at h
  cases ht : takeT e z l with
  | error f => rw [ht] at h; cases h
  | ok r =>
    rw [ht] at h
    simp only [bindL] at h
    cases hx : heldT e d r with
    | error f => rw [hx] at h; cases h
    | ok y =>
      obtain ⟨x, r1⟩ := y
      rw [hx] at h
      simp only [bindT] at h
      cases hb : blockT e d r1 with
      | error f => rw [hb] at h; cases h
      | ok y =>
        obtain ⟨b, r2⟩ := y
        rw [hb] at h
        have h1 := Except.ok.inj h
        simp only [Prod.mk.injEq] at h1
        have k1 := take_len ht
        have k2 := held_len hx
        have k3 := block_len hb
        rw [← h1.1, ← h1.2]
        refine ⟨?_, rfl⟩
        simp only [ndsSize]
        omega
set_option maxRecDepth 100000 in
set_option maxHeartbeats 1600000 in
theorem qguarded (z : ByteArray) (hz : isWord z.data.toList = true) (IH : ∀ q, q.length + 1 < l.length → Cpr 115 [] E d q (blockT E d q)) {C : Cx9} {w : World} {bx : Option (Nat × Obj)} {rows : List Row} (hE : C.E = E) (hg : GoP C w d bx [] l rows) (R : TRes (List Nd)) (hR : R = grdT C.E d z.data.toList l) :
    Calls Tryz.prog 163 #[.pointer (some ⟨C.P, 0, none⟩), .string z] w fun e w' => KdQ C w' d bx rows R e := by
  subst hE
  have HX := Hid.out (p := Hid _) (qwithin (E := C.E) (d := d) (l := l) z hz C w bx [] rows rfl hg)
  unfold grdT at hR
  clear hg
  go_enter Tryz.func163, Tryz.ntmps163
  go_wp2_with fail
  refine Calls.mono (HX.out) ?_
  intro e w1 hq
  cases hx1 : (bindL (takeT C.E z.data.toList l) fun r => heldT C.E d r) with
  | error f =>
    rw [hx1] at hq hR
    obtain ⟨rfl, hf⟩ := hq
    subst hR
    exact ⟨rfl, rfl, hf⟩
  | ok y =>
    obtain ⟨x, q1⟩ := y
    rw [hx1] at hq hR
    obtain ⟨rfl, hg⟩ := hq
    simp only [bindT] at hR
    have k1 : q1.length + 1 < l.length := by
      cases ht : takeT C.E z.data.toList l with
      | error f => rw [ht] at hx1; cases hx1
      | ok r =>
        rw [ht] at hx1
        have := take_len ht
        have := (held_len (show heldT C.E d r = .ok (x, q1) from hx1)).1
        omega
    obtain ⟨va, hva⟩ : ∃ v, v = ((rows.length + ndSize x : Nat) : Int) - 1 := ⟨_, rfl⟩
    rw [← hva]
    have HVA := Hid.out (p := Hid _) hva
    have HB := Hid.out (p := Hid _) (IH q1 k1 C w1 bx [] _ rfl hg)
    clear hg hva HX
    go_wp2_with fail
    refine Calls.mono (HB.out) ?_
    intro e w2 hq
    cases hx2 : blockT C.E d q1 with
    | error f =>
      rw [hx2] at hq hR
      obtain ⟨rfl, hf⟩ := hq
      subst hR
      exact ⟨rfl, rfl, hf⟩
    | ok y =>
      obtain ⟨b, q2⟩ := y
      rw [hx2] at hq hR
      obtain ⟨rfl, hg⟩ := hq
      skip
      obtain ⟨vb, hvb⟩ : ∃ v, v = (((rows ++ flat rows.length x).length + ndSize b : Nat) : Int) - 1 := ⟨_, rfl⟩
      rw [← hvb]
      have HVB := Hid.out (p := Hid _) hvb
      have HG2 := Hid.out (p := Hid _) hg
      have HR := Hid.out (p := Hid _) hR
      clear hg hvb HB hR
      go_wp2_with fail
      go_ret
      rw [HR.out]
      refine ⟨w2.heap.size, 2, rfl, ?_⟩
      have hk := HG2.out.kids [va, vb] 2 rfl (by decide) #[.int .i64 va, .int .i64 vb] rfl (by decide) w2.heap.size rfl
      have h1 : idxs rows.length [x, b] = [va, vb] := by
        rw [HVA.out, HVB.out]
        simp only [idxs, List.length_append, flat_len]
      have h2 : rows ++ flats rows.length [x, b] = rows ++ flat rows.length x ++ flat (rows ++ flat rows.length x).length b := by
        simp only [flats, List.length_append, flat_len, List.append_nil, List.append_assoc]
      rw [h1, h2]
      exact hk
set_option maxRecDepth 100000 in
set_option maxHeartbeats 1600000 in
theorem qloop (IH : ∀ q, q.length + 1 < l.length → Cpr 115 [] E d q (blockT E d q)) : Cpr 151 [] E d l (bindT (grdT E d wWhile l) fun xs q => .ok (.mk 10 0 (posOf E l) [] xs, q)) := by
  refine cpr_of fun C w rows hE hg => ?_
  subst hE
  have hfw := hg.fewR
  have HN := Hid.out (p := Hid _) (qnext hg)
  have HG := Hid.out (p := Hid _) hg
  have hfd := fld2
  obtain ⟨R, hR⟩ : ∃ R : TRes Nd, R = bindT (grdT C.E d wWhile l) fun xs q => .ok (.mk 10 0 (posOf C.E l) [] xs, q) := ⟨_, rfl⟩
  rw [← hR]
  have HP : Hid ((tokE C.E l).pos = posOf C.E l) := tokE_pos _ _
  clear hg
  go_enter Tryz.func151, Tryz.ntmps151
  go_wp2_with (go_at_call 84; refine Calls.mono HN.out ?_; rintro e w1 ⟨rfl, hb⟩; rw [HP.out]; have HG1 := Hid.out (p := Hid _) (HG.out.below hb); clear hb)
  refine Calls.mono (qguarded ⟨#[119, 104, 105, 108, 101]⟩ (by decide) IH rfl (HG1.out.box (.cells #[.int .i64 10, .int .i64 0, .int .i64 (posOf C.E l), .string ⟨#[]⟩, nilV] 60)) (grdT C.E d wWhile l) rfl) ?_
  intro e w2 hq
  cases hx : grdT C.E d wWhile l with
  | error f =>
    rw [hx] at hq hR
    obtain ⟨rfl, hf⟩ := hq
    subst hR
    exact ⟨rfl, rfl, hf⟩
  | ok y =>
    obtain ⟨xs, q⟩ := y
    have k1 := (grd_len hx).1
    rw [hx] at hq hR
    obtain ⟨g2, n2, rfl, hg2⟩ := hq
    simp only [bindT] at hR
    obtain ⟨hb2, hbP, hbl⟩ := hg2.bxc
    have hbP2 : ¬ C.P = w1.heap.size := fun e => hbP e.symm
    obtain ⟨b0, b1, b2, b3, b4, bf⟩ := box5 hb2
    have HG2 := Hid.out (p := Hid _) hg2
    have HR := Hid.out (p := Hid _) hR
    have hfe : (rows ++ flats rows.length xs).length + 1 + q.length ≤ C.T.length := by
      have := hfw.1
      rw [List.length_append, flats_len]
      omega
    clear hg2 hx hb2 hR
    go_wp2_with fail
    refine Calls.mono (qadd (HG2.out.set4 _) 10 0 (posOf C.E l) [] (idxs rows.length xs) _ _ _ (Or.inl (List.mem_cons_self ..)) hfe) ?_
    rintro e w7 ⟨rfl, hg7⟩
    have HG7 := Hid.out (p := Hid _) hg7.drop
    clear hg7
    go_wp2_with fail
    go_ret
    rw [HR.out]
    refine ⟨?_, ?_⟩
    · exact ret_int (by first | (rw [List.length_append, flats_len, kids_size]; omega) | (rw [flats_len, kids_size]; omega))
    · rw [flat, ← List.append_assoc]
      exact HG7.out
end
end

section
open Go.RowKit

section
variable {C : Cx9} {w w' : World} {d : Nat} {bx : Option (Nat × Obj)} {ps : List (List Int × Value)} {l : List Tok} {rows : List Row}
/-- One more kid. -/
theorem GoP.app {ks : List Int} {ka : Option Addr} {kn kc : Nat} (h : GoP C w d bx ((ks, .slice ka kn kc) :: ps) l rows) (hbx : ∀ z, bx = some z → ∃ cs, z.2 = .cells cs 60) (hap : ∀ p, p ∈ ps → ∀ g, (Value.slice ka kn kc).ownBlock = some g → p.2.ownBlock ≠ some g) (v : Int) (hn : ks.length ≤ 100000) (n : Nat) (hks : n = ks.length) :
    ∃ g cap w3, (AppS #[22, 22] 22 #[.slice ka kn kc, .slice (some ⟨w.heap.size, 0, none⟩) 1 1]).run Tryz.prog (w.alloc (.cells #[.int .i64 v] 3)) = .ok (.slice (some ⟨g, 0, none⟩) (n + 1) cap) w3 ∧ GoP C w3 d bx ((ks ++ [v], .slice (some ⟨g, 0, none⟩) (n + 1) cap) :: ps) l rows ∧ ∀ p, p ∈ ps → p.2.ownBlock ≠ some g := by
  subst hks
  obtain ⟨lv, i, ys, h⟩ := h
  have hk := h.ps _ (List.mem_cons_self ..)
  have hown := hk.kd.own
  simp only at hown
  obtain ⟨g, cap, w3, r1, r2, r3, r4⟩ := app_row (T := 22) Tryz.underlying22 infoInt9 rfl (by omega) hown (Below.refl _ _) (Nat.zero_le _) 1 #[.int .i64 v] rfl (by simp [Value.oneCell']) (by omega) (by omega) (by omega)
  have hsz3 : w.heap.size + 1 ≤ w3.heap.size := by have := r3.size; simpa using this
  have ho : But (Value.slice ka kn kc).ownBlock w w3 := by
    refine ⟨r3.os, r3.tape, r3.output, by omega, fun k hk1 hk2 => ?_⟩
    exact (r3.block k (by simp; omega) hk2).trans (((Below.refl w.heap.size w).alloc (Nat.le_refl _) _).block k hk1)
  have hP := h.q.lt
  have hl : ∀ g, lv.ownBlock = some g → g < w.heap.size := fun g hg => (h.lst.own.lt g hg).2
  have hg1 : ∀ k, k < w.heap.size → some k ≠ (Value.slice ka kn kc).ownBlock → k ≠ g := fun k hk1 hk2 e => by
    rcases r4 with r4 | r4
    · exact hk2 (by rw [r4, e])
    · omega
  have hPk : some C.P ≠ (Value.slice ka kn kc).ownBlock := fun e => hk.kd.apart e.symm
  have hlk : ∀ j, lv.ownBlock = some j → some j ≠ (Value.slice ka kn kc).ownBlock := fun j hj e => hk.kd.far j e.symm hj
  have hps2 : ∀ p, p ∈ ps → ∀ j, p.2.ownBlock = some j → some j ≠ (Value.slice ka kn kc).ownBlock := fun p hp j hj e => hap p hp j e.symm hj
  have hps3 : ∀ p, p ∈ ps → p.2.ownBlock ≠ some g := fun p hp e => by
    have h1 := ((h.ps p (List.mem_cons_of_mem _ hp)).kd.own.lt g e).2
    exact hg1 g h1 (hps2 p hp g e) rfl
  have hyk : ∀ y, y ∈ ys → ∀ j, y.2.ownBlock = some j → some j ≠ (Value.slice ka kn kc).ownBlock := fun y hy j hj e => (h.kb y hy j hj).2 _ (List.mem_cons_self ..) e.symm
  have htk : ∀ j, C.tv.ownBlock = some j → some j ≠ (Value.slice ka kn kc).ownBlock := fun j hj e => by
    obtain ⟨cur, hc⟩ := own_cells h.q.toks hj
    exact own_apart hown hc (by decide) e.symm
  refine ⟨g, cap, w3, r1, ⟨lv, i, ys, ⟨ho.os.trans h.fr.os, ho.tape.trans h.fr.tape, ho.output.trans h.fr.output, Nat.le_trans h.fr.size ho.size, fun k h1 h2 h3 => ?_, h.fr.own⟩, fun z hz => ?_, fun p hp => ?_, h.q.but ho hPk htk, h.is, lst_but h.lst ho hlk, fun x hx => kd_but (h.kid x hx) ho (hyk x hx), h.few, h.map, fun y hy j hj => ⟨(h.kb y hy j hj).1, fun p hp e => ?_⟩⟩, hps3⟩
  · refine (ho.block k (Nat.lt_of_lt_of_le h1 h.fr.size) fun e => ?_).trans (h.fr.block k h1 h2 h3)
    have := hk.new k e.symm
    omega
  · have hz2 := h.bx z hz
    obtain ⟨cs, hcs⟩ := hbx z hz
    refine ⟨(ho.block z.1 hz2.lt fun e => ?_).trans hz2.is, hz2.ne, hz2.far, hz2.new⟩
    exact own_apart hown (by rw [hz2.is, hcs]) (by decide) e.symm
  · rcases List.mem_cons.1 hp with rfl | hp
    · refine ⟨⟨?_, fun e => ?_, fun j hj e => ?_⟩, fun j hj => ?_⟩
      · simpa using r2
      · have : g = C.P := by simpa [Value.ownBlock] using e
        exact hg1 C.P hP hPk this.symm
      · have : g = j := by simpa [Value.ownBlock] using hj
        exact hg1 j (hl j e) (hlk j e) this.symm
      · have : g = j := by simpa [Value.ownBlock] using hj
        subst this
        rcases r4 with r4 | r4
        · exact hk.new g r4
        · have := h.fr.size
          omega
    · have h1 := h.ps p (List.mem_cons_of_mem _ hp)
      exact ⟨kd_but h1.kd ho (hps2 p hp), h1.new⟩
  · rcases List.mem_cons.1 hp with rfl | hp
    · have h1 : g = j := by simpa [Value.ownBlock] using e
      exact hg1 j ((h.kid y hy).own.lt j hj).2 (hyk y hy j hj) h1.symm
    · exact (h.kb y hy j hj).2 p (List.mem_cons_of_mem _ hp) e
end
end

end Go.Proofs.YtggfbfjdiikaeaaGreatDoor
