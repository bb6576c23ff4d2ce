/-
  The program's parser: what is assigned; a guard and its block; while.
-/
import Derived.Test.YtclnjhffcfkihaeGreatDoorSqN
namespace Go.Proofs.YtclnjhffcfkihaeGreatDoor
open Go.RowKit

/-- The kids of a cas. -/
noncomputable def casT (E : Int) (d : Nat) (l : List Tok) : TRes (List Nd) := bindL (takeT E wCas l) fun r => bindL (openT E [40] d r) fun r => bindT (nmT E r) fun a q => bindL (takeT E [44] q) fun q => etT E (d + 1) [44] q fun b q => etT E (d + 1) [41] q fun c q => .ok ([a, b, c], q)
theorem assign_is {E : Int} {d : Nat} {t : Tok} {r : List Tok} (hk : t.kind = 1) : assignT E d (t :: r) = bindL (takeT E [61] r) fun r => if isTok wCas r = true then bindT (casT E d r) (fun xs q => bindL (takeT E [59] q) fun p => .ok (.mk 8 0 t.pos t.text xs, p)) else etT E d [59] r fun x q => .ok (.mk 7 0 t.pos t.text [x], q) := by
  rw [assignT_is, nameT_yes hk]
  simp only [bindT, posOf]
  congr 1
  funext r
  split
  · unfold casT nmT etT
    cases takeT E wCas r with
    | error f => rfl
    | ok r1 =>
      simp only [bindL]
      cases openT E [40] d r1 with
      | error f => rfl
      | ok r2 =>
        simp only
        cases nameT E r2 with
        | error f => rfl
        | ok y =>
          obtain ⟨s2, q⟩ := y
          simp only [bindT]
          cases takeT E [44] q with
          | error f => rfl
          | ok q1 =>
            simp only
            cases exprT E 0 (d + 1) q1 with
            | error f => rfl
            | ok y =>
              obtain ⟨b, q2⟩ := y
              simp only
              cases takeT E [44] q2 with
              | error f => rfl
              | ok q3 =>
                simp only
                cases exprT E 0 (d + 1) q3 with
                | error f => rfl
                | ok y =>
                  obtain ⟨c, q4⟩ := y
                  simp only
                  cases takeT E [41] q4 with
                  | error f => rfl
                  | ok q5 => rfl
  · rfl
theorem kids_size : ∀ (xs : List Nd) (k n p : Int) (t : List UInt8), ndSize (.mk k n p t xs) = ndsSize xs + 1 := fun _ _ _ _ _ => rfl

section
variable {E : Int} {d : Nat} {l : List Tok}
set_option maxRecDepth 100000 in
set_option maxHeartbeats 1600000 in
theorem qassign {t : Tok} {r : List Tok} (hk : t.kind = 1) : Cpr 131 [] E d (t :: r) (assignT E d (t :: r)) := by
  refine cpr_of fun C w rows hE hg => ?_
  subst hE
  have hfw := hg.fewR
  have hpl := kind_plain (hfw.2.2.2 t (List.mem_cons_self ..)) (Or.inl hk)
  have hst : stepD t.text d = d := by unfold stepD; rw [if_neg hpl.1, if_neg hpl.2]
  have HT := Hid.out (p := Hid _) (qtake_any hg (fun h => absurd h hpl.1) (fun h => absurd h hpl.2))
  have HST := Hid.out (p := Hid _) hst
  have HSZ : Hid (∀ x q, assignT C.E d (t :: r) = .ok (x, q) → rows.length + ndSize x + q.length ≤ C.T.length) := fun x q hx => by
    obtain ⟨n, y, hy⟩ := (tl_assign (e := C.E) d (t :: r)).tot
    have h3 := tld_is (tl_assign (e := C.E) d (t :: r)).up hy
    have h4 := assign_size (hy.trans (congrArg some (h3.symm.trans hx)))
    have := hfw.1
    omega
  obtain ⟨R, hR⟩ : ∃ R : TRes Nd, R = assignT C.E d (t :: r) := ⟨_, rfl⟩
  rw [← hR] at HSZ ⊢
  rw [assign_is hk] at hR
  clear hg hpl hst
  go_enter Tryz.func131, Tryz.ntmps131
  go_wp2_with (go_at_call 88; refine Calls.mono HT.out ?_; rintro e w1 ⟨rfl, hg, -⟩; rw [HST.out] at hg; have HG1 := Hid.out (p := Hid _) hg; clear hg)
  have hgA := HG1.out.below ((Below.refl _ _).alloc (Nat.le_refl _) (.cells #[.int .i64 1, .int .i64 t.num, .int .i64 t.pos, .string ⟨⟨t.text⟩⟩] 66))
  have hg1 := hgA.box (.cells #[.int .i64 7, .int .i64 0, .int .i64 t.pos, .string ⟨⟨t.text⟩⟩, nilV] 53)
  rw [show (w1.alloc (.cells #[.int .i64 1, .int .i64 t.num, .int .i64 t.pos, .string ⟨⟨t.text⟩⟩] 66)).heap.size = w1.heap.size + 1 by simp] at hg1
  refine Calls.mono (qword1g hg1 (w1.heap.size + 1 + 1) (by simp) ⟨#[61]⟩ (lit_sign (by decide)) (fun h => absurd h (by decide)) _ (words_one (by decide) (by decide))) ?_
  intro e w2 hq
  change WdQ C _ _ _ _ (liftD (takeT C.E [61] r) d) e w2 at hq
  cases ht1 : takeT C.E [61] r with
  | error f =>
    rw [ht1] at hq hR
    obtain ⟨rfl, hf⟩ := hq
    subst hR
    exact ⟨rfl, rfl, hf⟩
  | ok r1 =>
    rw [ht1] at hq hR
    obtain ⟨rfl, hg, -⟩ := hq
    simp only [bindL] at hR
    obtain ⟨hb2, hbP, hbl⟩ := hg.bxc
    have hbP2 : ¬ C.P = w1.heap.size + 1 := fun e => hbP e.symm
    obtain ⟨b0, b1, b2, b3, b4, bf⟩ := box5 hb2
    have HG2 := Hid.out (p := Hid _) hg
    clear hg hb2 hgA hg1
    go_wp2_with fail
    refine Calls.mono (qis1g HG2.out w2.heap.size rfl ⟨#[99, 97, 115]⟩ (lit_word (by decide))) ?_
    rintro e w3 ⟨rfl, hb3⟩
    have hg3 := HG2.out.below hb3
    obtain ⟨hbx3, -, hbl3⟩ := hg3.bxc
    obtain ⟨c0, c1, c2, c3, c4, cf⟩ := box5 hbx3
    have HG3 := Hid.out (p := Hid _) hg3
    clear hg3 hb3 hbx3 b0 b1 b2 b3 b4 bf
    cases hc : isTok wCas r1 with
    | true =>
      rw [if_pos hc] at hR
      have HX := Hid.out (p := Hid _) (qcas HG3.out (casT C.E d r1) rfl)
      clear hc
      go_wp2_with fail
      refine Calls.mono HX.out ?_
      intro e w4 hq
      cases hx : casT C.E d r1 with
      | error f =>
        rw [hx] at hq hR
        obtain ⟨rfl, hf⟩ := hq
        subst hR
        exact ⟨rfl, rfl, hf⟩
      | ok y =>
        obtain ⟨xs, q4⟩ := y
        rw [hx] at hq hR
        obtain ⟨g4, n4, rfl, hg4⟩ := hq
        simp only [bindT] at hR
        obtain ⟨hbx4, -, hbl4⟩ := hg4.bxc
        obtain ⟨d0, d1, d2, d3, d4, df⟩ := box5 hbx4
        have HG4 := Hid.out (p := Hid _) hg4
        clear hg4 hx hbx4 HX c0 c1 c2 c3 c4 cf
        go_wp2_with fail
        have hg5 := (HG4.out.set0 (.int .i64 8)).set4 (.slice (some ⟨g4, 0, none⟩) n4 n4)
        refine Calls.mono (qword1g hg5 w4.heap.size (by rw [set_size, set_size]) ⟨#[59]⟩ (lit_sign (by decide)) (fun h => absurd h (by decide)) _ (words_one (by decide) (by decide))) ?_
        intro e w5 hq
        change WdQ C _ _ _ _ (liftD (takeT C.E [59] q4) d) e w5 at hq
        cases ht : takeT C.E [59] q4 with
        | error f =>
          rw [ht] at hq hR
          obtain ⟨rfl, hf⟩ := hq
          subst hR
          exact ⟨rfl, rfl, hf⟩
        | ok p =>
          rw [ht] at hq hR
          obtain ⟨rfl, hg6, -⟩ := hq
          obtain ⟨hbx6, -, hbl6⟩ := hg6.bxc
          obtain ⟨e0, e1, e2, e3, e4, ef⟩ := box5 hbx6
          have HG6 := Hid.out (p := Hid _) hg6
          have HR := Hid.out (p := Hid _) hR
          have hfe : (rows ++ flats rows.length xs).length + 1 + p.length ≤ C.T.length := by
            have := HSZ.out _ _ hR
            rw [kids_size] at this
            rw [List.length_append, flats_len]
            omega
          clear hg6 hg5 hbx6 hR ht d0 d1 d2 d3 d4 df
          go_wp2_with fail
          refine Calls.mono (qadd HG6.out 8 0 t.pos t.text (idxs rows.length xs) _ _ _ (Or.inl (List.mem_cons_self ..)) hfe) ?_
          rintro e w7 ⟨rfl, hg7⟩
          have HG7 := Hid.out (p := Hid _) hg7.drop
          clear hg7
          go_wp2_with fail
          go_ret
          rw [HR.out]
          refine ⟨?_, ?_⟩
          · exact ret_int (by first | (rw [List.length_append, flats_len, kids_size]; omega) | (rw [flats_len, kids_size]; omega))
          · rw [flat, ← List.append_assoc]
            exact HG7.out
    | false =>
      rw [if_neg (by rw [hc]; decide)] at hR
      unfold etT at hR
      have HX := Hid.out (p := Hid _) (qexpr0 (E := C.E) r1 d C w3 _ [] _ rfl HG3.out)
      clear hc
      go_wp2_with fail
      refine Calls.mono HX.out ?_
      intro e w4 hq
      cases hx : exprT C.E 0 d r1 with
      | error f =>
        rw [hx] at hq hR
        obtain ⟨rfl, hf⟩ := hq
        subst hR
        exact ⟨rfl, rfl, hf⟩
      | ok y =>
        obtain ⟨x, q4⟩ := y
        rw [hx] at hq hR
        obtain ⟨rfl, hg4⟩ := hq
        simp only [bindT] at hR
        obtain ⟨v, hv⟩ : ∃ v, v = ((rows.length + ndSize x : Nat) : Int) - 1 := ⟨_, rfl⟩
        rw [← hv]
        have HV := Hid.out (p := Hid _) hv
        obtain ⟨hbx4, -, hbl4⟩ := hg4.bxc
        obtain ⟨d0, d1, d2, d3, d4, df⟩ := box5 hbx4
        have HG4 := Hid.out (p := Hid _) hg4
        clear hg4 hx hbx4 HX c0 c1 c2 c3 c4 cf hv
        go_wp2_with fail
        have hg5 := (HG4.out.set4 (.slice (some ⟨w4.heap.size, 0, none⟩) 1 1)).kids [v] 1 rfl (Nat.le_refl _) #[.int .i64 v] rfl (by decide) w4.heap.size (by rw [set_size])
        refine Calls.mono (qword1g hg5 (w4.heap.size + 1) (by simp) ⟨#[59]⟩ (lit_sign (by decide)) (fun h => absurd h (by decide)) _ (words_one (by decide) (by decide))) ?_
        intro e w5 hq
        change WdQ C _ _ _ _ (liftD (takeT C.E [59] q4) d) e w5 at hq
        cases ht : takeT C.E [59] q4 with
        | error f =>
          rw [ht] at hq hR
          obtain ⟨rfl, hf⟩ := hq
          subst hR
          exact ⟨rfl, rfl, hf⟩
        | ok p =>
          rw [ht] at hq hR
          obtain ⟨rfl, hg6, -⟩ := hq
          obtain ⟨hbx6, -, hbl6⟩ := hg6.bxc
          obtain ⟨e0, e1, e2, e3, e4, ef⟩ := box5 hbx6
          have HG6 := Hid.out (p := Hid _) hg6
          have HR := Hid.out (p := Hid _) hR
          have hfe : (rows ++ flat rows.length x).length + 1 + p.length ≤ C.T.length := by
            have := HSZ.out _ _ hR
            rw [size_one] at this
            rw [List.length_append, flat_len]
            omega
          clear hg6 hg5 hbx6 hR ht d0 d1 d2 d3 d4 df
          go_wp2_with fail
          refine Calls.mono (qadd HG6.out 7 0 t.pos t.text [v] _ _ _ (Or.inl (List.mem_cons_self ..)) hfe) ?_
          rintro e w7 ⟨rfl, hg7⟩
          have HG7 := Hid.out (p := Hid _) hg7.drop
          clear hg7
          go_wp2_with fail
          go_ret
          rw [HR.out]
          refine ⟨?_, ?_⟩
          · exact ret_int (by first | (rw [List.length_append, flat_len, size_one]; omega) | (rw [flat_len, size_one]; omega))
          · have h7 : rows ++ flat rows.length (.mk 7 0 t.pos t.text [x]) = (rows ++ flat rows.length x) ++ [⟨7, 0, t.pos, t.text, [v]⟩] := by
              rw [HV.out]
              simp [flat, flats, idxs]
            rw [h7]
            exact HG7.out
end

end Go.Proofs.YtclnjhffcfkihaeGreatDoor
