/-
  The program's parser: locks; the kids of a cas.
-/
import Derived.Test.YtclnjhffcfkihaeGreatDoorSqL
namespace Go.Proofs.YtclnjhffcfkihaeGreatDoor
open Go.RowKit

theorem words_two_s {E : Int} {d : Nat} {l : List Tok} {y z : List UInt8} (h2 : shB y) : wordsR E (d + 1) [y, z] l = match takeT E y l with
    | .error q => .error q
    | .ok r => wordsR E d [z] r := by
  have h1 : ¬ opB y := by rcases h2 with rfl | rfl <;> decide
  rw [wordsR, takeT]
  split
  · rw [if_neg (fun h => h1 h.1)]
    unfold stepD
    rw [if_neg h1, if_pos h2]
    rfl
  · rfl
/-- What a function leaves that hands kids back. -/
def KdQ (C : Cx9) (w : World) (d : Nat) (bx : Option (Nat × Obj)) (rows : List Row) (r : TRes (List Nd)) (e : Ending) : Prop :=
  match r with
  | .ok (xs, q) => ∃ g n, e = .returned (.slice (some ⟨g, 0, none⟩) n n) ∧ GoP C w d bx [(idxs rows.length xs, .slice (some ⟨g, 0, none⟩) n n)] q (rows ++ flats rows.length xs)
  | .error f => e = .panicked (badF f) ∧ FrP C w

section
variable {E : Int} {d : Nat} {l : List Tok}
set_option maxRecDepth 100000 in
set_option maxHeartbeats 1600000 in
theorem qofLock (k : Int) {t : Tok} {r : List Tok} (hpl : ¬ opB t.text ∧ ¬ shB t.text) : Cpr 136 [.int .i64 k] E d (t :: r) (bindL (openT E [40] d r) fun r => bindT (nameT E r) fun s r => bindL (takeT E [41] r) fun r => bindL (takeT E [59] r) fun q => .ok (.mk k 0 t.pos s [], q)) := by
  refine cpr_of fun C w rows hE hg => ?_
  subst hE
  have hfw := hg.fewR
  have hst : stepD t.text d = d := by unfold stepD; rw [if_neg hpl.1, if_neg hpl.2]
  have HT := Hid.out (p := Hid _) (qtake_any hg (fun h => absurd h hpl.1) (fun h => absurd h hpl.2))
  have HST := Hid.out (p := Hid _) hst
  have hfd := fld2
  have hfd3 := fld3
  obtain ⟨R, hR⟩ : ∃ R : TRes Nd, R = bindL (openT C.E [40] d r) fun r => bindT (nameT C.E r) fun s r => bindL (takeT C.E [41] r) fun r => bindL (takeT C.E [59] r) fun q => .ok (.mk k 0 t.pos s [], q) := ⟨_, rfl⟩
  rw [← hR]
  clear hg hpl hst
  go_enter Tryz.func136, Tryz.ntmps136
  go_wp2_with (go_at_call 88; refine Calls.mono HT.out ?_; rintro e w1 ⟨rfl, hg, -⟩; rw [HST.out] at hg; have HG1 := Hid.out (p := Hid _) hg; clear hg)
  have hg1 := HG1.out.box (.cells #[.int .i64 k, .int .i64 0, .int .i64 t.pos, .string ⟨#[]⟩, nilV] 53)
  refine Calls.mono (qword1g hg1 (w1.heap.size + 1) (by simp) ⟨#[40]⟩ (lit_sign (by decide)) (fun h => absurd h (by decide)) _ (words_open (Or.inl rfl))) ?_
  intro e w2 hq
  change WdQ C _ _ _ _ (liftD (openT C.E [40] d r) (d + 1)) e w2 at hq
  cases ht1 : openT C.E [40] d r with
  | error f =>
    rw [ht1] at hq hR
    obtain ⟨rfl, hf⟩ := hq
    subst hR
    exact ⟨rfl, rfl, hf⟩
  | ok r1 =>
    rw [ht1] at hq hR
    obtain ⟨rfl, hg, -⟩ := hq
    simp only [bindL] at hR
    have k1 := open_len ht1
    cases hn : nameT C.E r1 with
    | error f =>
      obtain ⟨hf5, hk⟩ := name_no9 hn
      rw [hn] at hR
      have HK := Hid.out (p := Hid _) (qkind_no hg 1 hk)
      clear hg hg1
      go_wp2_with fail
      refine Calls.mono HK.out ?_
      rintro e w3 ⟨rfl, hf⟩
      subst hf5 hR
      exact ⟨rfl, rfl, hf⟩
    | ok y =>
      obtain ⟨s, r2⟩ := y
      have k2 := name_len hn
      obtain ⟨t2, rfl, hkt, rfl⟩ := name_ok9 hn
      rw [hn] at hR
      simp only [bindT] at hR
      have HK := Hid.out (p := Hid _) (qkind_yes hg 1 hkt (Or.inl rfl))
      clear hg hg1
      go_wp2_with fail
      refine Calls.mono HK.out ?_
      rintro e w3 ⟨rfl, hg3, -⟩
      obtain ⟨hb3, hbP, hbl⟩ := hg3.bxc
      have hbP2 : ¬ C.P = w1.heap.size := fun e => hbP e.symm
      obtain ⟨b0, b1, b2, b3, b4, bf⟩ := box5 hb3
      have HG3 := Hid.out (p := Hid _) hg3
      clear hg3 hb3
      go_wp2_with fail
      have hg4 := HG3.out.set3 (.string ⟨⟨t2.text⟩⟩)
      refine Calls.mono (qword2g hg4 w3.heap.size (by rw [set_size]) ⟨#[41]⟩ ⟨#[59]⟩ (lit_sign (by decide)) (lit_sign (by decide)) ⟨fun _ => Nat.le_add_left 1 d, ⟨fun h => absurd h (by decide), trivial⟩⟩ _ (words_two_s (Or.inl rfl))) ?_
      intro e w4 hq
      change WdQ C _ _ _ _ (match takeT C.E [41] r2 with
          | .error q => .error q
          | .ok r => wordsR C.E d [[59]] r) e w4 at hq
      cases ht3 : takeT C.E [41] r2 with
      | error f =>
        rw [ht3] at hq hR
        obtain ⟨rfl, hf⟩ := hq
        subst hR
        exact ⟨rfl, rfl, hf⟩
      | ok r3 =>
        rw [ht3] at hq hR
        simp only at hR
        simp only at hq
        rw [words_one (by decide) (by decide)] at hq
        cases ht4 : takeT C.E [59] r3 with
        | error f =>
          rw [ht4] at hq hR
          obtain ⟨rfl, hf⟩ := hq
          subst hR
          exact ⟨rfl, rfl, hf⟩
        | ok p =>
          rw [ht4] at hq hR
          obtain ⟨rfl, hg, -⟩ := hq
          have k3 := take_len ht3
          have k4 := take_len ht4
          obtain ⟨hb6, -, hbl6⟩ := hg.bxc
          obtain ⟨d0, d1, d2, d3, d4, df⟩ := box5 hb6
          have HG6 := Hid.out (p := Hid _) hg
          have HR := Hid.out (p := Hid _) hR
          have hfe : rows.length + 1 + p.length ≤ C.T.length := by
            have := hfw.1
            simp only [List.length_cons] at this k1 k2
            omega
          clear hg hR hb6 hg4 b0 b1 b2 b3 b4 bf
          go_wp2_with fail
          refine Calls.mono (qadd HG6.out k 0 t.pos t2.text [] none 0 0 (Or.inr ⟨rfl, rfl⟩) hfe) ?_
          rintro e w7 ⟨rfl, hg7⟩
          have HG7 := Hid.out (p := Hid _) hg7.drop
          clear hg7
          go_wp2_with fail
          go_ret
          rw [HR.out]
          refine ⟨by rw [size_none]; simp, ?_⟩
          simpa [flat, flats, idxs] using HG7.out
set_option maxRecDepth 100000 in
set_option maxHeartbeats 1600000 in
theorem qcas {C : Cx9} {w : World} {bx : Option (Nat × Obj)} {rows : List Row} (hg : GoP C w d bx [] l rows) (R : TRes (List Nd)) (hR : R = bindL (takeT C.E wCas l) fun r => bindL (openT C.E [40] d r) fun r => bindT (nmT C.E r) fun a q => bindL (takeT C.E [44] q) fun q => etT C.E (d + 1) [44] q fun b q => etT C.E (d + 1) [41] q fun c q => .ok ([a, b, c], q)) :
    Calls Tryz.prog 151 #[.pointer (some ⟨C.P, 0, none⟩)] w fun e w' => KdQ C w' d bx rows R e := by
  have HW := Hid.out (p := Hid _) (qword2 hg ⟨#[99, 97, 115]⟩ ⟨#[40]⟩ (lit_word (by decide)) (lit_sign (by decide)) ⟨fun h => absurd h (by decide), ⟨fun h => absurd h (by decide), trivial⟩⟩ _ (words_two (by decide) (by decide)))
  clear hg
  go_enter Tryz.func151, Tryz.ntmps151
  go_wp2_with fail
  refine Calls.mono HW.out ?_
  intro e w1 hq
  change WdQ C _ _ _ _ (match takeT C.E wCas l with
      | .error q => .error q
      | .ok r => wordsR C.E d [[40]] r) e w1 at hq
  cases ht1 : takeT C.E wCas l with
  | error f =>
    rw [ht1] at hq hR
    obtain ⟨rfl, hf⟩ := hq
    subst hR
    exact ⟨rfl, rfl, hf⟩
  | ok r0 =>
    rw [ht1] at hq hR
    simp only [bindL] at hR
    simp only at hq
    rw [words_open (Or.inl rfl)] at hq
    cases ht2 : openT C.E [40] d r0 with
    | error f =>
      rw [ht2] at hq hR
      obtain ⟨rfl, hf⟩ := hq
      subst hR
      exact ⟨rfl, rfl, hf⟩
    | ok r1 =>
      rw [ht2] at hq hR
      obtain ⟨rfl, hg, -⟩ := hq
      simp only at hR
      have HX := Hid.out (p := Hid _) (qname (E := C.E) (l := r1) (d := d + 1) C w1 bx [] rows rfl hg)
      clear hg
      go_wp2_with fail
      refine Calls.mono (HX.out) ?_
      intro e w2 hq
      cases hx1 : nmT C.E r1 with
      | error f =>
        rw [hx1] at hq hR
        obtain ⟨rfl, hf⟩ := hq
        subst hR
        exact ⟨rfl, rfl, hf⟩
      | ok y =>
        obtain ⟨a, q2⟩ := y
        rw [hx1] at hq hR
        obtain ⟨rfl, hg⟩ := hq
        simp only [bindT] at hR
        obtain ⟨va, hva⟩ : ∃ v, v = ((rows.length + ndSize a : Nat) : Int) - 1 := ⟨_, rfl⟩
        rw [← hva]
        have HVA := Hid.out (p := Hid _) hva
        have HG2 := Hid.out (p := Hid _) hg
        clear hg hva HX
        go_wp2_with fail
        refine Calls.mono (qword1 HG2.out ⟨#[44]⟩ (lit_sign (by decide)) (fun h => absurd h (by decide)) _ (words_one (by decide) (by decide))) ?_
        intro e w3 hq
        change WdQ C _ _ _ _ (liftD (takeT C.E [44] q2) (d + 1)) e w3 at hq
        cases ht2 : takeT C.E [44] q2 with
        | error f =>
          rw [ht2] at hq hR
          obtain ⟨rfl, hf⟩ := hq
          subst hR
          exact ⟨rfl, rfl, hf⟩
        | ok q3 =>
          rw [ht2] at hq hR
          obtain ⟨rfl, hg, -⟩ := hq
          simp only [bindL, etT] at hR
          have HX := Hid.out (p := Hid _) (qexpr0 (E := C.E) q3 (d + 1) C w3 bx [] _ rfl hg)
          clear hg
          go_wp2_with fail
          refine Calls.mono (HX.out) ?_
          intro e w4 hq
          cases hx3 : exprT C.E 0 (d + 1) q3 with
          | error f =>
            rw [hx3] at hq hR
            obtain ⟨rfl, hf⟩ := hq
            subst hR
            exact ⟨rfl, rfl, hf⟩
          | ok y =>
            obtain ⟨b, q4⟩ := y
            rw [hx3] at hq hR
            obtain ⟨rfl, hg⟩ := hq
            simp only [bindT] at hR
            obtain ⟨vb, hvb⟩ : ∃ v, v = (((rows ++ flat rows.length a).length + ndSize b : Nat) : Int) - 1 := ⟨_, rfl⟩
            rw [← hvb]
            have HVB := Hid.out (p := Hid _) hvb
            have HG4 := Hid.out (p := Hid _) hg
            clear hg hvb HX
            go_wp2_with fail
            refine Calls.mono (qword1 HG4.out ⟨#[44]⟩ (lit_sign (by decide)) (fun h => absurd h (by decide)) _ (words_one (by decide) (by decide))) ?_
            intro e w5 hq
            change WdQ C _ _ _ _ (liftD (takeT C.E [44] q4) (d + 1)) e w5 at hq
            cases ht4 : takeT C.E [44] q4 with
            | error f =>
              rw [ht4] at hq hR
              obtain ⟨rfl, hf⟩ := hq
              subst hR
              exact ⟨rfl, rfl, hf⟩
            | ok q5 =>
              rw [ht4] at hq hR
              obtain ⟨rfl, hg, -⟩ := hq
              simp only at hR
              have HX := Hid.out (p := Hid _) (qexpr0 (E := C.E) q5 (d + 1) C w5 bx [] _ rfl hg)
              clear hg
              go_wp2_with fail
              refine Calls.mono (HX.out) ?_
              intro e w6 hq
              cases hx5 : exprT C.E 0 (d + 1) q5 with
              | error f =>
                rw [hx5] at hq hR
                obtain ⟨rfl, hf⟩ := hq
                subst hR
                exact ⟨rfl, rfl, hf⟩
              | ok y =>
                obtain ⟨c, q6⟩ := y
                rw [hx5] at hq hR
                obtain ⟨rfl, hg⟩ := hq
                simp only at hR
                obtain ⟨vc, hvc⟩ : ∃ v, v = (((rows ++ flat rows.length a ++ flat (rows ++ flat rows.length a).length b).length + ndSize c : Nat) : Int) - 1 := ⟨_, rfl⟩
                rw [← hvc]
                have HVC := Hid.out (p := Hid _) hvc
                have HG6 := Hid.out (p := Hid _) hg
                clear hg hvc HX
                go_wp2_with fail
                refine Calls.mono (qword1 HG6.out ⟨#[41]⟩ (lit_sign (by decide)) (fun _ => Nat.le_add_left 1 d) _ (words_shut (Or.inl rfl))) ?_
                intro e w7 hq
                change WdQ C _ _ _ _ (liftD (takeT C.E [41] q6) d) e w7 at hq
                cases ht6 : takeT C.E [41] q6 with
                | error f =>
                  rw [ht6] at hq hR
                  obtain ⟨rfl, hf⟩ := hq
                  subst hR
                  exact ⟨rfl, rfl, hf⟩
                | ok p =>
                  rw [ht6] at hq hR
                  obtain ⟨rfl, hg, -⟩ := hq
                  skip
                  have HG7 := Hid.out (p := Hid _) hg
                  have HR := Hid.out (p := Hid _) hR
                  clear hg hR
                  go_wp2_with fail
                  go_ret
                  rw [HR.out]
                  refine ⟨w7.heap.size, 3, rfl, ?_⟩
                  have hk := HG7.out.kids [va, vb, vc] 3 rfl (by decide) #[.int .i64 va, .int .i64 vb, .int .i64 vc] rfl (by decide) w7.heap.size rfl
                  have h1 : idxs rows.length [a, b, c] = [va, vb, vc] := by
                    rw [HVA.out, HVB.out, HVC.out]
                    simp only [idxs, List.length_append, flat_len]
                  have h2 : rows ++ flats rows.length [a, b, c] = rows ++ flat rows.length a ++ flat (rows ++ flat rows.length a).length b ++ flat (rows ++ flat rows.length a ++ flat (rows ++ flat rows.length a).length b).length c := by
                    simp only [flats, List.length_append, flat_len, List.append_nil, List.append_assoc, Nat.add_assoc]
                  rw [h1, h2]
                  exact hk
end

end Go.Proofs.YtclnjhffcfkihaeGreatDoor
