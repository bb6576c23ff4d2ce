/-
  The program's parser: primary ones, signs ahead.
-/
import Derived.Test.YtclnjhffcfkihaeGreatDoorSynC
namespace Go.Proofs.YtclnjhffcfkihaeGreatDoor
open Go.RowKit

section
variable {C : Cx9} {w w' : World} {d : Nat} {bx : Option (Nat × Obj)} {ps : List (List Int × Value)} {l : List Tok} {rows : List Row}
theorem qopenG (h : GoP C w d bx ps l rows) (hd : d ≠ 20) :
    Calls Tryz.prog 115 #[.pointer (some ⟨C.P, 0, none⟩)] w fun e w' => e = .returned (.tuple #[]) ∧ GoP C w' (d + 1) bx ps l rows := by
  obtain ⟨lv, i, ys, h⟩ := h
  refine (qopen_yes h hd).mono ?_
  rintro e w' ⟨rfl, hb, ho⟩
  have hx := h.only (d' := d + 1) ho (Nat.le_refl i) h.q.le (by have := h.q.dle; omega) hb
  rw [h.is] at hx
  exact ⟨rfl, hx⟩
theorem qshutG (h : GoP C w (d + 1) bx ps l rows) :
    Calls Tryz.prog 116 #[.pointer (some ⟨C.P, 0, none⟩)] w fun e w' => e = .returned (.tuple #[]) ∧ GoP C w' d bx ps l rows := by
  obtain ⟨lv, i, ys, h⟩ := h
  refine (qshut h).mono ?_
  rintro e w' ⟨rfl, hb, ho⟩
  have hx := h.only (d' := d) ho (Nat.le_refl i) h.q.le (by have := h.q.dle; omega) hb
  rw [h.is] at hx
  exact ⟨rfl, hx⟩
end
section
variable {E : Int} {d : Nat} {l : List Tok}
set_option maxRecDepth 100000 in
set_option maxHeartbeats 1600000 in
theorem qprim_num {t : Tok} {r : List Tok} (hk : t.kind = 3) : Cpr 171 [] E d (t :: r) (.ok (.mk 15 t.num t.pos [] [], r)) := by
  refine cpr_of fun C w rows hE hg => ?_
  subst hE
  have hfw := hg.fewR
  have hpl := kind_plain (hfw.2.2.2 t (List.mem_cons_self ..)) (Or.inr hk)
  have hst : stepD t.text d = d := by unfold stepD; rw [if_neg hpl.1, if_neg hpl.2]
  have HN := Hid.out (p := Hid _) (qnext hg)
  have HG := Hid.out (p := Hid _) hg
  have HPL := Hid.out (p := Hid _) hpl
  have HST := Hid.out (p := Hid _) hst
  have hfd := fld0
  have hk3 : ((tokE C.E (t :: r)).kind == 3) = true := by simp [tokE, hk]
  have hfe : rows.length + 1 + r.length ≤ C.T.length := by have := hfw.1; simp only [List.length_cons] at this; omega
  clear hg hpl hst hfw
  go_enter Tryz.func171, Tryz.ntmps171
  go_wp2_with (first
    | (go_at_call 57; refine Calls.mono HN.out ?_; rintro e w1 ⟨rfl, hb⟩; have HG1 := Hid.out (p := Hid _) (HG.out.below hb); clear hb)
    | (go_at_call 88; refine Calls.mono (qtake_any HG1.out (fun h => absurd h HPL.out.1) (fun h => absurd h HPL.out.2)) ?_; rintro e w2 ⟨rfl, hg2, -⟩; rw [HST.out] at hg2; have HG2 := Hid.out (p := Hid _) hg2; clear hg2)
    | (go_at_call 59; refine Calls.mono (qadd (HG2.out.below ((Below.refl _ _).alloc (Nat.le_refl _) _)) 15 t.num t.pos [] [] none 0 0 (Or.inr ⟨rfl, rfl⟩) hfe) ?_; rintro e w3 ⟨rfl, hg3⟩))
  go_ret
  refine ⟨by rw [size_none]; simp, ?_⟩
  simpa [flat, flats, idxs] using hg3
set_option maxRecDepth 100000 in
set_option maxHeartbeats 1600000 in
theorem qprim_name (hk : (tokE E l).kind ≠ 3) (h4 : isTok [40] l = false) : Cpr 171 [] E d l (nmT E l) := by
  refine cpr_of fun C w rows hE hg => ?_
  subst hE
  have HN := Hid.out (p := Hid _) (qnext hg)
  have HG := Hid.out (p := Hid _) hg
  have hfd := fld0
  have hk3 : ((tokE C.E l).kind == 3) = false := by simpa using hk
  have HI4 := Hid.out (p := Hid _) h4
  obtain ⟨R, hR⟩ : ∃ R, R = nmT C.E l := ⟨_, rfl⟩
  rw [← hR]
  have HX : Hid (∀ w1, GoP C w1 d none [] l rows → Calls Tryz.prog 164 #[.pointer (some ⟨C.P, 0, none⟩)] w1 fun e w' => PrQ C w' d none [] rows R e) := fun w1 h1 => by
    rw [hR]
    exact qname C w1 none [] rows rfl h1
  clear hg hR h4 hk
  go_enter Tryz.func171, Tryz.ntmps171
  go_wp2_with (first
    | (go_at_call 57; refine Calls.mono HN.out ?_; rintro e w1 ⟨rfl, hb⟩; have HG1 := Hid.out (p := Hid _) (HG.out.below hb); clear hb)
    | (go_at_call 54; refine Calls.mono (qis1 HG1.out _ (lit_sign (by decide))) ?_; rintro e w2 ⟨rfl, hb⟩; rw [show isTok (⟨#[40]⟩ : ByteArray).data.toList l = false from HI4.out]; have HG2 := Hid.out (p := Hid _) (HG1.out.below hb); clear hb))
  refine Calls.mono (HX.out _ HG2.out) ?_
  intro e w3 hq
  cases R with
  | error f =>
    obtain ⟨rfl, hf⟩ := hq
    exact ⟨rfl, rfl, hf⟩
  | ok y =>
    obtain ⟨x, q⟩ := y
    obtain ⟨rfl, hg3⟩ := hq
    have HG3 := Hid.out (p := Hid _) hg3
    clear hg3
    go_wp2_with fail
    go_ret
    exact ⟨rfl, HG3.out⟩
set_option maxRecDepth 100000 in
set_option maxHeartbeats 1600000 in
theorem qsigned {S : List UInt8} (k : Int) (hS : S = [45] ∨ S = [33]) (hi : isTok S l = true) (IH : d + 1 ≤ 20 → Cpr 165 [] E (d + 1) l.tail (unaryT E (d + 1) l.tail)) : Cpr 170 [.int .i64 k] E d l (bindL (openT E S d l) fun r => bindT (unaryT E (d + 1) r) fun x q => .ok (.mk k 0 (posOf E l) [] [x], q)) := by
  refine cpr_of fun C w rows hE hg => ?_
  subst hE
  have hfw := hg.fewR
  obtain ⟨t, r, rfl⟩ : ∃ t r, l = t :: r := by
    cases l with
    | nil => cases hi
    | cons t r => exact ⟨t, r, rfl⟩
  have htx : t.text = S := by
    simp only [isTok, Bool.and_eq_true, decide_eq_true_eq] at hi
    exact hi.2
  by_cases h20 : d = 20
  · have ho : openT C.E S d (t :: r) = .error (6, t.pos) := by unfold openT; rw [if_pos ⟨hi, h20⟩]; rfl
    rw [ho]
    subst h20
    have HO := Hid.out (p := Hid _) (qopen_no hg)
    clear hg hi htx ho
    go_enter Tryz.func170, Tryz.ntmps170
    go_wp2_with (go_at_call 115; refine Calls.mono HO.out ?_; rintro e w1 ⟨rfl, hf⟩)
    exact ⟨rfl, rfl, hf⟩
  · have ho : openT C.E S d (t :: r) = .ok r := by unfold openT takeT; rw [if_neg (fun h => h20 h.2), if_pos hi]; rfl
    rw [ho]
    simp only [bindL]
    have hpl : ¬ opB t.text ∧ ¬ shB t.text := by rw [htx]; rcases hS with rfl | rfl <;> decide
    have hst : ∀ n, stepD t.text n = n := fun n => by unfold stepD; rw [if_neg hpl.1, if_neg hpl.2]
    have HO := Hid.out (p := Hid _) (qopenG hg h20)
    have HPL := Hid.out (p := Hid _) hpl
    have HST := Hid.out (p := Hid _) hst
    have HX := Hid.out (p := Hid _) (IH (by have := hfw.2.2.1; omega))
    obtain ⟨R, hR⟩ : ∃ R : TRes Nd, R = bindT (unaryT C.E (d + 1) r) fun x q => .ok (.mk k 0 (posOf C.E (t :: r)) [] [x], q) := ⟨_, rfl⟩
    rw [← hR]
    have HSZ : Hid (∀ x q, unaryT C.E (d + 1) r = .ok (x, q) → rows.length + ndSize x + 1 + q.length ≤ C.T.length) := fun x q hx => by
      obtain ⟨n, y, hy⟩ := un_tot (e := C.E) (d + 1) r
      have h3 := tld_is (un_up r) hy
      have h4 := (expr_size n).2.2.1 _ _ _ _ (hy.trans (congrArg some (h3.symm.trans hx)))
      have h5 := hfw.1
      simp only [List.length_cons] at h5
      omega
    clear hg hi ho hpl hst IH htx
    go_enter Tryz.func170, Tryz.ntmps170
    go_wp2_with (first
      | (go_at_call 115; refine Calls.mono HO.out ?_; rintro e w1 ⟨rfl, hg1⟩; have HG1 := Hid.out (p := Hid _) hg1; clear hg1)
      | (go_at_call 88; refine Calls.mono (qtake_any HG1.out (fun h => absurd h HPL.out.1) (fun h => absurd h HPL.out.2)) ?_; rintro e w2 ⟨rfl, hg2, -⟩; rw [HST.out] at hg2; have HG2 := Hid.out (p := Hid _) hg2; clear hg2))
    have hg2 := HG2.out.box (.cells #[.int .i64 t.kind, .int .i64 t.num, .int .i64 t.pos, .string ⟨⟨t.text⟩⟩] 66)
    refine Calls.mono (HX.out C _ _ _ _ rfl hg2) ?_
    intro e w3 hq
    simp only [List.tail_cons] at hq
    cases hx : unaryT C.E (d + 1) r with
    | error f =>
      rw [hx] at hq hR
      obtain ⟨rfl, hf⟩ := hq
      subst hR
      exact ⟨rfl, rfl, hf⟩
    | ok y =>
      obtain ⟨x, q⟩ := y
      rw [hx] at hq hR
      obtain ⟨rfl, hg3⟩ := hq
      have hfe := HSZ.out x q hx
      have HG3 := Hid.out (p := Hid _) hg3
      have HR := Hid.out (p := Hid _) hR
      clear hg3 hg2 hx hR
      go_wp2_with fail
      refine Calls.mono (qshutG HG3.out) ?_
      rintro e w4 ⟨rfl, hg4⟩
      obtain ⟨hb4, hbP, hbl⟩ := hg4.bxc
      obtain ⟨b0, b1, b2, b3, bf⟩ := box4 hb4
      have HG4 := Hid.out (p := Hid _) hg4
      clear hg4 hb4
      go_wp2_with fail
      refine Calls.mono (qadd (HG4.out.kids [((rows.length + ndSize x : Nat) : Int) - 1] 1 rfl (Nat.le_refl _) _ rfl (by decide) w4.heap.size rfl) k 0 t.pos [] [((rows.length + ndSize x : Nat) : Int) - 1] _ _ _ (Or.inl (List.mem_cons_self ..)) (by rw [List.length_append, flat_len]; omega)) ?_
      rintro e w5 ⟨rfl, hg5⟩
      have HG5 := Hid.out (p := Hid _) hg5.drop
      clear hg5
      go_wp2_with fail
      go_ret
      rw [HR.out]
      refine ⟨?_, ?_⟩
      · exact ret_int (by rw [flat_len, size_one]; omega)
      · have h7 : rows ++ flat rows.length (.mk k 0 (posOf C.E (t :: r)) [] [x]) = (rows ++ flat rows.length x) ++ [⟨k, 0, t.pos, [], [((rows.length + ndSize x : Nat) : Int) - 1]⟩] := by
          simp [flat, flats, idxs, posOf]
        rw [h7]
        exact HG5.out
set_option maxRecDepth 100000 in
set_option maxHeartbeats 1600000 in
/-- What a sign stands ahead of, or what has none. -/
theorem qahead (IHu : ∀ r, r.length < l.length → d + 1 ≤ 20 → Cpr 165 [] E (d + 1) r (unaryT E (d + 1) r)) (IHe : ∀ r, r.length < l.length → d + 1 ≤ 20 → Cpr 152 [.int .i64 1] E (d + 1) r (exprT E 0 (d + 1) r)) : Cpr 165 [] E d l (unaryT E d l) := by
  refine cpr_of fun C w rows hE hg => ?_
  subst hE
  have hl := hg.fewR.2.2.2
  have HN := Hid.out (p := Hid _) (qnext hg)
  have HG := Hid.out (p := Hid _) hg
  have hfd := fld3
  obtain ⟨R, hR⟩ : ∃ R, R = unaryT C.E d l := ⟨_, rfl⟩
  rw [← hR]
  have h45 := lit_text (C := C) (lit_sign (b := 45) (by decide)) hl
  have h33 := lit_text (C := C) (lit_sign (b := 33) (by decide)) hl
  rw [unaryT_is] at hR
  by_cases h1 : isTok [45] l = true
  · rw [if_pos h1] at hR
    have e1 : ((tokE C.E l).text == [45]) = true := by
      rw [h1] at h45; simpa using h45
    have HX : Hid (∀ w1, GoP C w1 d none [] l rows → Calls Tryz.prog 170 #[.pointer (some ⟨C.P, 0, none⟩), .int .i64 17] w1 fun e w' => PrQ C w' d none [] rows R e) := fun w1 hg1 => by
      rw [hR]
      exact qsigned 17 (Or.inl rfl) h1 (IHu l.tail (is_len h1)) C w1 none [] rows rfl hg1
    clear hg hR h1 h45 h33
    go_enter Tryz.func165, Tryz.ntmps165
    go_wp2_with (go_at_call 57; refine Calls.mono HN.out ?_; rintro e w1 ⟨rfl, hb⟩; have HG1 := Hid.out (p := Hid _) (HG.out.below hb); clear hb)
    refine Calls.mono (HX.out _ HG1.out) ?_
    intro e w3 hq
    cases R with
    | error f => obtain ⟨rfl, hf⟩ := hq; exact ⟨rfl, rfl, hf⟩
    | ok y =>
      obtain ⟨x, q⟩ := y
      obtain ⟨rfl, hg3⟩ := hq
      have HG3 := Hid.out (p := Hid _) hg3
      clear hg3
      go_wp2_with fail
      go_ret
      exact ⟨rfl, HG3.out⟩
  · rw [if_neg h1] at hR
    have e1 : ((tokE C.E l).text == [45]) = false := by
      rw [Bool.eq_false_iff.2 h1] at h45; simpa using h45
    by_cases h2 : isTok [33] l = true
    · rw [if_pos h2] at hR
      have e2 : ((tokE C.E l).text == [33]) = true := by
        rw [h2] at h33; simpa using h33
      have HX : Hid (∀ w1, GoP C w1 d none [] l rows → Calls Tryz.prog 170 #[.pointer (some ⟨C.P, 0, none⟩), .int .i64 18] w1 fun e w' => PrQ C w' d none [] rows R e) := fun w1 hg1 => by
        rw [hR]
        exact qsigned 18 (Or.inr rfl) h2 (IHu l.tail (is_len h2)) C w1 none [] rows rfl hg1
      clear hg hR h1 h2 h45 h33
      go_enter Tryz.func165, Tryz.ntmps165
      go_wp2_with (go_at_call 57; refine Calls.mono HN.out ?_; rintro e w1 ⟨rfl, hb⟩; have HG1 := Hid.out (p := Hid _) (HG.out.below hb); clear hb)
      refine Calls.mono (HX.out _ HG1.out) ?_
      intro e w3 hq
      cases R with
      | error f => obtain ⟨rfl, hf⟩ := hq; exact ⟨rfl, rfl, hf⟩
      | ok y =>
        obtain ⟨x, q⟩ := y
        obtain ⟨rfl, hg3⟩ := hq
        have HG3 := Hid.out (p := Hid _) hg3
        clear hg3
        go_wp2_with fail
        go_ret
        exact ⟨rfl, HG3.out⟩
    · rw [if_neg h2] at hR
      have e2 : ((tokE C.E l).text == [33]) = false := by
        rw [Bool.eq_false_iff.2 h2] at h33; simpa using h33
      have HX : Hid (∀ w1, GoP C w1 d none [] l rows → Calls Tryz.prog 171 #[.pointer (some ⟨C.P, 0, none⟩)] w1 fun e w' => PrQ C w' d none [] rows R e) := fun w1 hg1 => by
        rw [hR]
        by_cases h3 : isTok [40] l = true
        · rw [if_pos h3]
          exact qprim_held h3 IHe C w1 none [] rows rfl hg1
        · rw [if_neg h3]
          by_cases hk : ∃ t r, l = t :: r ∧ t.kind = 3
          · obtain ⟨t, r, rfl, hk⟩ := hk
            rw [prim_is _ t r rfl hk]
            exact qprim_num hk C w1 none [] rows rfl hg1
          · have hk2 : (tokE C.E l).kind ≠ 3 := fun h => by
              cases l with
              | nil => cases h
              | cons t r => exact hk ⟨t, r, rfl, h⟩
            have hpn : primT C.E l = nmT C.E l := by
              have ht : ∃ f, tnumT C.E l = .error f := by
                match l, hk2 with
                | [], _ => exact ⟨_, rfl⟩
                | t :: r, hk2 => exact ⟨_, by rw [tnumT, if_neg (show ¬ t.kind = 3 from hk2)]⟩
              obtain ⟨f, hf⟩ := ht
              unfold primT nmT
              rw [hf]
              cases nameT C.E l with
              | error f => rfl
              | ok y => rfl
            rw [hpn]
            exact qprim_name hk2 (by simpa using h3) C w1 none [] rows rfl hg1
      clear hg hR h1 h2 h45 h33
      go_enter Tryz.func165, Tryz.ntmps165
      go_wp2_with (go_at_call 57; refine Calls.mono HN.out ?_; rintro e w1 ⟨rfl, hb⟩; have HG1 := Hid.out (p := Hid _) (HG.out.below hb); clear hb)
      refine Calls.mono (HX.out _ HG1.out) ?_
      intro e w3 hq
      cases R with
      | error f => obtain ⟨rfl, hf⟩ := hq; exact ⟨rfl, rfl, hf⟩
      | ok y =>
        obtain ⟨x, q⟩ := y
        obtain ⟨rfl, hg3⟩ := hq
        have HG3 := Hid.out (p := Hid _) hg3
        clear hg3
        go_wp2_with fail
        go_ret
        exact ⟨rfl, HG3.out⟩
end

end Go.Proofs.YtclnjhffcfkihaeGreatDoor
