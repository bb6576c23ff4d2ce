/-
  The program's parser: primary ones, signs ahead.
  The program's parser: expressions.
-/
import Derived.Test.YtggfbfjdiikaeaaGreatDoorSqE
namespace Go.Proofs.YtggfbfjdiikaeaaGreatDoor
section
open Go.RowKit

section
variable {C : Cx9} {w w' : World} {d : Nat} {bx : Option (Nat × Obj)} {ps : List (List Int × Value)} {l : List Tok} {rows : List Row}
theorem qopenG (h : GoP C w d bx ps l rows) (hd : d ≠ 20) :
    Calls Tryz.prog 137 #[.pointer (some ⟨C.P, 0, none⟩)] w fun e w' => e = .returned (.tuple #[]) ∧ GoP C w' (d + 1) bx ps l rows := by
  obtain ⟨lv, i, ys, h⟩ := h
  refine (qopen_yes h hd).mono ?_
  rintro e w' ⟨rfl, hb, ho⟩
  have hx := h.only (d' := d + 1) ho (Nat.le_refl i) h.q.le (by have := h.q.dle; omega) hb
  rw [h.is] at hx
  exact ⟨rfl, hx⟩
theorem qshutG (h : GoP C w (d + 1) bx ps l rows) :
    Calls Tryz.prog 138 #[.pointer (some ⟨C.P, 0, none⟩)] w fun e w' => e = .returned (.tuple #[]) ∧ GoP C w' d bx ps l rows := by
  obtain ⟨lv, i, ys, h⟩ := h
  refine (qshut h).mono ?_
  rintro e w' ⟨rfl, hb, ho⟩
  have hx := h.only (d' := d) ho (Nat.le_refl i) h.q.le (by have := h.q.dle; omega) hb
  rw [h.is] at hx
  exact ⟨rfl, hx⟩
end
section
variable {E : Int} {d : Nat} {l : List Tok}
set_option maxRecDepth 100000 in
set_option maxHeartbeats 1600000 in
theorem qprim_num {t : Tok} {r : List Tok} (hk : t.kind = 3) : Cpr 175 [] E d (t :: r) (.ok (.mk 15 t.num t.pos [] [], r)) := by
  refine cpr_of fun C w rows hE hg => ?_
  subst hE
  have hfw := hg.fewR
  have hpl := kind_plain (hfw.2.2.2 t (List.mem_cons_self ..)) (Or.inr hk)
  have hst : stepD t.text d = d := by unfold stepD; rw [if_neg hpl.1, if_neg hpl.2]
  have HN := Hid.out (p := Hid _) (qnext hg)
  have HG := Hid.out (p := Hid _) hg
  have HPL := Hid.out (p := Hid _) hpl
  have HST := Hid.out (p := Hid _) hst
  have hfd := fld0
  have hk3 : ((tokE C.E (t :: r)).kind == 3) = true := by simp [tokE, hk]
  have hfe : rows.length + 1 + r.length ≤ C.T.length := by have := hfw.1; simp only [List.length_cons] at this; omega
  clear hg hpl hst hfw
  go_enter Tryz.func175, Tryz.ntmps175
  go_wp2_with (first
    | (go_at_call 84; refine Calls.mono HN.out ?_; rintro e w1 ⟨rfl, hb⟩; have HG1 := Hid.out (p := Hid _) (HG.out.below hb); clear hb)
    | (go_at_call 111; refine Calls.mono (qtake_any HG1.out (fun h => absurd h HPL.out.1) (fun h => absurd h HPL.out.2)) ?_; rintro e w2 ⟨rfl, hg2, -⟩; rw [HST.out] at hg2; have HG2 := Hid.out (p := Hid _) hg2; clear hg2)
    | (go_at_call 86; refine Calls.mono (qadd (HG2.out.below ((Below.refl _ _).alloc (Nat.le_refl _) _)) 15 t.num t.pos [] [] none 0 0 (Or.inr ⟨rfl, rfl⟩) hfe) ?_; rintro e w3 ⟨rfl, hg3⟩))
  go_ret
  refine ⟨by rw [size_none]; simp, ?_⟩
  simpa [flat, flats, idxs] using hg3
set_option maxRecDepth 100000 in
set_option maxHeartbeats 1600000 in
theorem qprim_name (hk : (tokE E l).kind ≠ 3) (h4 : isTok [40] l = false) : Cpr 175 [] E d l (nmT E l) := by
  refine cpr_of fun C w rows hE hg => ?_
  subst hE
  have HN := Hid.out (p := Hid _) (qnext hg)
  have HG := Hid.out (p := Hid _) hg
  have hfd := fld0
  have hk3 : ((tokE C.E l).kind == 3) = false := by simpa using hk
  have HI4 := Hid.out (p := Hid _) h4
  obtain ⟨R, hR⟩ : ∃ R, R = nmT C.E l := ⟨_, rfl⟩
  rw [← hR]
  have HX : Hid (∀ w1, GoP C w1 d none [] l rows → Calls Tryz.prog 168 #[.pointer (some ⟨C.P, 0, none⟩)] w1 fun e w' => PrQ C w' d none [] rows R e) := fun w1 h1 => by
    rw [hR]
    exact qname C w1 none [] rows rfl h1
  clear hg hR h4 hk
  go_enter Tryz.func175, Tryz.ntmps175
  go_wp2_with (first
    | (go_at_call 84; refine Calls.mono HN.out ?_; rintro e w1 ⟨rfl, hb⟩; have HG1 := Hid.out (p := Hid _) (HG.out.below hb); clear hb)
    | (go_at_call 81; refine Calls.mono (qis1 HG1.out _ (lit_sign (by decide))) ?_; rintro e w2 ⟨rfl, hb⟩; rw [show isTok (⟨#[40]⟩ : ByteArray).data.toList l = false from HI4.out]; have HG2 := Hid.out (p := Hid _) (HG1.out.below hb); clear hb))
  refine Calls.mono (HX.out _ HG2.out) ?_
  intro e w3 hq
  cases R with
  | error f =>
    obtain ⟨rfl, hf⟩ := hq
    exact ⟨rfl, rfl, hf⟩
  | ok y =>
    obtain ⟨x, q⟩ := y
    obtain ⟨rfl, hg3⟩ := hq
    have HG3 := Hid.out (p := Hid _) hg3
    clear hg3
    go_wp2_with fail
    go_ret
    exact ⟨rfl, HG3.out⟩
set_option maxRecDepth 100000 in
set_option maxHeartbeats 1600000 in
theorem qsigned {S : List UInt8} (k : Int) (hS : S = [45] ∨ S = [33]) (hi : isTok S l = true) (IH : d + 1 ≤ 20 → Cpr 169 [] E (d + 1) l.tail (unaryT E (d + 1) l.tail)) : Cpr 174 [.int .i64 k] E d l (bindL (openT E S d l) fun r => bindT (unaryT E (d + 1) r) fun x q => .ok (.mk k 0 (posOf E l) [] [x], q)) := by
  refine cpr_of fun C w rows hE hg => ?_
  subst hE
  have hfw := hg.fewR
  obtain ⟨t, r, rfl⟩ : ∃ t r, l = t :: r := by
    cases l with
    | nil => cases hi
    | cons t r => exact ⟨t, r, rfl⟩
  have htx : t.text = S := by
    simp only [isTok, Bool.and_eq_true, decide_eq_true_eq] at hi
    exact hi.2
  by_cases h20 : d = 20
  · have ho : openT C.E S d (t :: r) = .error (6, t.pos) := by unfold openT; rw [if_pos ⟨hi, h20⟩]; rfl
    rw [ho]
    subst h20
    have HO := Hid.out (p := Hid _) (qopen_no hg)
    clear hg hi htx ho
    go_enter Tryz.func174, Tryz.ntmps174
    go_wp2_with (go_at_call 137; refine Calls.mono HO.out ?_; rintro e w1 ⟨rfl, hf⟩)
    exact ⟨rfl, rfl, hf⟩
  · have ho : openT C.E S d (t :: r) = .ok r := by unfold openT takeT; rw [if_neg (fun h => h20 h.2), if_pos hi]; rfl
    rw [ho]
    simp only [bindL]
    have hpl : ¬ opB t.text ∧ ¬ shB t.text := by rw [htx]; rcases hS with rfl | rfl <;> decide
    have hst : ∀ n, stepD t.text n = n := fun n => by unfold stepD; rw [if_neg hpl.1, if_neg hpl.2]
    have HO := Hid.out (p := Hid _) (qopenG hg h20)
    have HPL := Hid.out (p := Hid _) hpl
    have HST := Hid.out (p := Hid _) hst
    have HX := Hid.out (p := Hid _) (IH (by have := hfw.2.2.1; omega))
    obtain ⟨R, hR⟩ : ∃ R : TRes Nd, R = bindT (unaryT C.E (d + 1) r) fun x q => .ok (.mk k 0 (posOf C.E (t :: r)) [] [x], q) := ⟨_, rfl⟩
    rw [← hR]
    have HSZ : Hid (∀ x q, unaryT C.E (d + 1) r = .ok (x, q) → rows.length + ndSize x + 1 + q.length ≤ C.T.length) := fun x q hx => by
      obtain ⟨n, y, hy⟩ := un_tot (e := C.E) (d + 1) r
      have h3 := tld_is (un_up r) hy
      have h4 := (expr_size n).2.2.1 _ _ _ _ (hy.trans (congrArg some (h3.symm.trans hx)))
      have h5 := hfw.1
      simp only [List.length_cons] at h5
      omega
    clear hg hi ho hpl hst IH htx
    go_enter Tryz.func174, Tryz.ntmps174
    go_wp2_with (first
      | (go_at_call 137; refine Calls.mono HO.out ?_; rintro e w1 ⟨rfl, hg1⟩; have HG1 := Hid.out (p := Hid _) hg1; clear hg1)
      | (go_at_call 111; refine Calls.mono (qtake_any HG1.out (fun h => absurd h HPL.out.1) (fun h => absurd h HPL.out.2)) ?_; rintro e w2 ⟨rfl, hg2, -⟩; rw [HST.out] at hg2; have HG2 := Hid.out (p := Hid _) hg2; clear hg2))
    have hg2 := HG2.out.box (.cells #[.int .i64 t.kind, .int .i64 t.num, .int .i64 t.pos, .string ⟨⟨t.text⟩⟩] 98)
    refine Calls.mono (HX.out C _ _ _ _ rfl hg2) ?_
    intro e w3 hq
    simp only [List.tail_cons] at hq
    cases hx : unaryT C.E (d + 1) r with
    | error f =>
      rw [hx] at hq hR
      obtain ⟨rfl, hf⟩ := hq
      subst hR
      exact ⟨rfl, rfl, hf⟩
    | ok y =>
      obtain ⟨x, q⟩ := y
      rw [hx] at hq hR
      obtain ⟨rfl, hg3⟩ := hq
      have hfe := HSZ.out x q hx
      have HG3 := Hid.out (p := Hid _) hg3
      have HR := Hid.out (p := Hid _) hR
      clear hg3 hg2 hx hR
      go_wp2_with fail
      refine Calls.mono (qshutG HG3.out) ?_
      rintro e w4 ⟨rfl, hg4⟩
      obtain ⟨hb4, hbP, hbl⟩ := hg4.bxc
      obtain ⟨b0, b1, b2, b3, bf⟩ := box4 hb4
      have HG4 := Hid.out (p := Hid _) hg4
      clear hg4 hb4
      go_wp2_with fail
      refine Calls.mono (qadd (HG4.out.kids [((rows.length + ndSize x : Nat) : Int) - 1] 1 rfl (Nat.le_refl _) _ rfl (by decide) w4.heap.size rfl) k 0 t.pos [] [((rows.length + ndSize x : Nat) : Int) - 1] _ _ _ (Or.inl (List.mem_cons_self ..)) (by rw [List.length_append, flat_len]; omega)) ?_
      rintro e w5 ⟨rfl, hg5⟩
      have HG5 := Hid.out (p := Hid _) hg5.drop
      clear hg5
      go_wp2_with fail
      go_ret
      rw [HR.out]
      refine ⟨?_, ?_⟩
      · exact ret_int (by rw [flat_len, size_one]; omega)
      · have h7 : rows ++ flat rows.length (.mk k 0 (posOf C.E (t :: r)) [] [x]) = (rows ++ flat rows.length x) ++ [⟨k, 0, t.pos, [], [((rows.length + ndSize x : Nat) : Int) - 1]⟩] := by
          simp [flat, flats, idxs, posOf]
        rw [h7]
        exact HG5.out
set_option maxRecDepth 100000 in
set_option maxHeartbeats 1600000 in
/-- What a sign stands ahead of, or what has none. -/
theorem qahead (IHu : ∀ r, r.length < l.length → d + 1 ≤ 20 → Cpr 169 [] E (d + 1) r (unaryT E (d + 1) r)) (IHe : ∀ r, r.length < l.length → d + 1 ≤ 20 → Cpr 162 [.int .i64 1] E (d + 1) r (exprT E 0 (d + 1) r)) : Cpr 169 [] E d l (unaryT E d l) := by
  refine cpr_of fun C w rows hE hg => ?_
  subst hE
  have hl := hg.fewR.2.2.2
  have HN := Hid.out (p := Hid _) (qnext hg)
  have HG := Hid.out (p := Hid _) hg
  have hfd := fld3
  obtain ⟨R, hR⟩ : ∃ R, R = unaryT C.E d l := ⟨_, rfl⟩
  rw [← hR]
  have h45 := lit_text (C := C) (lit_sign (b := 45) (by decide)) hl
  have h33 := lit_text (C := C) (lit_sign (b := 33) (by decide)) hl
  rw [unaryT_is] at hR
  by_cases h1 : isTok [45] l = true
  · rw [if_pos h1] at hR
    have e1 : ((tokE C.E l).text == [45]) = true := by
      rw [h1] at h45; simpa using h45
    have HX : Hid (∀ w1, GoP C w1 d none [] l rows → Calls Tryz.prog 174 #[.pointer (some ⟨C.P, 0, none⟩), .int .i64 17] w1 fun e w' => PrQ C w' d none [] rows R e) := fun w1 hg1 => by
      rw [hR]
      exact qsigned 17 (Or.inl rfl) h1 (IHu l.tail (is_len h1)) C w1 none [] rows rfl hg1
    clear hg hR h1 h45 h33
    go_enter Tryz.func169, Tryz.ntmps169
    go_wp2_with (go_at_call 84; refine Calls.mono HN.out ?_; rintro e w1 ⟨rfl, hb⟩; have HG1 := Hid.out (p := Hid _) (HG.out.below hb); clear hb)
    refine Calls.mono (HX.out _ HG1.out) ?_
    intro e w3 hq
    cases R with
    | error f => obtain ⟨rfl, hf⟩ := hq; exact ⟨rfl, rfl, hf⟩
    | ok y =>
      obtain ⟨x, q⟩ := y
      obtain ⟨rfl, hg3⟩ := hq
      have HG3 := Hid.out (p := Hid _) hg3
      clear hg3
      go_wp2_with fail
      go_ret
      exact ⟨rfl, HG3.out⟩
  · rw [if_neg h1] at hR
    have e1 : ((tokE C.E l).text == [45]) = false := by
      rw [Bool.eq_false_iff.2 h1] at h45; simpa using h45
    by_cases h2 : isTok [33] l = true
    · rw [if_pos h2] at hR
      have e2 : ((tokE C.E l).text == [33]) = true := by
        rw [h2] at h33; simpa using h33
      have HX : Hid (∀ w1, GoP C w1 d none [] l rows → Calls Tryz.prog 174 #[.pointer (some ⟨C.P, 0, none⟩), .int .i64 18] w1 fun e w' => PrQ C w' d none [] rows R e) := fun w1 hg1 => by
        rw [hR]
        exact qsigned 18 (Or.inr rfl) h2 (IHu l.tail (is_len h2)) C w1 none [] rows rfl hg1
      clear hg hR h1 h2 h45 h33
      go_enter Tryz.func169, Tryz.ntmps169
      go_wp2_with (go_at_call 84; refine Calls.mono HN.out ?_; rintro e w1 ⟨rfl, hb⟩; have HG1 := Hid.out (p := Hid _) (HG.out.below hb); clear hb)
      refine Calls.mono (HX.out _ HG1.out) ?_
      intro e w3 hq
      cases R with
      | error f => obtain ⟨rfl, hf⟩ := hq; exact ⟨rfl, rfl, hf⟩
      | ok y =>
        obtain ⟨x, q⟩ := y
        obtain ⟨rfl, hg3⟩ := hq
        have HG3 := Hid.out (p := Hid _) hg3
        clear hg3
        go_wp2_with fail
        go_ret
        exact ⟨rfl, HG3.out⟩
    · rw [if_neg h2] at hR
      have e2 : ((tokE C.E l).text == [33]) = false := by
        rw [Bool.eq_false_iff.2 h2] at h33; simpa using h33
      have HX : Hid (∀ w1, GoP C w1 d none [] l rows → Calls Tryz.prog 175 #[.pointer (some ⟨C.P, 0, none⟩)] w1 fun e w' => PrQ C w' d none [] rows R e) := fun w1 hg1 => by
        rw [hR]
        by_cases h3 : isTok [40] l = true
        · rw [if_pos h3]
          exact qprim_held h3 IHe C w1 none [] rows rfl hg1
        · rw [if_neg h3]
          by_cases hk : ∃ t r, l = t :: r ∧ t.kind = 3
          · obtain ⟨t, r, rfl, hk⟩ := hk
            rw [prim_is _ t r rfl hk]
            exact qprim_num hk C w1 none [] rows rfl hg1
          · have hk2 : (tokE C.E l).kind ≠ 3 := fun h => by
              cases l with
              | nil => cases h
              | cons t r => exact hk ⟨t, r, rfl, h⟩
            have hpn : primT C.E l = nmT C.E l := by
              have ht : ∃ f, tnumT C.E l = .error f := by
                match l, hk2 with
                | [], _ => exact ⟨_, rfl⟩
                | t :: r, hk2 => exact ⟨_, by rw [tnumT, if_neg (show ¬ t.kind = 3 from hk2)]⟩
              obtain ⟨f, hf⟩ := ht
              unfold primT nmT
              rw [hf]
              cases nameT C.E l with
              | error f => rfl
              | ok y => rfl
            rw [hpn]
            exact qprim_name hk2 (by simpa using h3) C w1 none [] rows rfl hg1
      clear hg hR h1 h2 h45 h33
      go_enter Tryz.func169, Tryz.ntmps169
      go_wp2_with (go_at_call 84; refine Calls.mono HN.out ?_; rintro e w1 ⟨rfl, hb⟩; have HG1 := Hid.out (p := Hid _) (HG.out.below hb); clear hb)
      refine Calls.mono (HX.out _ HG1.out) ?_
      intro e w3 hq
      cases R with
      | error f => obtain ⟨rfl, hf⟩ := hq; exact ⟨rfl, rfl, hf⟩
      | ok y =>
        obtain ⟨x, q⟩ := y
        obtain ⟨rfl, hg3⟩ := hq
        have HG3 := Hid.out (p := Hid _) hg3
        clear hg3
        go_wp2_with fail
        go_ret
        exact ⟨rfl, HG3.out⟩
end
end

section
open Go.RowKit

set_option maxRecDepth 100000 in
set_option maxHeartbeats 1600000 in
theorem qlevel_any (S : ByteArray) (w : World) :
    Calls Tryz.prog 170 #[.string S] w fun e w' => e = .returned (.int .i64 (lvl S.data.toList + 1)) ∧ w' = w := by
  by_cases hin : S.data.toList ∈ signsN
  · simp only [signsN, List.mem_cons, List.not_mem_nil, or_false] at hin
    rcases hin with h | h | h | h | h | h | h | h | h | h | h
    all_goals
      obtain rfl := str_of h
      clear h
      go_enter Tryz.func170, Tryz.ntmps170
      go_wp2
      go_ret
      exact ⟨rfl, rfl⟩
  · have hne : ∀ c, c ∈ signsN → S.data.toList ≠ c := fun c hc e => hin (e ▸ hc)
    have hq := lvl_none hne
    rw [hq]
    have hb : ∀ c, c ∈ signsN → (S.toList == c) = false := fun c hc => by
      rw [Lib.toList_data]
      simpa using hne c hc
    simp only [signsN, List.mem_cons, List.not_mem_nil, or_false, forall_eq_or_imp, forall_eq] at hb
    obtain ⟨b1, b2, b3, b4, b5, b6, b7, b8, b9, b10, b11⟩ := hb
    clear hin hne hq
    go_enter Tryz.func170, Tryz.ntmps170
    go_wp2
    go_ret
    exact ⟨rfl, rfl⟩
/-- What is a sign between is a sign. -/
theorem lvl_kind {t : Tok} (h : TokOk t) (hl : 0 ≤ lvl t.text) : t.kind = 4 ∧ ¬ opB t.text ∧ ¬ shB t.text := by
  have hin : t.text ∈ signsN := by
    refine Classical.byContradiction fun hn => ?_
    have := lvl_none (l := t.text) fun c hc e => hn (e ▸ hc)
    omega
  have hp : ¬ opB t.text ∧ ¬ shB t.text := by
    simp only [signsN, List.mem_cons, List.not_mem_nil, or_false] at hin
    rcases hin with h | h | h | h | h | h | h | h | h | h | h <;> (rw [h]; decide)
  refine ⟨?_, hp⟩
  rcases h with ⟨_, _, h2⟩ | ⟨_, _, h2⟩ | ⟨_, _, _, h4⟩ | ⟨h1, _⟩
  · exfalso
    obtain ⟨⟨b, r, hb, hb2, _⟩, _⟩ := h2
    rw [hb] at hin
    simp only [signsN, List.mem_cons, List.cons.injEq, List.not_mem_nil, or_false] at hin
    rcases hin with h | h | h | h | h | h | h | h | h | h | h <;> (obtain ⟨rfl, _⟩ := h; revert hb2; decide)
  · exfalso
    obtain ⟨b, r, hb, hb2, _⟩ := word_letters h2
    rw [hb] at hin
    simp only [signsN, List.mem_cons, List.cons.injEq, List.not_mem_nil, or_false] at hin
    rcases hin with h | h | h | h | h | h | h | h | h | h | h <;> (obtain ⟨rfl, _⟩ := h; revert hb2; decide)
  · exfalso
    obtain ⟨b, r, hb, hb2⟩ := dec_head9 t.num.toNat
    rw [h4, hb] at hin
    simp only [signsN, List.mem_cons, List.cons.injEq, List.not_mem_nil, or_false] at hin
    rcases hin with h | h | h | h | h | h | h | h | h | h | h <;> (obtain ⟨rfl, _⟩ := h; revert hb2; decide)
  · exact h1
theorem ns_of {k : Nat} {E : Int} {l : List Tok} (h : lvl (tokE E l).text < (k : Int)) : NoSign k l := by
  match l, h with
  | [], _ => trivial
  | t :: r, h => exact fun _ => h

section
variable {E : Int} {d : Nat} {l : List Tok}
/-- A round of an expression. -/
structure ExI (C : Cx9) (d j : Nat) (rows : List Row) (len : Nat) (R : TRes Nd) (g : Nat) (u : Int) (x : Nd) (q : List Tok) (wr : World) : Prop where
  val : u = ((rows.length + ndSize x : Nat) : Int) - 1
  go : GoP C wr d none [] q (rows ++ flat rows.length x)
  is : restJ C.E j d x q = R
  sz : ndSize x + q.length ≤ len
  ms : q.length + 1 ≤ g
set_option maxRecDepth 100000 in
set_option maxHeartbeats 1600000 in
theorem qexpr {k : Nat} (hk : k ≤ 5) (HU : Cpr 169 [] E d l (unaryT E d l)) (IH : ∀ (r : List Tok) (m : Nat), r.length < l.length → m ≤ 5 → Cpr 162 [.int .i64 ((m : Int) + 1)] E d r (exprT E m d r)) : Cpr 162 [.int .i64 ((k : Int) + 1)] E d l (exprT E k d l) := by
  refine cpr_of fun C w rows hE hg => ?_
  subst hE
  have hfw := hg.fewR
  obtain ⟨j, hj⟩ : ∃ j, k + j = 5 := ⟨5 - k, by omega⟩
  obtain ⟨R, hR⟩ : ∃ R, R = exprT C.E k d l := ⟨_, rfl⟩
  rw [← hR]
  rw [expr_rest d l j k hj] at hR
  have HX := Hid.out (p := Hid _) (HU C w none [] rows rfl hg)
  have HIH := Hid.out (p := Hid _) IH
  clear hg HU IH
  go_enter Tryz.func162, Tryz.ntmps162
  go_wp2_with fail
  refine Calls.mono HX.out ?_
  intro e w1 hq
  cases hu : unaryT C.E d l with
  | error f =>
    rw [hu] at hq hR
    obtain ⟨rfl, hf⟩ := hq
    subst hR
    exact ⟨rfl, rfl, hf⟩
  | ok y =>
    obtain ⟨x0, q0⟩ := y
    rw [hu] at hq hR
    obtain ⟨rfl, hg1⟩ := hq
    obtain ⟨u0, hu0⟩ : ∃ u0, u0 = ((rows.length + ndSize x0 : Nat) : Int) - 1 := ⟨_, rfl⟩
    rw [← hu0]
    have hl0 : ndSize x0 + q0.length ≤ l.length := by
      have := (exprT_len (e := C.E) (k := 5) (d := d) (Nat.le_refl _) (show exprT C.E 5 d l = .ok (x0, q0) by rw [exprT_five]; exact hu)).2
      exact this
    have HI : Hid (ExI C d j rows l.length R (l.length + 1) u0 x0 q0 w1) := ⟨hu0, hg1, hR.symm, hl0, by omega⟩
    clear hg1 hu hl0 hR hu0
    go_wp2_with fail
    go_loopg [5] (l.length + 1) (fun g lf wr => ∃ u x q, lf = .int .i64 u ∧ Hid (ExI C d j rows l.length R g u x q wr))
    case atStart => exact ⟨u0, x0, q0, rfl, HI⟩
    case round =>
      obtain ⟨u, x, q, rfl, HJ⟩ := hrel
      clear HI
      have HN := Hid.out (p := Hid _) (qnext HJ.out.go)
      by_cases hlv : lvl (tokE C.E q).text < (k : Int)
      · have hlt : lvl (tokE C.E q).text + 1 < (k : Int) + 1 := by omega
        have HRX : Hid (R = .ok (x, q)) := by
          show R = _
          rw [← HJ.out.is, rest_none j k hj (ns_of hlv)]
        clear hlv
        go_wp2_with (first
          | (go_at_call 84; refine Calls.mono HN.out ?_; rintro e w2 ⟨rfl, hb⟩; have HG2 := Hid.out (p := Hid _) (HJ.out.go.below hb); clear hb)
          | (go_at_call 170; refine Calls.mono (qlevel_any _ _) ?_; rintro e w3 ⟨rfl, rfl⟩; rw [show lvl (ByteArray.mk ⟨(tokE C.E q).text⟩).data.toList = lvl (tokE C.E q).text from rfl]))
        go_ret
        rw [HRX.out]
        exact ⟨ret_int HJ.out.val, HG2.out.below ((Below.refl _ _).alloc (Nat.le_refl _) _)⟩
      · have hlt : ¬ lvl (tokE C.E q).text + 1 < (k : Int) + 1 := by omega
        obtain ⟨t, r, rfl⟩ : ∃ t r, q = t :: r := by
          cases q with
          | nil =>
            have h0 : lvl [] = -1 := by decide
            exact absurd (show lvl [] < (k : Int) by rw [h0]; omega) hlv
          | cons t r => exact ⟨t, r, rfl⟩
        simp only [tokE] at hlv hlt HN
        have htok := HJ.out.go.fewR.2.2.2 t (List.mem_cons_self ..)
        obtain ⟨m, hm⟩ : ∃ m : Nat, lvl t.text = (m : Int) := ⟨(lvl t.text).toNat, by omega⟩
        have hm4 : m ≤ 4 := by have := lvl_le t.text; omega
        have hkm : k ≤ m := by omega
        obtain ⟨hk4, hpl⟩ := lvl_kind htok (by omega)
        have hsg : signAt m (t :: r) = some (t, r) := sign_yes hk4 hm
        have hns : NoSign (m + 1) (t :: r) := fun _ => by omega
        have HRS : Hid (bindT (exprT C.E (m + 1) d r) (fun y q => restJ C.E j d (.mk 19 0 t.pos t.text [x, y]) q) = R) := by
          show _ = R
          rw [← HJ.out.is, rest_sign hsg hm4 hns (m - k) j k hj (by omega)]
        have hst : stepD t.text d = d := by unfold stepD; rw [if_neg hpl.1, if_neg hpl.2]
        have HPL := Hid.out (p := Hid _) hpl
        have HST := Hid.out (p := Hid _) hst
        have hszs := HJ.out.sz
        simp only [List.length_cons] at hszs
        have HXR := Hid.out (p := Hid _) (HIH.out r (m + 1) (by omega) (by omega))
        rw [hm] at hlt
        have HMM := Hid.out (p := Hid _) hm
        clear hlv htok hpl hst hsg hns hk4 hm
        go_wp2_with (first
          | (go_at_call 84; refine Calls.mono HN.out ?_; rintro e w2 ⟨rfl, hb⟩; have HG2 := Hid.out (p := Hid _) ((HJ.out.go.below hb).box (.cells #[.int .i64 t.kind, .int .i64 t.num, .int .i64 t.pos, .string ⟨⟨t.text⟩⟩] 98)); clear hb)
          | (go_at_call 170; refine Calls.mono (qlevel_any _ _) ?_; rintro e w3 ⟨rfl, rfl⟩; rw [show lvl (ByteArray.mk ⟨t.text⟩).data.toList = (m : Int) from HMM.out])
          | (go_at_call 111; refine Calls.mono (qtake_any HG2.out (fun h => absurd h HPL.out.1) (fun h => absurd h HPL.out.2)) ?_; rintro e w4 ⟨rfl, hg4, -⟩; rw [HST.out] at hg4; have HG4 := Hid.out (p := Hid _) hg4; clear hg4))
        refine Calls.mono (HXR.out C _ _ _ _ rfl HG4.out) ?_
        intro e w5 hq
        have hRS := HRS.out
        cases hx : exprT C.E (m + 1) d r with
        | error f =>
          rw [hx] at hq hRS
          obtain ⟨rfl, hf⟩ := hq
          subst hRS
          exact ⟨rfl, rfl, hf⟩
        | ok y =>
          obtain ⟨y, q2⟩ := y
          rw [hx] at hq hRS
          obtain ⟨rfl, hg5⟩ := hq
          obtain ⟨v5, hv5⟩ : ∃ v5, v5 = (((rows ++ flat rows.length x).length + ndSize y : Nat) : Int) - 1 := ⟨_, rfl⟩
          rw [← hv5]
          have HV5 := Hid.out (p := Hid _) hv5
          have hsz2 := exprT_len (by omega) hx
          obtain ⟨hb5, hbP, hbl⟩ := hg5.bxc
          obtain ⟨b0, b1, b2, b3, bf⟩ := box4 hb5
          have HG5 := Hid.out (p := Hid _) hg5
          have HRR : Hid (restJ C.E j d (.mk 19 0 t.pos t.text [x, y]) q2 = R) := hRS
          clear hg5 hb5 hx hRS hv5
          have hfe : ((rows ++ flat rows.length x) ++ flat (rows ++ flat rows.length x).length y).length + 1 + q2.length ≤ C.T.length := by
            rw [List.length_append, List.length_append, flat_len, flat_len]
            have := hfw.1
            omega
          go_wp2_with fail
          refine Calls.mono (qadd (HG5.out.kids [u, v5] 2 rfl (by decide) #[.int .i64 u, .int .i64 v5] rfl (by decide) w5.heap.size rfl) 19 0 t.pos t.text [u, v5] _ _ _ (Or.inl (List.mem_cons_self ..)) hfe) ?_
          rintro e w6 ⟨rfl, hg6⟩
          obtain ⟨v6, hv6⟩ : ∃ v6, v6 = ((((rows ++ flat rows.length x) ++ flat (rows ++ flat rows.length x).length y).length : Nat) : Int) := ⟨_, rfl⟩
          rw [← hv6]
          have HNX : Hid (ExI C d j rows l.length R (gk - 1) v6 (.mk 19 0 t.pos t.text [x, y]) q2 w6) := by
            have hms := HJ.out.ms
            simp only [List.length_cons] at hms
            refine ⟨?_, ?_, HRR.out, by rw [size_two]; omega, by omega⟩
            · rw [hv6, List.length_append, List.length_append, flat_len, flat_len, size_two]
              omega
            · have h8 : rows ++ flat rows.length (.mk 19 0 t.pos t.text [x, y]) = ((rows ++ flat rows.length x) ++ flat (rows ++ flat rows.length x).length y) ++ [⟨19, 0, t.pos, t.text, [u, v5]⟩] := by
                rw [HJ.out.val, HV5.out]
                simp [flat, flats, idxs, flat_len]
              rw [h8]
              exact hg6.drop
          have hgk : 1 ≤ gk := by have := HJ.out.ms; omega
          clear hg6 hv6
          go_wp2_with fail
          go_roundg (gk - 1)
          case rel => exact ⟨v6, _, q2, rfl, HNX⟩
          case measure => omega
end
end

end Go.Proofs.YtggfbfjdiikaeaaGreatDoor
