/-
  The program's checker: a name that is used.
  The program's parser: a local's statement; locks.
  The program's parser: locks; the kids of a cas.
-/
import Derived.Test.YtggfbfjdiikaeaaGreatDoorChkC5
import Derived.Test.YtggfbfjdiikaeaaGreatDoorShelf
import Derived.Test.YtggfbfjdiikaeaaGreatDoorSynJ0
namespace Go.Proofs.YtggfbfjdiikaeaaGreatDoor
section
open Go.RowKit

section
variable {w0 w : World} {a : Option Addr} {c : Nat} {rows : List Row} {P : Nat} {v : Rk → Value} {ms : List Nat} {cm : Nat} {s : Cs}
set_option maxRecDepth 100000 in
set_option maxHeartbeats 3200000 in
theorem cuse_any (h : CPs w0 w a c rows P v ms cm s) (hok : CsOk rows s) (ht : TxtOk rows) {i : Nat} (hi : i < rows.length) (hlen : ms.length ≤ 100000) (hrl : rows.length ≤ 100000) (kb : Nat) (zs : List Int) (m : Nat) (hm : m = zs.length) (hm2 : m ≤ 10) (hk : ∀ j, j < zs.length → w.cell? ⟨kb, j, none⟩ = some (.int .i64 (zs.getD j 0))) (p : Int → Bool) (hp : ∀ k, p k = zs.contains k) :
    Calls Tryz.prog 89 #[.pointer (some ⟨P, 0, none⟩), .int .i64 (i : Int), .slice (some ⟨kb, 0, none⟩) m m] w fun e w' => PQ w0 a c rows P s.sc.length (useC rows i p s) e w' ∧ KpC w w' := by
  have HFD := Hid.out (p := Hid _) (cfind_any h hok.ne ht hi hlen)
  have HW := Hid.out (p := Hid _) h.weak
  cases hf : findC rows s.sc (rowA rows i).text with
  | none =>
    rw [hf] at HFD
    have hR : useC rows i p s = .error (7, (rowA rows i).pos) := by unfold useC; rw [hf]
    rw [hR]
    clear h hok ht hk hp hf hR hm
    go_enter Tryz.func89, Tryz.ntmps89
    go_wp2_with fail
    refine Calls.mono HFD.out ?_
    rintro e w1 ⟨rfl, hb1⟩
    exact ⟨rfl, ⟨rfl, HW.out.below hb1⟩, KpC.of_below hb1⟩
  | some d =>
    rw [hf] at HFD
    obtain ⟨⟨S, hS, hd⟩, -⟩ := find_mem hf
    have hdl := (hok.mem S hS d hd).1
    obtain ⟨g, ka, kc, rfl, hnd⟩ := h.node hdl
    obtain ⟨ub, uc, huv, hub, -, hul⟩ := fam_block (h.fam.own .ow) (by show 0 < s.us.length; rw [hok.us]; omega)
    have huv' : v .ow = .slice (some ⟨ub, 0, none⟩) rows.length uc := by rw [← hok.us]; exact huv
    obtain ⟨KD, hKD⟩ : ∃ x, (rowA rows d).kind = x := ⟨_, rfl⟩
    have hR : useC rows i p s = if p KD then .ok { s with us := s.us.set i (d : Int) } else .error (9, (rowA rows i).pos) := by unfold useC; rw [hf, ← hKD]
    have HCT : Hid (∀ W, Below w.heap.size w W → Calls Tryz.prog 120 #[.slice (some ⟨kb, 0, none⟩) m m, .int .i64 KD] W fun e w' => e = .returned (.bool (p KD)) ∧ w' = W) := fun W hW => by
      have := Tryz.slices_Contains_int kb 0 m m zs KD W (by omega) (by omega) (fun j hj => by
        rw [Nat.zero_add]
        exact (hW.cell (lt_of_cell (hk j hj))).trans (hk j hj))
      rw [hm, List.take_length, ← hp] at this
      rw [hm]
      exact this
    have HC : Hid (∀ W, Below w.heap.size w W → W.cell? ⟨P, 0, none⟩ = some (.slice (some ⟨g, 0, none⟩) rows.length c) ∧ W.cell? ⟨g, d * 5, none⟩ = some (.int .i64 KD) ∧ W.cell? ⟨P, 1, none⟩ = some (.slice (some ⟨ub, 0, none⟩) rows.length uc) ∧ (∃ u, W.cell? ⟨ub, i, none⟩ = some u) ∧ W.frozen? ⟨ub, i, none⟩ = false ∧ CPs w0 W (some ⟨g, 0, none⟩) c rows P v ms cm s) := fun W hW => by
      have h' := h.below hW
      obtain ⟨g2, ka2, kc2, hg2, hn2⟩ := h'.node hdl
      simp only [Option.some.injEq, Addr.mk.injEq, and_true] at hg2
      obtain rfl := hg2
      have hkk := hn2.k
      rw [hKD] at hkk
      have c1 := h'.c1
      rw [huv'] at c1
      obtain ⟨x, hx⟩ : ∃ x, s.us[i]? = some x := ⟨_, List.getElem?_eq_getElem (by rw [hok.us]; exact hi)⟩
      exact ⟨h'.c0, hkk, c1, ⟨_, h'.fam.cell hub (iV_at hx)⟩, h'.fam.frozen hub i, h'⟩
    have HUB := Hid.out (p := Hid _) hub
    have HFL : Hid (∀ W, Below w.heap.size w W → Calls Tryz.prog 66 #[.pointer (some ⟨P, 0, none⟩), .int .i64 9, .int .i64 (i : Int)] W fun e w' => e = .returned (.agg #[.int .i64 9, .int .i64 0, .int .i64 (rowA rows i).pos]) ∧ Below W.heap.size W w') := fun W hW => cfault_any (h.below hW) hi 9
    have hi' : (i : Int) < (rows.length : Int) := by omega
    have hdl' : (d : Int) < (rows.length : Int) := by omega
    obtain ⟨pb, hpb⟩ : ∃ pb, p KD = pb := ⟨_, rfl⟩
    rw [hpb] at hR HCT
    rw [hR]
    clear h hok ht hk hp hf hR hm hnd huv huv' hub hKD hS hd hpb hdl hi
    cases pb with
    | true =>
      go_enter Tryz.func89, Tryz.ntmps89
      go_wp2_with fail
      refine Calls.mono HFD.out ?_
      rintro e w1 ⟨rfl, hb1⟩
      obtain ⟨c0, x0, c1, ⟨u, u0⟩, uf, hP⟩ := HC.out w1 hb1
      have HB1 := Hid.out (p := Hid _) (And.intro hb1 hP)
      clear hb1 hP
      go_wp2_with fail
      refine Calls.mono (HCT.out _ HB1.out.1) ?_
      rintro e w2 ⟨rfl, rfl⟩
      go_wp2_with fail
      go_end0
      exact ⟨⟨rfl, _, _, _, HB1.out.2.setU HUB.out i (d : Int)⟩, (KpC.of_below HB1.out.1).trans (HB1.out.2.kept HUB.out i _)⟩
    | false =>
      go_enter Tryz.func89, Tryz.ntmps89
      go_wp2_with fail
      refine Calls.mono HFD.out ?_
      rintro e w1 ⟨rfl, hb1⟩
      obtain ⟨c0, x0, c1, ⟨u, u0⟩, uf, hP⟩ := HC.out w1 hb1
      have HB1 := Hid.out (p := Hid _) (And.intro hb1 hP)
      clear hb1 hP
      go_wp2_with fail
      refine Calls.mono (HCT.out _ HB1.out.1) ?_
      rintro e w2 ⟨rfl, rfl⟩
      go_wp2_with fail
      refine Calls.mono (HFL.out _ HB1.out.1) ?_
      rintro e w3 ⟨rfl, hb3⟩
      have HB3 := Hid.out (p := Hid _) hb3
      clear hb3
      go_wp2_with fail
      exact ⟨rfl, ⟨rfl, (HW.out.below HB1.out.1).below HB3.out⟩, (KpC.of_below HB1.out.1).trans (KpC.of_below HB3.out)⟩
end
end

section
open Go.RowKit

section
variable {E : Int} {d : Nat} {l : List Tok}
set_option maxRecDepth 100000 in
set_option maxHeartbeats 1600000 in
theorem qlocal : Cpr 149 [] E d l (bindL (takeT E wInt l) fun r0 => bindT (nameT E r0) fun s r => bindL (takeT E [61] r) fun r => etT E d [59] r fun x q => .ok (.mk 6 0 (posOf E l) s [x], q)) := by
  refine cpr_of fun C w rows hE hg => ?_
  subst hE
  have hfw := hg.fewR
  have HN := Hid.out (p := Hid _) (qnext hg)
  have HG := Hid.out (p := Hid _) hg
  have hfd := fld2
  have hfd3 := fld3
  obtain ⟨R, hR⟩ : ∃ R : TRes Nd, R = bindL (takeT C.E wInt l) fun r0 => bindT (nameT C.E r0) fun s r => bindL (takeT C.E [61] r) fun r => etT C.E d [59] r fun x q => .ok (.mk 6 0 (posOf C.E l) s [x], q) := ⟨_, rfl⟩
  rw [← hR]
  have HP : Hid ((tokE C.E l).pos = posOf C.E l) := tokE_pos _ _
  clear hg
  go_enter Tryz.func149, Tryz.ntmps149
  go_wp2_with (go_at_call 84; refine Calls.mono HN.out ?_; rintro e w1 ⟨rfl, hb⟩; rw [HP.out]; have HG1 := Hid.out (p := Hid _) (HG.out.below hb); clear hb)
  have hg1 := HG1.out.box (.cells #[.int .i64 6, .int .i64 0, .int .i64 (posOf C.E l), .string ⟨#[]⟩, nilV] 60)
  refine Calls.mono (qword1g hg1 (w1.heap.size + 1) (by simp) ⟨#[105, 110, 116]⟩ (lit_word (by decide)) (fun h => absurd h (by decide)) _ (words_one (by decide) (by decide))) ?_
  intro e w2 hq
  change WdQ C _ _ _ _ (liftD (takeT C.E [105, 110, 116] l) d) e w2 at hq
  cases ht1 : takeT C.E [105, 110, 116] l with
  | error f =>
    rw [ht1] at hq hR
    obtain ⟨rfl, hf⟩ := hq
    subst hR
    exact ⟨rfl, rfl, hf⟩
  | ok r0 =>
    rw [ht1] at hq hR
    obtain ⟨rfl, hg, -⟩ := hq
    simp only [bindL] at hR
    have k1 := take_len ht1
    cases hn : nameT C.E r0 with
    | error f =>
      obtain ⟨hf5, hk⟩ := name_no9 hn
      rw [hn] at hR
      have HK := Hid.out (p := Hid _) (qkind_no hg 1 hk)
      clear hg hg1
      go_wp2_with fail
      refine Calls.mono HK.out ?_
      rintro e w3 ⟨rfl, hf⟩
      subst hf5 hR
      exact ⟨rfl, rfl, hf⟩
    | ok y =>
      obtain ⟨s, r⟩ := y
      have k2 := name_len hn
      obtain ⟨t, rfl, hkt, rfl⟩ := name_ok9 hn
      rw [hn] at hR
      simp only [bindT] at hR
      have HK := Hid.out (p := Hid _) (qkind_yes hg 1 hkt (Or.inl rfl))
      clear hg hg1
      go_wp2_with fail
      refine Calls.mono HK.out ?_
      rintro e w3 ⟨rfl, hg3, -⟩
      obtain ⟨hb3, hbP, hbl⟩ := hg3.bxc
      have hbP2 : ¬ C.P = w1.heap.size := fun e => hbP e.symm
      obtain ⟨b0, b1, b2, b3, b4, bf⟩ := box5 hb3
      have HG3 := Hid.out (p := Hid _) hg3
      clear hg3 hb3
      go_wp2_with fail
      have hg4 := HG3.out.set3 (.string ⟨⟨t.text⟩⟩)
      refine Calls.mono (qword1g hg4 (w3.heap.size) (by rw [set_size]) ⟨#[61]⟩ (lit_sign (by decide)) (fun h => absurd h (by decide)) _ (words_one (by decide) (by decide))) ?_
      intro e w4 hq
      change WdQ C _ _ _ _ (liftD (takeT C.E [61] r) d) e w4 at hq
      cases ht2 : takeT C.E [61] r with
      | error f =>
        rw [ht2] at hq hR
        obtain ⟨rfl, hf⟩ := hq
        subst hR
        exact ⟨rfl, rfl, hf⟩
      | ok r4 =>
        rw [ht2] at hq hR
        obtain ⟨rfl, hg, -⟩ := hq
        simp only [bindL, etT] at hR
        have k4 := take_len ht2
        have HX := Hid.out (p := Hid _) (qexpr0 (E := C.E) r4 d C _ _ _ _ rfl hg)
        clear hg hg4
        go_wp2_with fail
        refine Calls.mono (HX.out) ?_
        intro e w5 hq
        cases hx3 : exprT C.E 0 d r4 with
        | error f =>
          rw [hx3] at hq hR
          obtain ⟨rfl, hf⟩ := hq
          subst hR
          exact ⟨rfl, rfl, hf⟩
        | ok y =>
          obtain ⟨x, q5⟩ := y
          rw [hx3] at hq hR
          obtain ⟨rfl, hg⟩ := hq
          simp only [bindT] at hR
          have k5 := (exprT_len (by omega) hx3).2
          obtain ⟨v, hv⟩ : ∃ v, v = ((rows.length + ndSize x : Nat) : Int) - 1 := ⟨_, rfl⟩
          rw [← hv]
          have HV := Hid.out (p := Hid _) hv
          obtain ⟨hb5, -, hbl5⟩ := hg.bxc
          obtain ⟨c0, c1, c2, c3, c4, cf⟩ := box5 hb5
          have HG5 := Hid.out (p := Hid _) hg
          clear hg hb5 hv b0 b1 b2 b3 b4 bf
          go_wp2_with fail
          have hg6 := (HG5.out.set4 (.slice (some ⟨w5.heap.size, 0, none⟩) 1 1)).kids [v] 1 rfl (Nat.le_refl _) #[.int .i64 v] rfl (by decide) w5.heap.size (by rw [set_size])
          refine Calls.mono (qword1g hg6 (w5.heap.size + 1) (by simp) ⟨#[59]⟩ (lit_sign (by decide)) (fun h => absurd h (by decide)) _ (words_one (by decide) (by decide))) ?_
          intro e w6 hq
          change WdQ C _ _ _ _ (liftD (takeT C.E [59] q5) d) e w6 at hq
          cases ht4 : takeT C.E [59] q5 with
          | error f =>
            rw [ht4] at hq hR
            obtain ⟨rfl, hf⟩ := hq
            subst hR
            exact ⟨rfl, rfl, hf⟩
          | ok p =>
            rw [ht4] at hq hR
            obtain ⟨rfl, hg, -⟩ := hq
            skip
            have k6 := take_len ht4
            obtain ⟨hb6, -, hbl6⟩ := hg.bxc
            obtain ⟨d0, d1, d2, d3, d4, df⟩ := box5 hb6
            have HG6 := Hid.out (p := Hid _) hg
            have HR := Hid.out (p := Hid _) hR
            have hfe : (rows ++ flat rows.length x).length + 1 + p.length ≤ C.T.length := by
              rw [List.length_append, flat_len]
              have := hfw.1
              simp only [List.length_cons] at k1
              omega
            clear hg hR hb6 hg6 c0 c1 c2 c3 c4 cf
            go_wp2_with fail
            refine Calls.mono (qadd HG6.out 6 0 (posOf C.E l) t.text [v] _ _ _ (Or.inl (List.mem_cons_self ..)) hfe) ?_
            rintro e w7 ⟨rfl, hg7⟩
            have HG7 := Hid.out (p := Hid _) hg7.drop
            clear hg7
            go_wp2_with fail
            go_ret
            rw [HR.out]
            refine ⟨?_, ?_⟩
            · exact ret_int (by first | (rw [List.length_append, flat_len, size_one]; omega) | (rw [flat_len, size_one]; omega))
            · have h7 : rows ++ flat rows.length (.mk 6 0 (posOf C.E l) t.text [x]) = (rows ++ flat rows.length x) ++ [⟨6, 0, posOf C.E l, t.text, [v]⟩] := by
                rw [HV.out]
                simp [flat, flats, idxs]
              rw [h7]
              exact HG7.out
end
end

section
open Go.RowKit

theorem words_two_s {E : Int} {d : Nat} {l : List Tok} {y z : List UInt8} (h2 : shB y) : wordsR E (d + 1) [y, z] l = match takeT E y l with
    | .error q => .error q
    | .ok r => wordsR E d [z] r := by
  have h1 : ¬ opB y := by rcases h2 with rfl | rfl <;> decide
  rw [wordsR, takeT]
  split
  · rw [if_neg (fun h => h1 h.1)]
    unfold stepD
    rw [if_neg h1, if_pos h2]
    rfl
  · rfl
/-- What a function leaves that hands kids back. -/
def KdQ (C : Cx9) (w : World) (d : Nat) (bx : Option (Nat × Obj)) (rows : List Row) (r : TRes (List Nd)) (e : Ending) : Prop :=
  match r with
  | .ok (xs, q) => ∃ g n, e = .returned (.slice (some ⟨g, 0, none⟩) n n) ∧ GoP C w d bx [(idxs rows.length xs, .slice (some ⟨g, 0, none⟩) n n)] q (rows ++ flats rows.length xs)
  | .error f => e = .panicked (badF f) ∧ FrP C w

section
variable {E : Int} {d : Nat} {l : List Tok}
set_option maxRecDepth 100000 in
set_option maxHeartbeats 1600000 in
theorem qofLock (k : Int) {t : Tok} {r : List Tok} (hpl : ¬ opB t.text ∧ ¬ shB t.text) : Cpr 153 [.int .i64 k] E d (t :: r) (bindL (openT E [40] d r) fun r => bindT (nameT E r) fun s r => bindL (takeT E [41] r) fun r => bindL (takeT E [59] r) fun q => .ok (.mk k 0 t.pos s [], q)) := by
  refine cpr_of fun C w rows hE hg => ?_
  subst hE
  have hfw := hg.fewR
  have hst : stepD t.text d = d := by unfold stepD; rw [if_neg hpl.1, if_neg hpl.2]
  have HT := Hid.out (p := Hid _) (qtake_any hg (fun h => absurd h hpl.1) (fun h => absurd h hpl.2))
  have HST := Hid.out (p := Hid _) hst
  have hfd := fld2
  have hfd3 := fld3
  obtain ⟨R, hR⟩ : ∃ R : TRes Nd, R = bindL (openT C.E [40] d r) fun r => bindT (nameT C.E r) fun s r => bindL (takeT C.E [41] r) fun r => bindL (takeT C.E [59] r) fun q => .ok (.mk k 0 t.pos s [], q) := ⟨_, rfl⟩
  rw [← hR]
  clear hg hpl hst
  go_enter Tryz.func153, Tryz.ntmps153
  go_wp2_with (go_at_call 111; refine Calls.mono HT.out ?_; rintro e w1 ⟨rfl, hg, -⟩; rw [HST.out] at hg; have HG1 := Hid.out (p := Hid _) hg; clear hg)
  have hg1 := HG1.out.box (.cells #[.int .i64 k, .int .i64 0, .int .i64 t.pos, .string ⟨#[]⟩, nilV] 60)
  refine Calls.mono (qword1g hg1 (w1.heap.size + 1) (by simp) ⟨#[40]⟩ (lit_sign (by decide)) (fun h => absurd h (by decide)) _ (words_open (Or.inl rfl))) ?_
  intro e w2 hq
  change WdQ C _ _ _ _ (liftD (openT C.E [40] d r) (d + 1)) e w2 at hq
  cases ht1 : openT C.E [40] d r with
  | error f =>
    rw [ht1] at hq hR
    obtain ⟨rfl, hf⟩ := hq
    subst hR
    exact ⟨rfl, rfl, hf⟩
  | ok r1 =>
    rw [ht1] at hq hR
    obtain ⟨rfl, hg, -⟩ := hq
    simp only [bindL] at hR
    have k1 := open_len ht1
    cases hn : nameT C.E r1 with
    | error f =>
      obtain ⟨hf5, hk⟩ := name_no9 hn
      rw [hn] at hR
      have HK := Hid.out (p := Hid _) (qkind_no hg 1 hk)
      clear hg hg1
      go_wp2_with fail
      refine Calls.mono HK.out ?_
      rintro e w3 ⟨rfl, hf⟩
      subst hf5 hR
      exact ⟨rfl, rfl, hf⟩
    | ok y =>
      obtain ⟨s, r2⟩ := y
      have k2 := name_len hn
      obtain ⟨t2, rfl, hkt, rfl⟩ := name_ok9 hn
      rw [hn] at hR
      simp only [bindT] at hR
      have HK := Hid.out (p := Hid _) (qkind_yes hg 1 hkt (Or.inl rfl))
      clear hg hg1
      go_wp2_with fail
      refine Calls.mono HK.out ?_
      rintro e w3 ⟨rfl, hg3, -⟩
      obtain ⟨hb3, hbP, hbl⟩ := hg3.bxc
      have hbP2 : ¬ C.P = w1.heap.size := fun e => hbP e.symm
      obtain ⟨b0, b1, b2, b3, b4, bf⟩ := box5 hb3
      have HG3 := Hid.out (p := Hid _) hg3
      clear hg3 hb3
      go_wp2_with fail
      have hg4 := HG3.out.set3 (.string ⟨⟨t2.text⟩⟩)
      refine Calls.mono (qword2g hg4 w3.heap.size (by rw [set_size]) ⟨#[41]⟩ ⟨#[59]⟩ (lit_sign (by decide)) (lit_sign (by decide)) ⟨fun _ => Nat.le_add_left 1 d, ⟨fun h => absurd h (by decide), trivial⟩⟩ _ (words_two_s (Or.inl rfl))) ?_
      intro e w4 hq
      change WdQ C _ _ _ _ (match takeT C.E [41] r2 with
          | .error q => .error q
          | .ok r => wordsR C.E d [[59]] r) e w4 at hq
      cases ht3 : takeT C.E [41] r2 with
      | error f =>
        rw [ht3] at hq hR
        obtain ⟨rfl, hf⟩ := hq
        subst hR
        exact ⟨rfl, rfl, hf⟩
      | ok r3 =>
        rw [ht3] at hq hR
        simp only at hR
        simp only at hq
        rw [words_one (by decide) (by decide)] at hq
        cases ht4 : takeT C.E [59] r3 with
        | error f =>
          rw [ht4] at hq hR
          obtain ⟨rfl, hf⟩ := hq
          subst hR
          exact ⟨rfl, rfl, hf⟩
        | ok p =>
          rw [ht4] at hq hR
          obtain ⟨rfl, hg, -⟩ := hq
          have k3 := take_len ht3
          have k4 := take_len ht4
          obtain ⟨hb6, -, hbl6⟩ := hg.bxc
          obtain ⟨d0, d1, d2, d3, d4, df⟩ := box5 hb6
          have HG6 := Hid.out (p := Hid _) hg
          have HR := Hid.out (p := Hid _) hR
          have hfe : rows.length + 1 + p.length ≤ C.T.length := by
            have := hfw.1
            simp only [List.length_cons] at this k1 k2
            omega
          clear hg hR hb6 hg4 b0 b1 b2 b3 b4 bf
          go_wp2_with fail
          refine Calls.mono (qadd HG6.out k 0 t.pos t2.text [] none 0 0 (Or.inr ⟨rfl, rfl⟩) hfe) ?_
          rintro e w7 ⟨rfl, hg7⟩
          have HG7 := Hid.out (p := Hid _) hg7.drop
          clear hg7
          go_wp2_with fail
          go_ret
          rw [HR.out]
          refine ⟨by rw [size_none]; simp, ?_⟩
          simpa [flat, flats, idxs] using HG7.out
set_option maxRecDepth 100000 in
set_option maxHeartbeats 1600000 in
theorem qcas {C : Cx9} {w : World} {bx : Option (Nat × Obj)} {rows : List Row} (hg : GoP C w d bx [] l rows) (R : TRes (List Nd)) (hR : R = bindL (takeT C.E wCas l) fun r => bindL (openT C.E [40] d r) fun r => bindT (nmT C.E r) fun a q => bindL (takeT C.E [44] q) fun q => etT C.E (d + 1) [44] q fun b q => etT C.E (d + 1) [41] q fun c q => .ok ([a, b, c], q)) :
    Calls Tryz.prog 161 #[.pointer (some ⟨C.P, 0, none⟩)] w fun e w' => KdQ C w' d bx rows R e := by
  have HW := Hid.out (p := Hid _) (qword2 hg ⟨#[99, 97, 115]⟩ ⟨#[40]⟩ (lit_word (by decide)) (lit_sign (by decide)) ⟨fun h => absurd h (by decide), ⟨fun h => absurd h (by decide), trivial⟩⟩ _ (words_two (by decide) (by decide)))
  clear hg
  go_enter Tryz.func161, Tryz.ntmps161
  go_wp2_with fail
  refine Calls.mono HW.out ?_
  intro e w1 hq
  change WdQ C _ _ _ _ (match takeT C.E wCas l with
      | .error q => .error q
      | .ok r => wordsR C.E d [[40]] r) e w1 at hq
  cases ht1 : takeT C.E wCas l with
  | error f =>
    rw [ht1] at hq hR
    obtain ⟨rfl, hf⟩ := hq
    subst hR
    exact ⟨rfl, rfl, hf⟩
  | ok r0 =>
    rw [ht1] at hq hR
    simp only [bindL] at hR
    simp only at hq
    rw [words_open (Or.inl rfl)] at hq
    cases ht2 : openT C.E [40] d r0 with
    | error f =>
      rw [ht2] at hq hR
      obtain ⟨rfl, hf⟩ := hq
      subst hR
      exact ⟨rfl, rfl, hf⟩
    | ok r1 =>
      rw [ht2] at hq hR
      obtain ⟨rfl, hg, -⟩ := hq
      simp only at hR
      have HX := Hid.out (p := Hid _) (qname (E := C.E) (l := r1) (d := d + 1) C w1 bx [] rows rfl hg)
      clear hg
      go_wp2_with fail
      refine Calls.mono (HX.out) ?_
      intro e w2 hq
      cases hx1 : nmT C.E r1 with
      | error f =>
        rw [hx1] at hq hR
        obtain ⟨rfl, hf⟩ := hq
        subst hR
        exact ⟨rfl, rfl, hf⟩
      | ok y =>
        obtain ⟨a, q2⟩ := y
        rw [hx1] at hq hR
        obtain ⟨rfl, hg⟩ := hq
        simp only [bindT] at hR
        obtain ⟨va, hva⟩ : ∃ v, v = ((rows.length + ndSize a : Nat) : Int) - 1 := ⟨_, rfl⟩
        rw [← hva]
        have HVA := Hid.out (p := Hid _) hva
        have HG2 := Hid.out (p := Hid _) hg
        clear hg hva HX
        go_wp2_with fail
        refine Calls.mono (qword1 HG2.out ⟨#[44]⟩ (lit_sign (by decide)) (fun h => absurd h (by decide)) _ (words_one (by decide) (by decide))) ?_
        intro e w3 hq
        change WdQ C _ _ _ _ (liftD (takeT C.E [44] q2) (d + 1)) e w3 at hq
        cases ht2 : takeT C.E [44] q2 with
        | error f =>
          rw [ht2] at hq hR
          obtain ⟨rfl, hf⟩ := hq
          subst hR
          exact ⟨rfl, rfl, hf⟩
        | ok q3 =>
          rw [ht2] at hq hR
          obtain ⟨rfl, hg, -⟩ := hq
          simp only [bindL, etT] at hR
          have HX := Hid.out (p := Hid _) (qexpr0 (E := C.E) q3 (d + 1) C w3 bx [] _ rfl hg)
          clear hg
          go_wp2_with fail
          refine Calls.mono (HX.out) ?_
          intro e w4 hq
          cases hx3 : exprT C.E 0 (d + 1) q3 with
          | error f =>
            rw [hx3] at hq hR
            obtain ⟨rfl, hf⟩ := hq
            subst hR
            exact ⟨rfl, rfl, hf⟩
          | ok y =>
            obtain ⟨b, q4⟩ := y
            rw [hx3] at hq hR
            obtain ⟨rfl, hg⟩ := hq
            simp only [bindT] at hR
            obtain ⟨vb, hvb⟩ : ∃ v, v = (((rows ++ flat rows.length a).length + ndSize b : Nat) : Int) - 1 := ⟨_, rfl⟩
            rw [← hvb]
            have HVB := Hid.out (p := Hid _) hvb
            have HG4 := Hid.out (p := Hid _) hg
            clear hg hvb HX
            go_wp2_with fail
            refine Calls.mono (qword1 HG4.out ⟨#[44]⟩ (lit_sign (by decide)) (fun h => absurd h (by decide)) _ (words_one (by decide) (by decide))) ?_
            intro e w5 hq
            change WdQ C _ _ _ _ (liftD (takeT C.E [44] q4) (d + 1)) e w5 at hq
            cases ht4 : takeT C.E [44] q4 with
            | error f =>
              rw [ht4] at hq hR
              obtain ⟨rfl, hf⟩ := hq
              subst hR
              exact ⟨rfl, rfl, hf⟩
            | ok q5 =>
              rw [ht4] at hq hR
              obtain ⟨rfl, hg, -⟩ := hq
              simp only at hR
              have HX := Hid.out (p := Hid _) (qexpr0 (E := C.E) q5 (d + 1) C w5 bx [] _ rfl hg)
              clear hg
              go_wp2_with fail
              refine Calls.mono (HX.out) ?_
              intro e w6 hq
              cases hx5 : exprT C.E 0 (d + 1) q5 with
              | error f =>
                rw [hx5] at hq hR
                obtain ⟨rfl, hf⟩ := hq
                subst hR
                exact ⟨rfl, rfl, hf⟩
              | ok y =>
                obtain ⟨c, q6⟩ := y
                rw [hx5] at hq hR
                obtain ⟨rfl, hg⟩ := hq
                simp only at hR
                obtain ⟨vc, hvc⟩ : ∃ v, v = (((rows ++ flat rows.length a ++ flat (rows ++ flat rows.length a).length b).length + ndSize c : Nat) : Int) - 1 := ⟨_, rfl⟩
                rw [← hvc]
                have HVC := Hid.out (p := Hid _) hvc
                have HG6 := Hid.out (p := Hid _) hg
                clear hg hvc HX
                go_wp2_with fail
                refine Calls.mono (qword1 HG6.out ⟨#[41]⟩ (lit_sign (by decide)) (fun _ => Nat.le_add_left 1 d) _ (words_shut (Or.inl rfl))) ?_
                intro e w7 hq
                change WdQ C _ _ _ _ (liftD (takeT C.E [41] q6) d) e w7 at hq
                cases ht6 : takeT C.E [41] q6 with
                | error f =>
                  rw [ht6] at hq hR
                  obtain ⟨rfl, hf⟩ := hq
                  subst hR
                  exact ⟨rfl, rfl, hf⟩
                | ok p =>
                  rw [ht6] at hq hR
                  obtain ⟨rfl, hg, -⟩ := hq
                  skip
                  have HG7 := Hid.out (p := Hid _) hg
                  have HR := Hid.out (p := Hid _) hR
                  clear hg hR
                  go_wp2_with fail
                  go_ret
                  rw [HR.out]
                  refine ⟨w7.heap.size, 3, rfl, ?_⟩
                  have hk := HG7.out.kids [va, vb, vc] 3 rfl (by decide) #[.int .i64 va, .int .i64 vb, .int .i64 vc] rfl (by decide) w7.heap.size rfl
                  have h1 : idxs rows.length [a, b, c] = [va, vb, vc] := by
                    rw [HVA.out, HVB.out, HVC.out]
                    simp only [idxs, List.length_append, flat_len]
                  have h2 : rows ++ flats rows.length [a, b, c] = rows ++ flat rows.length a ++ flat (rows ++ flat rows.length a).length b ++ flat (rows ++ flat rows.length a ++ flat (rows ++ flat rows.length a).length b).length c := by
                    simp only [flats, List.length_append, flat_len, List.append_nil, List.append_assoc, Nat.add_assoc]
                  rw [h1, h2]
                  exact hk
end
end

end Go.Proofs.YtggfbfjdiikaeaaGreatDoor
