/-
  The document's parser: a fence.
  The document's parser: a local's statement.
  The document's parser: print.
  The document's parser: while; if without else.
  The document's parser: every statement, every block.
-/
import Derived.Test.YtggfbfjdiikaeaaGreatDoorSynF9
import Derived.Test.YtggfbfjdiikaeaaGreatDoorSynH1
import Derived.Test.YtggfbfjdiikaeaaGreatDoorSynG7
namespace Go.Proofs.YtggfbfjdiikaeaaGreatDoor
section
open Go.RowKit

section
variable {E : Int} {d : Nat}
set_option maxRecDepth 100000 in
set_option maxHeartbeats 3200000 in
theorem rstmt_fence (hd : d ≤ 20) {t : Tok} {r : List Tok} (hk : t.kind = 2) (hw : t.text = wFence) : Ctr 54 [] E d (t :: r) (stmtT E d (t :: r)) (ubD d + 9) := by
  refine ctr_of fun C w rows hE _ hg => ?_
  subst hE
  obtain ⟨M, hM⟩ : ∃ M, M = ubD d + 4 := ⟨_, rfl⟩
  have hM4 : 4000 ≤ M ∧ M ≤ 5000 := by rw [hM]; unfold ubD; omega
  have hfw := (hg M).fewR
  have hT := (hg M).few
  have HC := Hid.out (p := Hid _) (hg M)
  have HK := Hid.out (p := Hid _) hM4
  have HM := Hid.out (p := Hid _) hM
  have HTK : Hid (takeT C.E wFence (t :: r) = .ok r) := by
    show _ = _
    unfold takeT
    rw [if_pos (by simp [isTok, hk, hw])]
    rfl
  have HWO : Hid (wordOf (t :: r) = wFence) := by show _ = _; rw [wordOf, if_pos hk, hw]
  obtain ⟨R, hR⟩ : ∃ R, R = stmtT C.E d (t :: r) := ⟨_, rfl⟩
  rw [← hR]
  have HRS : Hid (∀ x q, R = .ok (x, q) → rows.length + ndSize x + q.length ≤ C.T.length) := fun x q hx => by
    obtain ⟨n, y, hy⟩ := (tl_stmt (e := C.E) d (t :: r)).tot
    have h3 := tld_is (st_up d (t :: r)) hy
    have h4 := (stmt_size n).1 _ _ _ _ (hy.trans (congrArg some (h3.symm.trans (hR.symm.trans hx))))
    omega
  have HR := Hid.out (p := Hid _) hR
  have HMA : Hid (MatN rows R 14 t.pos [] nilV [] (takeT C.E [59] r) rows) := by
    show MatN rows R 14 t.pos [] nilV [] (takeT C.E [59] r) rows
    rw [hR, stmtT_is, HWO.out, if_neg (by decide), if_neg (by decide), if_neg (by decide), if_neg (by decide), if_neg (by decide), if_pos rfl, List.tail_cons]
    cases ht : takeT C.E [59] r with
    | error f => rfl
    | ok q => exact ⟨rfl, [], rfl, by simp [flats], Or.inr ⟨rfl, rfl⟩⟩
  clear hg hR hM hM4
  go_enter Tryz.func54, Tryz.ntmps54
  go_wp2_with (go_at_call 28; refine Calls.mono (gat HC.out) ?_; rintro e w1 ⟨rfl, hg⟩; replace HC := Hid.out (p := Hid _) hg; clear hg)
  rw [show posE C.E (.ok (t :: r)) = t.pos from rfl]
  obtain ⟨i, d1, lv, a, hps, hil, _⟩ := HC.out.ps9
  obtain ⟨hi, -⟩ := hil _ rfl
  have hle := hps.le
  have hP := hps.lt
  have c0 := hps.c0
  have c2 := hps.c2
  obtain ⟨ta, tc, htv⟩ := hps.toks.form
  have htk := hps.toks
  rw [htv] at c0 htk
  have hlt : i < C.T.length := by
    rcases Nat.lt_or_ge i C.T.length with h1 | h1
    · exact h1
    · rw [List.drop_eq_nil_of_le h1] at hi; cases hi
  have hgd := getD_drop hlt
  rw [hi] at hgd
  simp only [List.cons.injEq] at hgd
  obtain ⟨g, rfl, t0, t1, t2, t3⟩ := htk.cells hlt
  have hlt' : (i : Int) < (C.T.length : Int) := by omega
  rw [← hgd.1] at t0 t1 t2 t3
  rw [hk] at t0
  rw [hw] at t3
  have hgl : g < w1.heap.size := lt_of_cell t0
  replace HC : Hid (GoS C (w1.drew.drew.alloc (.cells #[.int .i64 0, .int .i64 0, .int .i64 t.pos, .string ⟨#[]⟩, nilV] 60)) d M (some (w1.heap.size, .cells #[.int .i64 0, .int .i64 0, .int .i64 t.pos, .string ⟨#[]⟩, nilV] 60)) [] (.ok (t :: r)) rows) := (HC.out.below (Below.refl _ _).drew.drew).box _
  clear hil hps htk hgd hi
  go_region
  go_wp2_with fail
  go_region
  go_wp2_with (first
    | (go_at_call 29; refine Calls.mono (gtake HC.out HK.out.1 _) ?_; rintro e w2 ⟨rfl, hg⟩; replace hg : GoS C w2 d M _ [] (takeT C.E wFence (t :: r)) rows := hg; rw [HTK.out] at hg; obtain ⟨hb, hbP⟩ := hg.bxc; have hbP2 : ¬ C.P = _ := (fun e => hbP e.symm); obtain ⟨b0, b1, b2, b3, b4, bf⟩ := box5 hb; have hbl := lt_of_cell b0; have HC2 := Hid.out (p := Hid _) hg; clear hg hb HC)
    | (go_at_call 29; refine Calls.mono (gtake (HC2.out.set0 _) HK.out.1 _) ?_; rintro e w3 ⟨rfl, hg⟩; obtain ⟨hb, hbP⟩ := hg.bxc; have hbP2 : ¬ C.P = _ := (fun e => hbP e.symm); obtain ⟨b0, b1, b2, b3, b4, bf⟩ := box5 hb; have hbl := lt_of_cell b0; have HC3 := Hid.out (p := Hid _) hg; clear hg hb HC2)
    | (go_at_call 31; refine Calls.mono (pre_node HC3.out HMA.out (by have := HK.out; omega) HRS.out) ?_; rintro e w9 ⟨v9, rfl, hq9⟩; skip))
  go_ret
  exact ⟨v9, rfl, hq9.more (by have := HM.out; omega)⟩
end
end

section
open Go.RowKit

section
variable {E : Int} {d : Nat}
set_option maxRecDepth 100000 in
set_option maxHeartbeats 3200000 in
theorem rstmt_int (hd : d ≤ 20) {t : Tok} {r : List Tok} (hk : t.kind = 2) (hw : t.text = wInt) : Ctr 54 [] E d (t :: r) (stmtT E d (t :: r)) (ubD d + 9) := by
  refine ctr_of fun C w rows hE _ hg => ?_
  subst hE
  obtain ⟨M, hM⟩ : ∃ M, M = ubD d + 4 := ⟨_, rfl⟩
  have hM4 : 4000 ≤ M ∧ M ≤ 5000 := by rw [hM]; unfold ubD; omega
  have hfw := (hg M).fewR
  have hT := (hg M).few
  have HC := Hid.out (p := Hid _) (hg M)
  have HK := Hid.out (p := Hid _) hM4
  have HM := Hid.out (p := Hid _) hM
  have HTK : Hid (takeT C.E wInt (t :: r) = .ok r) := by
    show _ = _
    unfold takeT
    rw [if_pos (by simp [isTok, hk, hw])]
    rfl
  have HWO : Hid (wordOf (t :: r) = wInt) := by show _ = _; rw [wordOf, if_pos hk, hw]
  obtain ⟨R, hR⟩ : ∃ R, R = stmtT C.E d (t :: r) := ⟨_, rfl⟩
  rw [← hR]
  have HRS : Hid (∀ x q, R = .ok (x, q) → rows.length + ndSize x + q.length ≤ C.T.length) := fun x q hx => by
    obtain ⟨n, y, hy⟩ := (tl_stmt (e := C.E) d (t :: r)).tot
    have h3 := tld_is (st_up d (t :: r)) hy
    have h4 := (stmt_size n).1 _ _ _ _ (hy.trans (congrArg some (h3.symm.trans (hR.symm.trans hx))))
    omega
  have HR := Hid.out (p := Hid _) hR
  obtain ⟨s4, hs4⟩ : ∃ s4, s4 = bindE (namE C.E (.ok r)).2 (takeT C.E [61]) := ⟨_, rfl⟩
  have HS4 := Hid.out (p := Hid _) hs4
  obtain ⟨x5, hx5⟩ : ∃ x5, x5 = bindL s4 (exprT C.E 0 d) := ⟨_, rfl⟩
  have HX : Hid (∀ w1 bx ps, GoS C w1 d M bx ps s4 rows → Calls Tryz.prog 73 #[.pointer (some ⟨C.P, 0, none⟩), .int .i64 0] w1 fun e w' => ∃ v, e = .returned (.int .i64 v) ∧ TrQ C w' d (M + 1) bx ps rows x5 v) := fun w1 bx ps hg1 => by
    rw [hx5]
    exact gtree (err_expr9 0 (by omega)) hg1 (fun q _ => (rexpr_ctr q d hd).more (by omega)) (by omega)
  have HMA : Hid (∀ (v : Int) (kv : Value), (∀ x q, x5 = .ok (x, q) → v = ((rows.length + ndSize x : Nat) : Int) - 1) → MatN rows R 6 t.pos (namE C.E (.ok r)).1 kv [([v], kv)] (bindE (resE x5) (takeT C.E [59])) (rowsE rows x5)) := fun v kv hv => by
    rw [hR, stmtT_is, HWO.out, if_neg (by decide), if_neg (by decide), if_pos rfl, List.tail_cons]
    rw [hx5, hs4] at hv ⊢
    simp only [namE]
    cases hn : nameT C.E r with
    | error f => rfl
    | ok y =>
      obtain ⟨s, q1⟩ := y
      simp only [namE, hn] at hv
      simp only [bindT, bindE] at hv ⊢
      cases ht : takeT C.E [61] q1 with
      | error f => rfl
      | ok q2 =>
        rw [ht] at hv
        simp only [bindL, etT] at hv ⊢
        cases hx : exprT C.E 0 d q2 with
        | error f => rfl
        | ok y =>
          obtain ⟨x, q3⟩ := y
          have hv2 := hv x q3 hx
          simp only [bindT, resE]
          cases ht2 : takeT C.E [59] q3 with
          | error f => rfl
          | ok q4 =>
            refine ⟨rfl, [x], rfl, by simp [rowsE, flats], Or.inl ?_⟩
            rw [hv2]
            exact List.mem_cons_self ..
  clear hs4 hx5
  clear hg hR hM hM4
  go_enter Tryz.func54, Tryz.ntmps54
  go_wp2_with (go_at_call 28; refine Calls.mono (gat HC.out) ?_; rintro e w1 ⟨rfl, hg⟩; replace HC := Hid.out (p := Hid _) hg; clear hg)
  rw [show posE C.E (.ok (t :: r)) = t.pos from rfl]
  obtain ⟨i, d1, lv, a, hps, hil, _⟩ := HC.out.ps9
  obtain ⟨hi, -⟩ := hil _ rfl
  have hle := hps.le
  have hP := hps.lt
  have c0 := hps.c0
  have c2 := hps.c2
  obtain ⟨ta, tc, htv⟩ := hps.toks.form
  have htk := hps.toks
  rw [htv] at c0 htk
  have hlt : i < C.T.length := by
    rcases Nat.lt_or_ge i C.T.length with h1 | h1
    · exact h1
    · rw [List.drop_eq_nil_of_le h1] at hi; cases hi
  have hgd := getD_drop hlt
  rw [hi] at hgd
  simp only [List.cons.injEq] at hgd
  obtain ⟨g, rfl, t0, t1, t2, t3⟩ := htk.cells hlt
  have hlt' : (i : Int) < (C.T.length : Int) := by omega
  rw [← hgd.1] at t0 t1 t2 t3
  rw [hk] at t0
  rw [hw] at t3
  have hgl : g < w1.heap.size := lt_of_cell t0
  replace HC : Hid (GoS C (w1.drew.drew.alloc (.cells #[.int .i64 0, .int .i64 0, .int .i64 t.pos, .string ⟨#[]⟩, nilV] 60)) d M (some (w1.heap.size, .cells #[.int .i64 0, .int .i64 0, .int .i64 t.pos, .string ⟨#[]⟩, nilV] 60)) [] (.ok (t :: r)) rows) := (HC.out.below (Below.refl _ _).drew.drew).box _
  clear hil hps htk hgd hi
  go_region
  go_wp2_with fail
  go_region
  go_wp2_with (first
    | (go_at_call 29; refine Calls.mono (gtake HC.out HK.out.1 _) ?_; rintro e w2 ⟨rfl, hg⟩; replace hg : GoS C w2 d M _ [] (takeT C.E wInt (t :: r)) rows := hg; rw [HTK.out] at hg; obtain ⟨hb, hbP⟩ := hg.bxc; have hbP2 : ¬ C.P = _ := (fun e => hbP e.symm); obtain ⟨b0, b1, b2, b3, b4, bf⟩ := box5 hb; have hbl := lt_of_cell b0; have HC2 := Hid.out (p := Hid _) hg; clear hg hb HC)
    | (go_at_call 51; refine Calls.mono (gname (HC2.out.set0 _) HK.out.1) ?_; rintro e w3 ⟨rfl, hg⟩; obtain ⟨hb, hbP⟩ := hg.bxc; have hbP2 : ¬ C.P = _ := (fun e => hbP e.symm); obtain ⟨b0, b1, b2, b3, b4, bf⟩ := box5 hb; have hbl := lt_of_cell b0; have HC3 := Hid.out (p := Hid _) hg; clear hg hb HC2)
    | (go_at_call 29; refine Calls.mono (gtake (HC3.out.set3 _) HK.out.1 _) ?_; rintro e w4 ⟨rfl, hg⟩; replace hg : GoS C w4 d M _ [] (bindE (namE C.E (.ok r)).2 (takeT C.E [61])) rows := hg; rw [← HS4.out] at hg; have HC4 := Hid.out (p := Hid _) hg; clear hg HC3)
    | (go_at_call 73; refine Calls.mono (HX.out _ _ _ HC4.out) ?_; rintro e w5 ⟨v5, rfl, hq⟩; have hq := hq.st; have hg := hq.go; obtain ⟨hb, hbP⟩ := hg.bxc; have hbP2 : ¬ C.P = _ := (fun e => hbP e.symm); obtain ⟨b0, b1, b2, b3, b4, bf⟩ := box5 hb; have hbl := lt_of_cell b0; have HC5 := Hid.out (p := Hid _) hq; clear hg hb hq HC4)
    | (go_at_call 29; refine Calls.mono (gtake ((HC5.out.go.set4 _).kids [v5] 1 rfl (Nat.le_refl _) #[.int .i64 v5] rfl (by decide) w5.heap.size (by rw [set_size])) (Nat.le_succ_of_le HK.out.1) _) ?_; rintro e w6 ⟨rfl, hg⟩; obtain ⟨hb, hbP⟩ := hg.bxc; have hbP2 : ¬ C.P = _ := (fun e => hbP e.symm); obtain ⟨b0, b1, b2, b3, b4, bf⟩ := box5 hb; have hbl := lt_of_cell b0; have HC6 := Hid.out (p := Hid _) hg; have HV5 := Hid.out (p := Hid _) HC5.out.val; clear hg hb HC5)
    | (go_at_call 31; refine Calls.mono (pre_node HC6.out (HMA.out _ _ HV5.out) (by have := HK.out; omega) HRS.out) ?_; rintro e w9 ⟨v9, rfl, hq9⟩; skip))
  go_ret
  exact ⟨v9, rfl, hq9.more (by have := HM.out; omega)⟩
end
end

section
open Go.RowKit

section
variable {E : Int} {d : Nat}
set_option maxRecDepth 100000 in
set_option maxHeartbeats 3200000 in
theorem rstmt_print (hd : d ≤ 20) {t : Tok} {r : List Tok} (hk : t.kind = 2) (hw : t.text = wPrint) : Ctr 54 [] E d (t :: r) (stmtT E d (t :: r)) (ubD d + 9) := by
  refine ctr_of fun C w rows hE _ hg => ?_
  subst hE
  obtain ⟨M, hM⟩ : ∃ M, M = ubD d + 4 := ⟨_, rfl⟩
  have hM4 : 4000 ≤ M ∧ M ≤ 5000 := by rw [hM]; unfold ubD; omega
  have hfw := (hg M).fewR
  have hT := (hg M).few
  have HC := Hid.out (p := Hid _) (hg M)
  have HK := Hid.out (p := Hid _) hM4
  have HM := Hid.out (p := Hid _) hM
  have HTK : Hid (takeT C.E wPrint (t :: r) = .ok r) := by
    show _ = _
    unfold takeT
    rw [if_pos (by simp [isTok, hk, hw])]
    rfl
  have HWO : Hid (wordOf (t :: r) = wPrint) := by show _ = _; rw [wordOf, if_pos hk, hw]
  obtain ⟨R, hR⟩ : ∃ R, R = stmtT C.E d (t :: r) := ⟨_, rfl⟩
  rw [← hR]
  have HRS : Hid (∀ x q, R = .ok (x, q) → rows.length + ndSize x + q.length ≤ C.T.length) := fun x q hx => by
    obtain ⟨n, y, hy⟩ := (tl_stmt (e := C.E) d (t :: r)).tot
    have h3 := tld_is (st_up d (t :: r)) hy
    have h4 := (stmt_size n).1 _ _ _ _ (hy.trans (congrArg some (h3.symm.trans (hR.symm.trans hx))))
    omega
  have HR := Hid.out (p := Hid _) hR
  have HX := Hid.out (p := Hid _) (rheld9 (E := C.E) r d hd)
  have HMA : Hid (∀ (v : Int) (kv : Value), (∀ x q, heldT C.E d r = .ok (x, q) → v = ((rows.length + ndSize x : Nat) : Int) - 1) → MatN rows R 11 t.pos [] kv [([v], kv)] (bindE (resE (heldT C.E d r)) (takeT C.E [59])) (rowsE rows (heldT C.E d r))) := fun v kv hv => by
    rw [hR, stmtT_is, HWO.out, if_neg (by decide), if_neg (by decide), if_neg (by decide), if_pos rfl, List.tail_cons]
    cases hx : heldT C.E d r with
    | error f => rfl
    | ok y =>
      obtain ⟨x, q3⟩ := y
      have hv2 := hv x q3 hx
      simp only [bindT, resE, bindE]
      cases ht2 : takeT C.E [59] q3 with
      | error f => rfl
      | ok q4 =>
        refine ⟨rfl, [x], rfl, by simp [rowsE, flats], Or.inl ?_⟩
        rw [hv2]
        exact List.mem_cons_self ..
  clear hg hR hM hM4
  go_enter Tryz.func54, Tryz.ntmps54
  go_wp2_with (go_at_call 28; refine Calls.mono (gat HC.out) ?_; rintro e w1 ⟨rfl, hg⟩; replace HC := Hid.out (p := Hid _) hg; clear hg)
  rw [show posE C.E (.ok (t :: r)) = t.pos from rfl]
  obtain ⟨i, d1, lv, a, hps, hil, _⟩ := HC.out.ps9
  obtain ⟨hi, -⟩ := hil _ rfl
  have hle := hps.le
  have hP := hps.lt
  have c0 := hps.c0
  have c2 := hps.c2
  obtain ⟨ta, tc, htv⟩ := hps.toks.form
  have htk := hps.toks
  rw [htv] at c0 htk
  have hlt : i < C.T.length := by
    rcases Nat.lt_or_ge i C.T.length with h1 | h1
    · exact h1
    · rw [List.drop_eq_nil_of_le h1] at hi; cases hi
  have hgd := getD_drop hlt
  rw [hi] at hgd
  simp only [List.cons.injEq] at hgd
  obtain ⟨g, rfl, t0, t1, t2, t3⟩ := htk.cells hlt
  have hlt' : (i : Int) < (C.T.length : Int) := by omega
  rw [← hgd.1] at t0 t1 t2 t3
  rw [hk] at t0
  rw [hw] at t3
  have hgl : g < w1.heap.size := lt_of_cell t0
  replace HC : Hid (GoS C (w1.drew.drew.alloc (.cells #[.int .i64 0, .int .i64 0, .int .i64 t.pos, .string ⟨#[]⟩, nilV] 60)) d M (some (w1.heap.size, .cells #[.int .i64 0, .int .i64 0, .int .i64 t.pos, .string ⟨#[]⟩, nilV] 60)) [] (.ok (t :: r)) rows) := (HC.out.below (Below.refl _ _).drew.drew).box _
  clear hil hps htk hgd hi
  go_region
  go_wp2_with fail
  go_region
  go_wp2_with (first
    | (go_at_call 29; refine Calls.mono (gtake HC.out HK.out.1 _) ?_; rintro e w2 ⟨rfl, hg⟩; replace hg : GoS C w2 d M _ [] (takeT C.E wPrint (t :: r)) rows := hg; rw [HTK.out] at hg; obtain ⟨hb, hbP⟩ := hg.bxc; have hbP2 : ¬ C.P = _ := (fun e => hbP e.symm); obtain ⟨b0, b1, b2, b3, b4, bf⟩ := box5 hb; have hbl := lt_of_cell b0; have HC2 := Hid.out (p := Hid _) hg; clear hg hb HC)
    | (go_at_call 74; refine Calls.mono (HX.out C _ _ _ _ _ rfl (HC2.out.set0 _)) ?_; rintro e w5 ⟨v5, rfl, hq⟩; have hq := (hq.more (show ubD d ≤ M by have := HM.out; omega)).st; have hg := hq.go; obtain ⟨hb, hbP⟩ := hg.bxc; have hbP2 : ¬ C.P = _ := (fun e => hbP e.symm); obtain ⟨b0, b1, b2, b3, b4, bf⟩ := box5 hb; have hbl := lt_of_cell b0; have HC5 := Hid.out (p := Hid _) hq; clear hg hb hq HC2)
    | (go_at_call 29; refine Calls.mono (gtake ((HC5.out.go.set4 _).kids [v5] 1 rfl (Nat.le_refl _) #[.int .i64 v5] rfl (by decide) w5.heap.size (by rw [set_size])) HK.out.1 _) ?_; rintro e w6 ⟨rfl, hg⟩; obtain ⟨hb, hbP⟩ := hg.bxc; have hbP2 : ¬ C.P = _ := (fun e => hbP e.symm); obtain ⟨b0, b1, b2, b3, b4, bf⟩ := box5 hb; have hbl := lt_of_cell b0; have HC6 := Hid.out (p := Hid _) hg; have HV5 := Hid.out (p := Hid _) HC5.out.val; clear hg hb HC5)
    | (go_at_call 31; refine Calls.mono (pre_node HC6.out (HMA.out _ _ HV5.out) (by have := HK.out; omega) HRS.out) ?_; rintro e w9 ⟨v9, rfl, hq9⟩; skip))
  go_ret
  exact ⟨v9, rfl, hq9.more (by have := HM.out; omega)⟩
end
end

section
open Go.RowKit

section
variable {E : Int} {d : Nat}
set_option maxRecDepth 100000 in
set_option maxHeartbeats 3200000 in
theorem rstmt_while (hd : d ≤ 20) {t : Tok} {r : List Tok} (hk : t.kind = 2) (hw : t.text = wWhile) (IH : ∀ q, q.length < r.length → Ctr 30 [] E d q (blockT E d q) (ubD d)) : Ctr 54 [] E d (t :: r) (stmtT E d (t :: r)) (ubD d + 9) := by
  refine ctr_of fun C w rows hE _ hg => ?_
  subst hE
  obtain ⟨M, hM⟩ : ∃ M, M = ubD d + 4 := ⟨_, rfl⟩
  have hM4 : 4000 ≤ M ∧ M ≤ 5000 := by rw [hM]; unfold ubD; omega
  have hfw := (hg M).fewR
  have hT := (hg M).few
  have HC := Hid.out (p := Hid _) (hg M)
  have HK := Hid.out (p := Hid _) hM4
  have HM := Hid.out (p := Hid _) hM
  have HTK : Hid (takeT C.E wWhile (t :: r) = .ok r) := by
    show _ = _
    unfold takeT
    rw [if_pos (by simp [isTok, hk, hw])]
    rfl
  have HWO : Hid (wordOf (t :: r) = wWhile) := by show _ = _; rw [wordOf, if_pos hk, hw]
  obtain ⟨R, hR⟩ : ∃ R, R = stmtT C.E d (t :: r) := ⟨_, rfl⟩
  rw [← hR]
  have HRS : Hid (∀ x q, R = .ok (x, q) → rows.length + ndSize x + q.length ≤ C.T.length) := fun x q hx => by
    obtain ⟨n, y, hy⟩ := (tl_stmt (e := C.E) d (t :: r)).tot
    have h3 := tld_is (st_up d (t :: r)) hy
    have h4 := (stmt_size n).1 _ _ _ _ (hy.trans (congrArg some (h3.symm.trans (hR.symm.trans hx))))
    omega
  have HR := Hid.out (p := Hid _) hR
  have HX := Hid.out (p := Hid _) (rheld9 (E := C.E) r d hd)
  obtain ⟨s4, hs4⟩ : ∃ s4, s4 = resE (heldT C.E d r) := ⟨_, rfl⟩
  obtain ⟨x5, hx5⟩ : ∃ x5, x5 = bindL s4 (blockT C.E d) := ⟨_, rfl⟩
  have HS4 := Hid.out (p := Hid _) hs4
  have HXB : Hid (∀ w1 bx ps rs, GoS C w1 d M bx ps s4 rs → Calls Tryz.prog 30 #[.pointer (some ⟨C.P, 0, none⟩)] w1 fun e w' => ∃ v, e = .returned (.int .i64 v) ∧ TrQ C w' d (M + 1) bx ps rs x5 v) := fun w1 bx ps rs hg1 => by
    rw [hx5]
    refine gtree err_block9 hg1 (fun q hq => (IH q ?_).more (by omega)) (by omega)
    rw [hs4] at hq
    cases hh : heldT C.E d r with
    | error f => rw [hh] at hq; cases hq
    | ok y =>
      obtain ⟨x, q2⟩ := y
      rw [hh] at hq
      cases hq
      obtain ⟨n, y, hy⟩ := he_tot (e := C.E) d r
      have h3 := tld_is (he_up r) hy
      exact (expr_len n).2.2.2 _ _ _ _ (hy.trans (congrArg some (h3.symm.trans hh)))
  have HMA : Hid (∀ (v v5 : Int) (kv : Value), (∀ x q, heldT C.E d r = .ok (x, q) → v = ((rows.length + ndSize x : Nat) : Int) - 1) → (∀ x q, x5 = .ok (x, q) → v5 = (((rowsE rows (heldT C.E d r)).length + ndSize x : Nat) : Int) - 1) → MatN rows R 10 t.pos [] kv [([v, v5], kv)] (resE x5) (rowsE (rowsE rows (heldT C.E d r)) x5)) := fun v v5 kv hv hv5 => by
    rw [hR, stmtT_is, HWO.out, if_neg (by decide), if_pos rfl, List.tail_cons]
    rw [hx5, hs4] at hv5 ⊢
    cases hx : heldT C.E d r with
    | error f => rfl
    | ok y =>
      obtain ⟨x, q3⟩ := y
      have hv2 := hv x q3 hx
      rw [hx] at hv5
      simp only [bindT, resE, bindL] at hv5 ⊢
      cases hb : blockT C.E d q3 with
      | error f => rfl
      | ok y =>
        obtain ⟨z, q4⟩ := y
        have hv3 := hv5 z q4 hb
        refine ⟨rfl, [x, z], rfl, by simp [rowsE, flats, flat_len], Or.inl ?_⟩
        rw [hv2, hv3]
        refine List.mem_cons.2 (Or.inl ?_)
        simp [idxs, rowsE, flat_len]
  clear hs4 hx5
  clear hg hR hM hM4
  go_enter Tryz.func54, Tryz.ntmps54
  go_wp2_with (go_at_call 28; refine Calls.mono (gat HC.out) ?_; rintro e w1 ⟨rfl, hg⟩; replace HC := Hid.out (p := Hid _) hg; clear hg)
  rw [show posE C.E (.ok (t :: r)) = t.pos from rfl]
  obtain ⟨i, d1, lv, a, hps, hil, _⟩ := HC.out.ps9
  obtain ⟨hi, -⟩ := hil _ rfl
  have hle := hps.le
  have hP := hps.lt
  have c0 := hps.c0
  have c2 := hps.c2
  obtain ⟨ta, tc, htv⟩ := hps.toks.form
  have htk := hps.toks
  rw [htv] at c0 htk
  have hlt : i < C.T.length := by
    rcases Nat.lt_or_ge i C.T.length with h1 | h1
    · exact h1
    · rw [List.drop_eq_nil_of_le h1] at hi; cases hi
  have hgd := getD_drop hlt
  rw [hi] at hgd
  simp only [List.cons.injEq] at hgd
  obtain ⟨g, rfl, t0, t1, t2, t3⟩ := htk.cells hlt
  have hlt' : (i : Int) < (C.T.length : Int) := by omega
  rw [← hgd.1] at t0 t1 t2 t3
  rw [hk] at t0
  rw [hw] at t3
  have hgl : g < w1.heap.size := lt_of_cell t0
  replace HC : Hid (GoS C (w1.drew.drew.alloc (.cells #[.int .i64 0, .int .i64 0, .int .i64 t.pos, .string ⟨#[]⟩, nilV] 60)) d M (some (w1.heap.size, .cells #[.int .i64 0, .int .i64 0, .int .i64 t.pos, .string ⟨#[]⟩, nilV] 60)) [] (.ok (t :: r)) rows) := (HC.out.below (Below.refl _ _).drew.drew).box _
  clear hil hps htk hgd hi
  go_region
  go_wp2_with fail
  go_region
  go_wp2_with (first
    | (go_at_call 29; refine Calls.mono (gtake HC.out HK.out.1 _) ?_; rintro e w2 ⟨rfl, hg⟩; replace hg : GoS C w2 d M _ [] (takeT C.E wWhile (t :: r)) rows := hg; rw [HTK.out] at hg; obtain ⟨hb, hbP⟩ := hg.bxc; have hbP2 : ¬ C.P = _ := (fun e => hbP e.symm); obtain ⟨b0, b1, b2, b3, b4, bf⟩ := box5 hb; have hbl := lt_of_cell b0; have HC2 := Hid.out (p := Hid _) hg; clear hg hb HC)
    | (go_at_call 74; refine Calls.mono (HX.out C _ _ _ _ _ rfl (HC2.out.set0 _)) ?_; rintro e w5 ⟨v5, rfl, hq⟩; have hq := (hq.more (show ubD d ≤ M by have := HM.out; omega)).st; have hg := hq.go; rw [← HS4.out] at hg; have HC5 := Hid.out (p := Hid _) hg; have HV5 := Hid.out (p := Hid _) hq.val; clear hg hq HC2)
    | (go_at_call 30; refine Calls.mono (HXB.out _ _ _ _ HC5.out) ?_; rintro e w6 ⟨v6, rfl, hq⟩; have hq := hq.st; have hg := hq.go; obtain ⟨hb, hbP⟩ := hg.bxc; have hbP2 : ¬ C.P = _ := (fun e => hbP e.symm); obtain ⟨b0, b1, b2, b3, b4, bf⟩ := box5 hb; have hbl := lt_of_cell b0; have HC6 := Hid.out (p := Hid _) hg; have HV6 := Hid.out (p := Hid _) hq.val; clear hg hb hq HC5)
    | (go_at_call 31; refine Calls.mono (pre_node ((HC6.out.set4 _).kids [v5, v6] 2 rfl (by decide) #[.int .i64 v5, .int .i64 v6] rfl (by decide) w6.heap.size (by rw [set_size])) (HMA.out _ _ _ HV5.out HV6.out) (by have := HK.out; omega) HRS.out) ?_; rintro e w9 ⟨v9, rfl, hq9⟩; skip))
  go_ret
  exact ⟨v9, rfl, hq9.more (by have := HM.out; omega)⟩
set_option maxRecDepth 100000 in
set_option maxHeartbeats 3200000 in
theorem rstmt_if (hd : d ≤ 20) {t : Tok} {r : List Tok} (hk : t.kind = 2) (hw : t.text = wIf) (IH : ∀ q, q.length < r.length → Ctr 30 [] E d q (blockT E d q) (ubD d)) (hel : isE wElse (resE (bindL (resE (heldT E d r)) (blockT E d))) = false) : Ctr 54 [] E d (t :: r) (stmtT E d (t :: r)) (ubD d + 9) := by
  refine ctr_of fun C w rows hE _ hg => ?_
  subst hE
  obtain ⟨M, hM⟩ : ∃ M, M = ubD d + 4 := ⟨_, rfl⟩
  have hM4 : 4000 ≤ M ∧ M ≤ 5000 := by rw [hM]; unfold ubD; omega
  have hfw := (hg M).fewR
  have hT := (hg M).few
  have HC := Hid.out (p := Hid _) (hg M)
  have HK := Hid.out (p := Hid _) hM4
  have HM := Hid.out (p := Hid _) hM
  have HTK : Hid (takeT C.E wIf (t :: r) = .ok r) := by
    show _ = _
    unfold takeT
    rw [if_pos (by simp [isTok, hk, hw])]
    rfl
  have HWO : Hid (wordOf (t :: r) = wIf) := by show _ = _; rw [wordOf, if_pos hk, hw]
  obtain ⟨R, hR⟩ : ∃ R, R = stmtT C.E d (t :: r) := ⟨_, rfl⟩
  rw [← hR]
  have HRS : Hid (∀ x q, R = .ok (x, q) → rows.length + ndSize x + q.length ≤ C.T.length) := fun x q hx => by
    obtain ⟨n, y, hy⟩ := (tl_stmt (e := C.E) d (t :: r)).tot
    have h3 := tld_is (st_up d (t :: r)) hy
    have h4 := (stmt_size n).1 _ _ _ _ (hy.trans (congrArg some (h3.symm.trans (hR.symm.trans hx))))
    omega
  have HR := Hid.out (p := Hid _) hR
  have HX := Hid.out (p := Hid _) (rheld9 (E := C.E) r d hd)
  obtain ⟨s4, hs4⟩ : ∃ s4, s4 = resE (heldT C.E d r) := ⟨_, rfl⟩
  obtain ⟨x5, hx5⟩ : ∃ x5, x5 = bindL s4 (blockT C.E d) := ⟨_, rfl⟩
  have HS4 := Hid.out (p := Hid _) hs4
  have HXB : Hid (∀ w1 bx ps rs, GoS C w1 d M bx ps s4 rs → Calls Tryz.prog 30 #[.pointer (some ⟨C.P, 0, none⟩)] w1 fun e w' => ∃ v, e = .returned (.int .i64 v) ∧ TrQ C w' d (M + 1) bx ps rs x5 v) := fun w1 bx ps rs hg1 => by
    rw [hx5]
    refine gtree err_block9 hg1 (fun q hq => (IH q ?_).more (by omega)) (by omega)
    rw [hs4] at hq
    cases hh : heldT C.E d r with
    | error f => rw [hh] at hq; cases hq
    | ok y =>
      obtain ⟨x, q2⟩ := y
      rw [hh] at hq
      cases hq
      obtain ⟨n, y, hy⟩ := he_tot (e := C.E) d r
      have h3 := tld_is (he_up r) hy
      exact (expr_len n).2.2.2 _ _ _ _ (hy.trans (congrArg some (h3.symm.trans hh)))
  have HMA : Hid (∀ (v v5 : Int) (kv : Value), (∀ x q, heldT C.E d r = .ok (x, q) → v = ((rows.length + ndSize x : Nat) : Int) - 1) → (∀ x q, x5 = .ok (x, q) → v5 = (((rowsE rows (heldT C.E d r)).length + ndSize x : Nat) : Int) - 1) → MatN rows R 9 t.pos [] kv [([v, v5], kv)] (resE x5) (rowsE (rowsE rows (heldT C.E d r)) x5)) := fun v v5 kv hv hv5 => by
    rw [hR, stmtT_is, HWO.out, if_pos rfl, List.tail_cons]
    rw [hx5, hs4] at hv5 ⊢
    cases hx : heldT C.E d r with
    | error f => rfl
    | ok y =>
      obtain ⟨x, q3⟩ := y
      have hv2 := hv x q3 hx
      rw [hx] at hv5
      simp only [bindT, resE, bindL] at hv5 ⊢
      cases hb : blockT C.E d q3 with
      | error f => rfl
      | ok y =>
        obtain ⟨z, q4⟩ := y
        have hv3 := hv5 z q4 hb
        rw [hx] at hel
        simp only [resE, bindL, hb, isE] at hel
        simp only [hel, Bool.false_eq_true, if_false]
        refine ⟨rfl, [x, z], rfl, by simp [rowsE, flats, flat_len], Or.inl ?_⟩
        rw [hv2, hv3]
        refine List.mem_cons.2 (Or.inl ?_)
        simp [idxs, rowsE, flat_len]
  have HEL : Hid (isE wElse (resE x5) = false) := by show _ = _; rw [hx5, hs4]; exact hel
  clear hel
  clear hs4 hx5
  clear hg hR hM hM4
  go_enter Tryz.func54, Tryz.ntmps54
  go_wp2_with (go_at_call 28; refine Calls.mono (gat HC.out) ?_; rintro e w1 ⟨rfl, hg⟩; replace HC := Hid.out (p := Hid _) hg; clear hg)
  rw [show posE C.E (.ok (t :: r)) = t.pos from rfl]
  obtain ⟨i, d1, lv, a, hps, hil, _⟩ := HC.out.ps9
  obtain ⟨hi, -⟩ := hil _ rfl
  have hle := hps.le
  have hP := hps.lt
  have c0 := hps.c0
  have c2 := hps.c2
  obtain ⟨ta, tc, htv⟩ := hps.toks.form
  have htk := hps.toks
  rw [htv] at c0 htk
  have hlt : i < C.T.length := by
    rcases Nat.lt_or_ge i C.T.length with h1 | h1
    · exact h1
    · rw [List.drop_eq_nil_of_le h1] at hi; cases hi
  have hgd := getD_drop hlt
  rw [hi] at hgd
  simp only [List.cons.injEq] at hgd
  obtain ⟨g, rfl, t0, t1, t2, t3⟩ := htk.cells hlt
  have hlt' : (i : Int) < (C.T.length : Int) := by omega
  rw [← hgd.1] at t0 t1 t2 t3
  rw [hk] at t0
  rw [hw] at t3
  have hgl : g < w1.heap.size := lt_of_cell t0
  replace HC : Hid (GoS C (w1.drew.drew.alloc (.cells #[.int .i64 0, .int .i64 0, .int .i64 t.pos, .string ⟨#[]⟩, nilV] 60)) d M (some (w1.heap.size, .cells #[.int .i64 0, .int .i64 0, .int .i64 t.pos, .string ⟨#[]⟩, nilV] 60)) [] (.ok (t :: r)) rows) := (HC.out.below (Below.refl _ _).drew.drew).box _
  clear hil hps htk hgd hi
  go_region
  go_wp2_with fail
  go_region
  go_wp2_with (first
    | (go_at_call 29; refine Calls.mono (gtake HC.out HK.out.1 _) ?_; rintro e w2 ⟨rfl, hg⟩; replace hg : GoS C w2 d M _ [] (takeT C.E wIf (t :: r)) rows := hg; rw [HTK.out] at hg; obtain ⟨hb, hbP⟩ := hg.bxc; have hbP2 : ¬ C.P = _ := (fun e => hbP e.symm); obtain ⟨b0, b1, b2, b3, b4, bf⟩ := box5 hb; have hbl := lt_of_cell b0; have HC2 := Hid.out (p := Hid _) hg; clear hg hb HC)
    | (go_at_call 74; refine Calls.mono (HX.out C _ _ _ _ _ rfl (HC2.out.set0 _)) ?_; rintro e w5 ⟨v5, rfl, hq⟩; have hq := (hq.more (show ubD d ≤ M by have := HM.out; omega)).st; have hg := hq.go; rw [← HS4.out] at hg; have HC5 := Hid.out (p := Hid _) hg; have HV5 := Hid.out (p := Hid _) hq.val; clear hg hq HC2)
    | (go_at_call 30; refine Calls.mono (HXB.out _ _ _ _ HC5.out) ?_; rintro e w6 ⟨v6, rfl, hq⟩; have hq := hq.st; have hg := hq.go; obtain ⟨hb, hbP⟩ := hg.bxc; have hbP2 : ¬ C.P = _ := (fun e => hbP e.symm); obtain ⟨b0, b1, b2, b3, b4, bf⟩ := box5 hb; have hbl := lt_of_cell b0; have HC6 := Hid.out (p := Hid _) hg; have HV6 := Hid.out (p := Hid _) hq.val; clear hg hb hq HC5)
    | (go_at_call 26; refine Calls.mono (gis ((HC6.out.set4 _).kids [v5, v6] 2 rfl (by decide) #[.int .i64 v5, .int .i64 v6] rfl (by decide) w6.heap.size (by rw [set_size])) _) ?_; rintro e w7 ⟨rfl, hg⟩; rw [show isE (⟨#[101, 108, 115, 101]⟩ : ByteArray).data.toList (resE x5) = false from HEL.out]; obtain ⟨hb, hbP⟩ := hg.bxc; have hbP2 : ¬ C.P = _ := (fun e => hbP e.symm); obtain ⟨b0, b1, b2, b3, b4, bf⟩ := box5 hb; have hbl := lt_of_cell b0; have HC7 := Hid.out (p := Hid _) hg; clear hg hb HC6)
    | (go_at_call 31; refine Calls.mono (pre_node HC7.out (HMA.out _ _ _ HV5.out HV6.out) (by have := HK.out; omega) HRS.out) ?_; rintro e w9 ⟨v9, rfl, hq9⟩; skip))
  go_ret
  exact ⟨v9, rfl, hq9.more (by have := HM.out; omega)⟩
end
end

section
open Go.RowKit

section
variable {E : Int}
theorem rstmt_ctr {d : Nat} (hd : d ≤ 20) (l : List Tok) (IH : ∀ q, q.length + 1 < l.length → Ctr 30 [] E d q (blockT E d q) (ubD d)) : Ctr 54 [] E d l (stmtT E d l) (ubD d + 9) := by
  match l, IH with
  | [], _ => exact rstmt_end hd
  | t :: r, IH =>
    have IH2 : ∀ q, q.length < r.length → Ctr 30 [] E d q (blockT E d q) (ubD d) := fun q hq => IH q (by simp only [List.length_cons]; omega)
    by_cases hk : t.kind = 2
    · by_cases h1 : t.text = wInt
      · exact rstmt_int hd hk h1
      · by_cases h2 : t.text = wIf
        · by_cases hel : isE wElse (resE (bindL (resE (heldT E d r)) (blockT E d))) = true
          · cases hh : heldT E d r with
            | error f => rw [hh] at hel; cases hel
            | ok y =>
              obtain ⟨x, q3⟩ := y
              rw [hh] at hel
              simp only [resE, bindL] at hel
              cases hb : blockT E d q3 with
              | error f => rw [hb] at hel; cases hel
              | ok y =>
                obtain ⟨z, q4⟩ := y
                rw [hb] at hel
                exact rstmt_else hd hk h2 IH2 hh hb hel
          · exact rstmt_if hd hk h2 IH2 (by simpa using hel)
        · by_cases h3 : t.text = wWhile
          · exact rstmt_while hd hk h3 IH2
          · by_cases h4 : t.text = wPrint
            · exact rstmt_print hd hk h4
            · by_cases h5 : t.text = wLock
              · exact rstmt_lock hd hk h5
              · by_cases h6 : t.text = wUnlock
                · exact rstmt_unlock hd hk h6
                · by_cases h7 : t.text = wFence
                  · exact rstmt_fence hd hk h7
                  · refine rstmt_word hd hk fun c hc => ?_
                    simp only [stWords, List.mem_cons, List.not_mem_nil, or_false] at hc
                    rcases hc with rfl | rfl | rfl | rfl | rfl | rfl | rfl <;> assumption
    · exact rstmt_tok hd hk
/-- Every block: the document's parser reads it. -/
theorem rblock9 : ∀ (N : Nat) (l : List Tok), l.length ≤ N → ∀ d, d ≤ 20 → Ctr 30 [] E d l (blockT E d l) (ubD d) := by
  intro N
  induction N using Nat.strongRecOn with
  | _ N ih =>
    intro l hl d hd
    refine rblock_ctr hd fun q hq hd1 => ?_
    refine rstmt_ctr hd1 q fun z hz => ?_
    exact ih z.length (by omega) z (Nat.le_refl _) (d + 1) hd1
theorem rblock_all (l : List Tok) (d : Nat) (hd : d ≤ 20) : Ctr 30 [] E d l (blockT E d l) (ubD d) := rblock9 l.length l (Nat.le_refl _) d hd
end
end

end Go.Proofs.YtggfbfjdiikaeaaGreatDoor
