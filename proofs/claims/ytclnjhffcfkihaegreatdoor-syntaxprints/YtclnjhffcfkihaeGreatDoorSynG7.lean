/-
  The document's parser: locks.
  The document's parser: what begins with no word of a statement.
-/
import Derived.Test.YtclnjhffcfkihaeGreatDoorSynF9
namespace Go.Proofs.YtclnjhffcfkihaeGreatDoor
section
open Go.RowKit

section
variable {E : Int} {d : Nat}
set_option maxRecDepth 100000 in
set_option maxHeartbeats 3200000 in
theorem rstmt_lock (hd : d ≤ 20) {t : Tok} {r : List Tok} (hk : t.kind = 2) (hw : t.text = wLock) : Ctr 38 [] E d (t :: r) (stmtT E d (t :: r)) (ubD d + 9) := by
  refine ctr_of fun C w rows hE _ hg => ?_
  subst hE
  obtain ⟨M, hM⟩ : ∃ M, M = ubD d + 4 := ⟨_, rfl⟩
  have hM4 : 4000 ≤ M ∧ M ≤ 5000 := by rw [hM]; unfold ubD; omega
  have hfw := (hg M).fewR
  have hT := (hg M).few
  have HC := Hid.out (p := Hid _) (hg M)
  have HK := Hid.out (p := Hid _) hM4
  have HM := Hid.out (p := Hid _) hM
  have HTK : Hid (takeT C.E wLock (t :: r) = .ok r) := by
    show _ = _
    unfold takeT
    rw [if_pos (by simp [isTok, hk, hw])]
    rfl
  have HWO : Hid (wordOf (t :: r) = wLock) := by show _ = _; rw [wordOf, if_pos hk, hw]
  obtain ⟨R, hR⟩ : ∃ R, R = stmtT C.E d (t :: r) := ⟨_, rfl⟩
  rw [← hR]
  have HRS : Hid (∀ x q, R = .ok (x, q) → rows.length + ndSize x + q.length ≤ C.T.length) := fun x q hx => by
    obtain ⟨n, y, hy⟩ := (tl_stmt (e := C.E) d (t :: r)).tot
    have h3 := tld_is (st_up d (t :: r)) hy
    have h4 := (stmt_size n).1 _ _ _ _ (hy.trans (congrArg some (h3.symm.trans (hR.symm.trans hx))))
    omega
  have HR := Hid.out (p := Hid _) hR
  have HMA : Hid (MatN rows R 12 t.pos (namE C.E (openT C.E [40] d r)).1 nilV [] (bindE (bindE (namE C.E (openT C.E [40] d r)).2 (takeT C.E [41])) (takeT C.E [59])) rows) := by
    show MatN rows R 12 t.pos (namE C.E (openT C.E [40] d r)).1 nilV [] (bindE (bindE (namE C.E (openT C.E [40] d r)).2 (takeT C.E [41])) (takeT C.E [59])) rows
    rw [hR, stmtT_is, HWO.out, if_neg (by decide), if_neg (by decide), if_neg (by decide), if_neg (by decide), if_pos (Or.inl rfl), if_pos rfl, List.tail_cons]
    cases ho : openT C.E [40] d r with
    | error f => rfl
    | ok q1 =>
      simp only [bindL, namE]
      cases hn : nameT C.E q1 with
      | error f => rfl
      | ok y =>
        obtain ⟨s, q2⟩ := y
        simp only [bindT, bindE]
        cases ht : takeT C.E [41] q2 with
        | error f => rfl
        | ok q3 =>
          simp only
          cases ht2 : takeT C.E [59] q3 with
          | error f => rfl
          | ok q4 => exact ⟨rfl, [], rfl, by simp [flats], Or.inr ⟨rfl, rfl⟩⟩
  clear hg hR hM hM4
  go_enter Tryz.func38, Tryz.ntmps38
  go_wp2_with (go_at_call 20; refine Calls.mono (gat HC.out) ?_; rintro e w1 ⟨rfl, hg⟩; replace HC := Hid.out (p := Hid _) hg; clear hg)
  rw [show posE C.E (.ok (t :: r)) = t.pos from rfl]
  obtain ⟨i, d1, lv, a, hps, hil, _⟩ := HC.out.ps9
  obtain ⟨hi, -⟩ := hil _ rfl
  have hle := hps.le
  have hP := hps.lt
  have c0 := hps.c0
  have c2 := hps.c2
  obtain ⟨ta, tc, htv⟩ := hps.toks.form
  have htk := hps.toks
  rw [htv] at c0 htk
  have hlt : i < C.T.length := by
    rcases Nat.lt_or_ge i C.T.length with h1 | h1
    · exact h1
    · rw [List.drop_eq_nil_of_le h1] at hi; cases hi
  have hgd := getD_drop hlt
  rw [hi] at hgd
  simp only [List.cons.injEq] at hgd
  obtain ⟨g, rfl, t0, t1, t2, t3⟩ := htk.cells hlt
  have hlt' : (i : Int) < (C.T.length : Int) := by omega
  rw [← hgd.1] at t0 t1 t2 t3
  rw [hk] at t0
  rw [hw] at t3
  have hgl : g < w1.heap.size := lt_of_cell t0
  replace HC : Hid (GoS C (w1.drew.drew.alloc (.cells #[.int .i64 0, .int .i64 0, .int .i64 t.pos, .string ⟨#[]⟩, nilV] 53)) d M (some (w1.heap.size, .cells #[.int .i64 0, .int .i64 0, .int .i64 t.pos, .string ⟨#[]⟩, nilV] 53)) [] (.ok (t :: r)) rows) := (HC.out.below (Below.refl _ _).drew.drew).box _
  clear hil hps htk hgd hi
  go_region
  go_wp2_with fail
  go_region
  go_wp2_with (first
    | (go_at_call 21; refine Calls.mono (gtake HC.out HK.out.1 _) ?_; rintro e w2 ⟨rfl, hg⟩; replace hg : GoS C w2 d M _ [] (takeT C.E wLock (t :: r)) rows := hg; rw [HTK.out] at hg; obtain ⟨hb, hbP⟩ := hg.bxc; have hbP2 : ¬ C.P = _ := (fun e => hbP e.symm); obtain ⟨b0, b1, b2, b3, b4, bf⟩ := box5 hb; have hbl := lt_of_cell b0; have HC2 := Hid.out (p := Hid _) hg; clear hg hb HC)
    | (go_at_call 37; refine Calls.mono (gopen (HC2.out.set0 _) HK.out.1 hd _) ?_; rintro e w3 ⟨rfl, hg⟩; have HC3 := Hid.out (p := Hid _) hg; clear hg HC2)
    | (go_at_call 35; refine Calls.mono (gname HC3.out HK.out.1) ?_; rintro e w4 ⟨rfl, hg⟩; obtain ⟨hb, hbP⟩ := hg.bxc; have hbP2 : ¬ C.P = _ := (fun e => hbP e.symm); obtain ⟨b0, b1, b2, b3, b4, bf⟩ := box5 hb; have hbl := lt_of_cell b0; have HC4 := Hid.out (p := Hid _) hg; clear hg hb HC3)
    | (go_at_call 39; refine Calls.mono (gshut (HC4.out.set3 _) HK.out.1 hd _) ?_; rintro e w5 ⟨rfl, hg⟩; have HC5 := Hid.out (p := Hid _) hg; clear hg HC4)
    | (go_at_call 21; refine Calls.mono (gtake HC5.out HK.out.1 _) ?_; rintro e w6 ⟨rfl, hg⟩; obtain ⟨hb, hbP⟩ := hg.bxc; have hbP2 : ¬ C.P = _ := (fun e => hbP e.symm); obtain ⟨b0, b1, b2, b3, b4, bf⟩ := box5 hb; have hbl := lt_of_cell b0; have HC6 := Hid.out (p := Hid _) hg; clear hg hb HC5)
    | (go_at_call 23; refine Calls.mono (pre_node HC6.out HMA.out (by have := HK.out; omega) HRS.out) ?_; rintro e w9 ⟨v9, rfl, hq9⟩; skip))
  go_ret
  exact ⟨v9, rfl, hq9.more (by have := HM.out; omega)⟩
set_option maxRecDepth 100000 in
set_option maxHeartbeats 3200000 in
theorem rstmt_unlock (hd : d ≤ 20) {t : Tok} {r : List Tok} (hk : t.kind = 2) (hw : t.text = wUnlock) : Ctr 38 [] E d (t :: r) (stmtT E d (t :: r)) (ubD d + 9) := by
  refine ctr_of fun C w rows hE _ hg => ?_
  subst hE
  obtain ⟨M, hM⟩ : ∃ M, M = ubD d + 4 := ⟨_, rfl⟩
  have hM4 : 4000 ≤ M ∧ M ≤ 5000 := by rw [hM]; unfold ubD; omega
  have hfw := (hg M).fewR
  have hT := (hg M).few
  have HC := Hid.out (p := Hid _) (hg M)
  have HK := Hid.out (p := Hid _) hM4
  have HM := Hid.out (p := Hid _) hM
  have HTK : Hid (takeT C.E wUnlock (t :: r) = .ok r) := by
    show _ = _
    unfold takeT
    rw [if_pos (by simp [isTok, hk, hw])]
    rfl
  have HWO : Hid (wordOf (t :: r) = wUnlock) := by show _ = _; rw [wordOf, if_pos hk, hw]
  obtain ⟨R, hR⟩ : ∃ R, R = stmtT C.E d (t :: r) := ⟨_, rfl⟩
  rw [← hR]
  have HRS : Hid (∀ x q, R = .ok (x, q) → rows.length + ndSize x + q.length ≤ C.T.length) := fun x q hx => by
    obtain ⟨n, y, hy⟩ := (tl_stmt (e := C.E) d (t :: r)).tot
    have h3 := tld_is (st_up d (t :: r)) hy
    have h4 := (stmt_size n).1 _ _ _ _ (hy.trans (congrArg some (h3.symm.trans (hR.symm.trans hx))))
    omega
  have HR := Hid.out (p := Hid _) hR
  have HMA : Hid (MatN rows R 13 t.pos (namE C.E (openT C.E [40] d r)).1 nilV [] (bindE (bindE (namE C.E (openT C.E [40] d r)).2 (takeT C.E [41])) (takeT C.E [59])) rows) := by
    show MatN rows R 13 t.pos (namE C.E (openT C.E [40] d r)).1 nilV [] (bindE (bindE (namE C.E (openT C.E [40] d r)).2 (takeT C.E [41])) (takeT C.E [59])) rows
    rw [hR, stmtT_is, HWO.out, if_neg (by decide), if_neg (by decide), if_neg (by decide), if_neg (by decide), if_pos (Or.inr rfl), if_neg (by decide), List.tail_cons]
    cases ho : openT C.E [40] d r with
    | error f => rfl
    | ok q1 =>
      simp only [bindL, namE]
      cases hn : nameT C.E q1 with
      | error f => rfl
      | ok y =>
        obtain ⟨s, q2⟩ := y
        simp only [bindT, bindE]
        cases ht : takeT C.E [41] q2 with
        | error f => rfl
        | ok q3 =>
          simp only
          cases ht2 : takeT C.E [59] q3 with
          | error f => rfl
          | ok q4 => exact ⟨rfl, [], rfl, by simp [flats], Or.inr ⟨rfl, rfl⟩⟩
  clear hg hR hM hM4
  go_enter Tryz.func38, Tryz.ntmps38
  go_wp2_with (go_at_call 20; refine Calls.mono (gat HC.out) ?_; rintro e w1 ⟨rfl, hg⟩; replace HC := Hid.out (p := Hid _) hg; clear hg)
  rw [show posE C.E (.ok (t :: r)) = t.pos from rfl]
  obtain ⟨i, d1, lv, a, hps, hil, _⟩ := HC.out.ps9
  obtain ⟨hi, -⟩ := hil _ rfl
  have hle := hps.le
  have hP := hps.lt
  have c0 := hps.c0
  have c2 := hps.c2
  obtain ⟨ta, tc, htv⟩ := hps.toks.form
  have htk := hps.toks
  rw [htv] at c0 htk
  have hlt : i < C.T.length := by
    rcases Nat.lt_or_ge i C.T.length with h1 | h1
    · exact h1
    · rw [List.drop_eq_nil_of_le h1] at hi; cases hi
  have hgd := getD_drop hlt
  rw [hi] at hgd
  simp only [List.cons.injEq] at hgd
  obtain ⟨g, rfl, t0, t1, t2, t3⟩ := htk.cells hlt
  have hlt' : (i : Int) < (C.T.length : Int) := by omega
  rw [← hgd.1] at t0 t1 t2 t3
  rw [hk] at t0
  rw [hw] at t3
  have hgl : g < w1.heap.size := lt_of_cell t0
  replace HC : Hid (GoS C (w1.drew.drew.alloc (.cells #[.int .i64 0, .int .i64 0, .int .i64 t.pos, .string ⟨#[]⟩, nilV] 53)) d M (some (w1.heap.size, .cells #[.int .i64 0, .int .i64 0, .int .i64 t.pos, .string ⟨#[]⟩, nilV] 53)) [] (.ok (t :: r)) rows) := (HC.out.below (Below.refl _ _).drew.drew).box _
  clear hil hps htk hgd hi
  go_region
  go_wp2_with fail
  go_region
  go_wp2_with (first
    | (go_at_call 21; refine Calls.mono (gtake HC.out HK.out.1 _) ?_; rintro e w2 ⟨rfl, hg⟩; replace hg : GoS C w2 d M _ [] (takeT C.E wUnlock (t :: r)) rows := hg; rw [HTK.out] at hg; obtain ⟨hb, hbP⟩ := hg.bxc; have hbP2 : ¬ C.P = _ := (fun e => hbP e.symm); obtain ⟨b0, b1, b2, b3, b4, bf⟩ := box5 hb; have hbl := lt_of_cell b0; have HC2 := Hid.out (p := Hid _) hg; clear hg hb HC)
    | (go_at_call 37; refine Calls.mono (gopen ((HC2.out.set0 _).set0 _) HK.out.1 hd _) ?_; rintro e w3 ⟨rfl, hg⟩; have HC3 := Hid.out (p := Hid _) hg; clear hg HC2)
    | (go_at_call 35; refine Calls.mono (gname HC3.out HK.out.1) ?_; rintro e w4 ⟨rfl, hg⟩; obtain ⟨hb, hbP⟩ := hg.bxc; have hbP2 : ¬ C.P = _ := (fun e => hbP e.symm); obtain ⟨b0, b1, b2, b3, b4, bf⟩ := box5 hb; have hbl := lt_of_cell b0; have HC4 := Hid.out (p := Hid _) hg; clear hg hb HC3)
    | (go_at_call 39; refine Calls.mono (gshut (HC4.out.set3 _) HK.out.1 hd _) ?_; rintro e w5 ⟨rfl, hg⟩; have HC5 := Hid.out (p := Hid _) hg; clear hg HC4)
    | (go_at_call 21; refine Calls.mono (gtake HC5.out HK.out.1 _) ?_; rintro e w6 ⟨rfl, hg⟩; obtain ⟨hb, hbP⟩ := hg.bxc; have hbP2 : ¬ C.P = _ := (fun e => hbP e.symm); obtain ⟨b0, b1, b2, b3, b4, bf⟩ := box5 hb; have hbl := lt_of_cell b0; have HC6 := Hid.out (p := Hid _) hg; clear hg hb HC5)
    | (go_at_call 23; refine Calls.mono (pre_node HC6.out HMA.out (by have := HK.out; omega) HRS.out) ?_; rintro e w9 ⟨v9, rfl, hq9⟩; skip))
  go_ret
  exact ⟨v9, rfl, hq9.more (by have := HM.out; omega)⟩
end
end

section
open Go.RowKit

/-- The words that begin a statement. -/
def stWords : List (List UInt8) := [wInt, wIf, wWhile, wPrint, wLock, wUnlock, wFence]
theorem stmt_none {e : Int} {d : Nat} {l : List Tok} (h : ∀ c, c ∈ stWords → wordOf l ≠ c) : stmtT e d l = assignT e d l := by
  simp only [stWords, List.mem_cons, List.not_mem_nil, or_false, forall_eq_or_imp, forall_eq] at h
  obtain ⟨h1, h2, h3, h4, h5, h6, h7⟩ := h
  rw [stmtT_is, if_neg h2, if_neg h3, if_neg h1, if_neg h4, if_neg (by simp [h5, h6]), if_neg h7]

section
variable {E : Int} {d : Nat}
set_option maxRecDepth 100000 in
set_option maxHeartbeats 3200000 in
theorem rstmt_word (hd : d ≤ 20) {t : Tok} {r : List Tok} (hk : t.kind = 2) (hw : ∀ c, c ∈ stWords → t.text ≠ c) : Ctr 38 [] E d (t :: r) (stmtT E d (t :: r)) (ubD d + 9) := by
  refine ctr_of fun C w rows hE _ hg => ?_
  subst hE
  have hM4 : 4001 ≤ ubD d ∧ ubD d ≤ 5000 := by unfold ubD; omega
  have hfw := (hg 4000).fewR
  have hT := (hg 4000).few
  obtain ⟨R, hR⟩ : ∃ R, R = stmtT C.E d (t :: r) := ⟨_, rfl⟩
  rw [← hR]
  have HRS : Hid (∀ x q, R = .ok (x, q) → rows.length + ndSize x + q.length ≤ C.T.length) := fun x q hx => by
    obtain ⟨n, y, hy⟩ := (tl_stmt (e := C.E) d (t :: r)).tot
    have h3 := tld_is (st_up d (t :: r)) hy
    have h4 := (stmt_size n).1 _ _ _ _ (hy.trans (congrArg some (h3.symm.trans (hR.symm.trans hx))))
    omega
  have HK := Hid.out (p := Hid _) hM4
  have HRA : Hid (R = assignT C.E d (t :: r)) := hR.trans (stmt_none fun c hc => by rw [wordOf, if_pos hk]; exact hw c hc)
  have HPP : Hid (t.pos = posOf C.E (t :: r)) := rfl
  have HC : Hid (∀ M, GoS C w d M none [] (.ok (t :: r)) rows) := hg
  have hb : ∀ c, c ∈ stWords → (t.text == c) = false := fun c hc => by simpa using hw c hc
  simp only [stWords, List.mem_cons, List.not_mem_nil, or_false, forall_eq_or_imp, forall_eq] at hb
  obtain ⟨e1, e2, e3, e4, e5, e6, e7⟩ := hb
  clear hw
  clear hg hR hM4
  go_enter Tryz.func38, Tryz.ntmps38
  go_wp2_with (go_at_call 20; refine Calls.mono (gat (HC.out 4000)) ?_; rintro e w1 ⟨rfl, hg⟩; replace HC : Hid (∀ M, GoS C w1 d M none [] (.ok (t :: r)) rows) := (fun M => hg.any M); clear hg)
  rw [show posE C.E (.ok (t :: r)) = t.pos from rfl]
  obtain ⟨i, d1, lv, a, hps, hil, _⟩ := (HC.out 4000).ps9
  obtain ⟨hi, -⟩ := hil _ rfl
  have hle := hps.le
  have hP := hps.lt
  have c0 := hps.c0
  have c2 := hps.c2
  obtain ⟨ta, tc, htv⟩ := hps.toks.form
  have htk := hps.toks
  rw [htv] at c0 htk
  have hlt : i < C.T.length := by
    rcases Nat.lt_or_ge i C.T.length with h1 | h1
    · exact h1
    · rw [List.drop_eq_nil_of_le h1] at hi; cases hi
  have hgd := getD_drop hlt
  rw [hi] at hgd
  simp only [List.cons.injEq] at hgd
  obtain ⟨g, rfl, t0, t1, t2, t3⟩ := htk.cells hlt
  have hlt' : (i : Int) < (C.T.length : Int) := by omega
  rw [← hgd.1] at t0 t1 t2 t3
  rw [hk] at t0
  have hgl : g < w1.heap.size := lt_of_cell t0
  replace HC : Hid (∀ M, GoS C (w1.drew.drew.alloc (.cells #[.int .i64 0, .int .i64 0, .int .i64 t.pos, .string ⟨#[]⟩, nilV] 53)) d M (some (w1.heap.size, .cells #[.int .i64 0, .int .i64 0, .int .i64 t.pos, .string ⟨#[]⟩, nilV] 53)) [] (.ok (t :: r)) rows) := fun M => ((HC.out M).below (Below.refl _ _).drew.drew).box _
  clear hil hps htk hi
  clear hgd
  go_region
  go_wp2_with fail
  go_region
  go_wp2_with (first
    | (go_at_call 68; refine Calls.mono (rassign_any hd HPP.out HC.out) ?_; rintro e w2 ⟨rfl, hpre⟩; rw [← HRA.out] at hpre; obtain ⟨k2, t2, ka, kn, kc, ps2, s2, rows2, hg, hmat⟩ := hpre; obtain ⟨hb, hbP⟩ := hg.bxc; have hbP2 : ¬ C.P = _ := (fun e => hbP e.symm); obtain ⟨b0, b1, b2, b3, b4, bf⟩ := box5 hb; have hbl := lt_of_cell b0; have HG := Hid.out (p := Hid _) hg; have HMT : Hid (MatN rows R k2 _ t2 (.slice ka kn kc) ps2 s2 rows2) := hmat; clear hg hmat hb)
    | (go_at_call 23; refine Calls.mono (pre_node HG.out HMT.out (by have := HK.out; omega) HRS.out) ?_; rintro e w3 ⟨v3, rfl, hq3⟩))
  go_ret
  exact ⟨v3, rfl, hq3⟩
set_option maxRecDepth 100000 in
set_option maxHeartbeats 3200000 in
theorem rstmt_tok (hd : d ≤ 20) {t : Tok} {r : List Tok} (hk : t.kind ≠ 2) : Ctr 38 [] E d (t :: r) (stmtT E d (t :: r)) (ubD d + 9) := by
  refine ctr_of fun C w rows hE _ hg => ?_
  subst hE
  have hM4 : 4001 ≤ ubD d ∧ ubD d ≤ 5000 := by unfold ubD; omega
  have hfw := (hg 4000).fewR
  have hT := (hg 4000).few
  obtain ⟨R, hR⟩ : ∃ R, R = stmtT C.E d (t :: r) := ⟨_, rfl⟩
  rw [← hR]
  have HRS : Hid (∀ x q, R = .ok (x, q) → rows.length + ndSize x + q.length ≤ C.T.length) := fun x q hx => by
    obtain ⟨n, y, hy⟩ := (tl_stmt (e := C.E) d (t :: r)).tot
    have h3 := tld_is (st_up d (t :: r)) hy
    have h4 := (stmt_size n).1 _ _ _ _ (hy.trans (congrArg some (h3.symm.trans (hR.symm.trans hx))))
    omega
  have HK := Hid.out (p := Hid _) hM4
  have HRA : Hid (R = assignT C.E d (t :: r)) := hR.trans (stmt_none fun c hc => by rw [wordOf, if_neg hk]; intro e; rw [← e] at hc; revert hc; decide)
  have HPP : Hid (t.pos = posOf C.E (t :: r)) := rfl
  have HC : Hid (∀ M, GoS C w d M none [] (.ok (t :: r)) rows) := hg
  have hk2 : (t.kind == 2) = false := by simpa using hk
  clear hg hR hM4
  go_enter Tryz.func38, Tryz.ntmps38
  go_wp2_with (go_at_call 20; refine Calls.mono (gat (HC.out 4000)) ?_; rintro e w1 ⟨rfl, hg⟩; replace HC : Hid (∀ M, GoS C w1 d M none [] (.ok (t :: r)) rows) := (fun M => hg.any M); clear hg)
  rw [show posE C.E (.ok (t :: r)) = t.pos from rfl]
  obtain ⟨i, d1, lv, a, hps, hil, _⟩ := (HC.out 4000).ps9
  obtain ⟨hi, -⟩ := hil _ rfl
  have hle := hps.le
  have hP := hps.lt
  have c0 := hps.c0
  have c2 := hps.c2
  obtain ⟨ta, tc, htv⟩ := hps.toks.form
  have htk := hps.toks
  rw [htv] at c0 htk
  have hlt : i < C.T.length := by
    rcases Nat.lt_or_ge i C.T.length with h1 | h1
    · exact h1
    · rw [List.drop_eq_nil_of_le h1] at hi; cases hi
  have hgd := getD_drop hlt
  rw [hi] at hgd
  simp only [List.cons.injEq] at hgd
  obtain ⟨g, rfl, t0, t1, t2, t3⟩ := htk.cells hlt
  have hlt' : (i : Int) < (C.T.length : Int) := by omega
  rw [← hgd.1] at t0 t1 t2 t3
  have hgl : g < w1.heap.size := lt_of_cell t0
  replace HC : Hid (∀ M, GoS C (w1.drew.alloc (.cells #[.int .i64 0, .int .i64 0, .int .i64 t.pos, .string ⟨#[]⟩, nilV] 53)) d M (some (w1.heap.size, .cells #[.int .i64 0, .int .i64 0, .int .i64 t.pos, .string ⟨#[]⟩, nilV] 53)) [] (.ok (t :: r)) rows) := fun M => ((HC.out M).below (Below.refl _ _).drew).box _
  clear hil hps htk hi
  clear hgd hk
  go_region
  go_wp2_with (first
    | (go_at_call 68; refine Calls.mono (rassign_any hd HPP.out HC.out) ?_; rintro e w2 ⟨rfl, hpre⟩; rw [← HRA.out] at hpre; obtain ⟨k2, t2, ka, kn, kc, ps2, s2, rows2, hg, hmat⟩ := hpre; obtain ⟨hb, hbP⟩ := hg.bxc; have hbP2 : ¬ C.P = _ := (fun e => hbP e.symm); obtain ⟨b0, b1, b2, b3, b4, bf⟩ := box5 hb; have hbl := lt_of_cell b0; have HG := Hid.out (p := Hid _) hg; have HMT : Hid (MatN rows R k2 _ t2 (.slice ka kn kc) ps2 s2 rows2) := hmat; clear hg hmat hb)
    | (go_at_call 23; refine Calls.mono (pre_node HG.out HMT.out (by have := HK.out; omega) HRS.out) ?_; rintro e w3 ⟨v3, rfl, hq3⟩))
  go_ret
  exact ⟨v3, rfl, hq3⟩
set_option maxRecDepth 100000 in
set_option maxHeartbeats 3200000 in
theorem rstmt_end (hd : d ≤ 20)  : Ctr 38 [] E d ([] : List Tok) (stmtT E d ([] : List Tok)) (ubD d + 9) := by
  refine ctr_of fun C w rows hE _ hg => ?_
  subst hE
  have hM4 : 4001 ≤ ubD d ∧ ubD d ≤ 5000 := by unfold ubD; omega
  have hfw := (hg 4000).fewR
  have hT := (hg 4000).few
  obtain ⟨R, hR⟩ : ∃ R, R = stmtT C.E d ([] : List Tok) := ⟨_, rfl⟩
  rw [← hR]
  have HRS : Hid (∀ x q, R = .ok (x, q) → rows.length + ndSize x + q.length ≤ C.T.length) := fun x q hx => by
    obtain ⟨n, y, hy⟩ := (tl_stmt (e := C.E) d ([] : List Tok)).tot
    have h3 := tld_is (st_up d ([] : List Tok)) hy
    have h4 := (stmt_size n).1 _ _ _ _ (hy.trans (congrArg some (h3.symm.trans (hR.symm.trans hx))))
    omega
  have HK := Hid.out (p := Hid _) hM4
  have HRA : Hid (R = assignT C.E d []) := hR.trans (stmt_none fun c hc => by intro e; rw [← e] at hc; revert hc; decide)
  have HPP : Hid (C.E = posOf C.E []) := rfl
  have HC : Hid (∀ M, GoS C w d M none [] (.ok []) rows) := hg
  clear hg hR hM4
  go_enter Tryz.func38, Tryz.ntmps38
  go_wp2_with (go_at_call 20; refine Calls.mono (gat (HC.out 4000)) ?_; rintro e w1 ⟨rfl, hg⟩; replace HC : Hid (∀ M, GoS C w1 d M none [] (.ok []) rows) := (fun M => hg.any M); clear hg)
  rw [show posE C.E (.ok []) = C.E from rfl]
  obtain ⟨i, d1, lv, a, hps, hil, _⟩ := (HC.out 4000).ps9
  obtain ⟨hi, -⟩ := hil _ rfl
  have hle := hps.le
  have hP := hps.lt
  have c0 := hps.c0
  have c2 := hps.c2
  obtain ⟨ta, tc, htv⟩ := hps.toks.form
  have htk := hps.toks
  rw [htv] at c0 htk
  have hge : ¬ i < C.T.length := fun hlt => by
    have hgd := getD_drop hlt
    rw [hi] at hgd
    cases hgd
  have hlt' : ¬ (i : Int) < (C.T.length : Int) := by omega
  clear hge
  replace HC : Hid (∀ M, GoS C (w1.drew.alloc (.cells #[.int .i64 0, .int .i64 0, .int .i64 C.E, .string ⟨#[]⟩, nilV] 53)) d M (some (w1.heap.size, .cells #[.int .i64 0, .int .i64 0, .int .i64 C.E, .string ⟨#[]⟩, nilV] 53)) [] (.ok []) rows) := fun M => ((HC.out M).below (Below.refl _ _).drew).box _
  clear hil hps htk hi
  go_region
  go_wp2_with (first
    | (go_at_call 68; refine Calls.mono (rassign_any hd HPP.out HC.out) ?_; rintro e w2 ⟨rfl, hpre⟩; rw [← HRA.out] at hpre; obtain ⟨k2, t2, ka, kn, kc, ps2, s2, rows2, hg, hmat⟩ := hpre; obtain ⟨hb, hbP⟩ := hg.bxc; have hbP2 : ¬ C.P = _ := (fun e => hbP e.symm); obtain ⟨b0, b1, b2, b3, b4, bf⟩ := box5 hb; have hbl := lt_of_cell b0; have HG := Hid.out (p := Hid _) hg; have HMT : Hid (MatN rows R k2 _ t2 (.slice ka kn kc) ps2 s2 rows2) := hmat; clear hg hmat hb)
    | (go_at_call 23; refine Calls.mono (pre_node HG.out HMT.out (by have := HK.out; omega) HRS.out) ?_; rintro e w3 ⟨v3, rfl, hq3⟩))
  go_ret
  exact ⟨v3, rfl, hq3⟩
end
end

end Go.Proofs.YtclnjhffcfkihaeGreatDoor
