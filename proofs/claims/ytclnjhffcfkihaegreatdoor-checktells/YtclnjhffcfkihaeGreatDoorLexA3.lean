/-
  The document's parser: what begins with no word of a statement.
  The program's notes.
  The program's way to the next token.
  The program's tokens: what was taken.
  The program's tokens: names and numbers.
-/
import Derived.Test.YtclnjhffcfkihaeGreatDoorSynF9
import Derived.Test.YtclnjhffcfkihaeGreatDoorLexZ4
import Derived.Test.YtclnjhffcfkihaeGreatDoorShelf
import Derived.Deep.RegionHeld3
namespace Go.Proofs.YtclnjhffcfkihaeGreatDoor
section
open Go.RowKit

/-- The words that begin a statement. -/
def stWords : List (List UInt8) := [wInt, wIf, wWhile, wPrint, wLock, wUnlock, wFence]
theorem stmt_none {e : Int} {d : Nat} {l : List Tok} (h : ∀ c, c ∈ stWords → wordOf l ≠ c) : stmtT e d l = assignT e d l := by
  simp only [stWords, List.mem_cons, List.not_mem_nil, or_false, forall_eq_or_imp, forall_eq] at h
  obtain ⟨h1, h2, h3, h4, h5, h6, h7⟩ := h
  rw [stmtT_is, if_neg h2, if_neg h3, if_neg h1, if_neg h4, if_neg (by simp [h5, h6]), if_neg h7]

section
variable {E : Int} {d : Nat}
set_option maxRecDepth 100000 in
set_option maxHeartbeats 3200000 in
theorem rstmt_word (hd : d ≤ 20) {t : Tok} {r : List Tok} (hk : t.kind = 2) (hw : ∀ c, c ∈ stWords → t.text ≠ c) : Ctr 38 [] E d (t :: r) (stmtT E d (t :: r)) (ubD d + 9) := by
  refine ctr_of fun C w rows hE _ hg => ?_
  subst hE
  have hM4 : 4001 ≤ ubD d ∧ ubD d ≤ 5000 := by unfold ubD; omega
  have hfw := (hg 4000).fewR
  have hT := (hg 4000).few
  obtain ⟨R, hR⟩ : ∃ R, R = stmtT C.E d (t :: r) := ⟨_, rfl⟩
  rw [← hR]
  have HRS : Hid (∀ x q, R = .ok (x, q) → rows.length + ndSize x + q.length ≤ C.T.length) := fun x q hx => by
    obtain ⟨n, y, hy⟩ := (tl_stmt (e := C.E) d (t :: r)).tot
    have h3 := tld_is (st_up d (t :: r)) hy
    have h4 := (stmt_size n).1 _ _ _ _ (hy.trans (congrArg some (h3.symm.trans (hR.symm.trans hx))))
    omega
  have HK := Hid.out (p := Hid _) hM4
  have HRA : Hid (R = assignT C.E d (t :: r)) := hR.trans (stmt_none fun c hc => by rw [wordOf, if_pos hk]; exact hw c hc)
  have HPP : Hid (t.pos = posOf C.E (t :: r)) := rfl
  have HC : Hid (∀ M, GoS C w d M none [] (.ok (t :: r)) rows) := hg
  have hb : ∀ c, c ∈ stWords → (t.text == c) = false := fun c hc => by simpa using hw c hc
  simp only [stWords, List.mem_cons, List.not_mem_nil, or_false, forall_eq_or_imp, forall_eq] at hb
  obtain ⟨e1, e2, e3, e4, e5, e6, e7⟩ := hb
  clear hw
  clear hg hR hM4
  go_enter Tryz.func38, Tryz.ntmps38
  go_wp2_with (go_at_call 20; refine Calls.mono (gat (HC.out 4000)) ?_; rintro e w1 ⟨rfl, hg⟩; replace HC : Hid (∀ M, GoS C w1 d M none [] (.ok (t :: r)) rows) := (fun M => hg.any M); clear hg)
  rw [show posE C.E (.ok (t :: r)) = t.pos from rfl]
  obtain ⟨i, d1, lv, a, hps, hil, _⟩ := (HC.out 4000).ps9
  obtain ⟨hi, -⟩ := hil _ rfl
  have hle := hps.le
  have hP := hps.lt
  have c0 := hps.c0
  have c2 := hps.c2
  obtain ⟨ta, tc, htv⟩ := hps.toks.form
  have htk := hps.toks
  rw [htv] at c0 htk
  have hlt : i < C.T.length := by
    rcases Nat.lt_or_ge i C.T.length with h1 | h1
    · exact h1
    · rw [List.drop_eq_nil_of_le h1] at hi; cases hi
  have hgd := getD_drop hlt
  rw [hi] at hgd
  simp only [List.cons.injEq] at hgd
  obtain ⟨g, rfl, t0, t1, t2, t3⟩ := htk.cells hlt
  have hlt' : (i : Int) < (C.T.length : Int) := by omega
  rw [← hgd.1] at t0 t1 t2 t3
  rw [hk] at t0
  have hgl : g < w1.heap.size := lt_of_cell t0
  replace HC : Hid (∀ M, GoS C (w1.drew.drew.alloc (.cells #[.int .i64 0, .int .i64 0, .int .i64 t.pos, .string ⟨#[]⟩, nilV] 53)) d M (some (w1.heap.size, .cells #[.int .i64 0, .int .i64 0, .int .i64 t.pos, .string ⟨#[]⟩, nilV] 53)) [] (.ok (t :: r)) rows) := fun M => ((HC.out M).below (Below.refl _ _).drew.drew).box _
  clear hil hps htk hi
  clear hgd
  go_region
  go_wp2_with fail
  go_region
  go_wp2_with (first
    | (go_at_call 68; refine Calls.mono (rassign_any hd HPP.out HC.out) ?_; rintro e w2 ⟨rfl, hpre⟩; rw [← HRA.out] at hpre; obtain ⟨k2, t2, ka, kn, kc, ps2, s2, rows2, hg, hmat⟩ := hpre; obtain ⟨hb, hbP⟩ := hg.bxc; have hbP2 : ¬ C.P = _ := (fun e => hbP e.symm); obtain ⟨b0, b1, b2, b3, b4, bf⟩ := box5 hb; have hbl := lt_of_cell b0; have HG := Hid.out (p := Hid _) hg; have HMT : Hid (MatN rows R k2 _ t2 (.slice ka kn kc) ps2 s2 rows2) := hmat; clear hg hmat hb)
    | (go_at_call 23; refine Calls.mono (pre_node HG.out HMT.out (by have := HK.out; omega) HRS.out) ?_; rintro e w3 ⟨v3, rfl, hq3⟩))
  go_ret
  exact ⟨v3, rfl, hq3⟩
set_option maxRecDepth 100000 in
set_option maxHeartbeats 3200000 in
theorem rstmt_tok (hd : d ≤ 20) {t : Tok} {r : List Tok} (hk : t.kind ≠ 2) : Ctr 38 [] E d (t :: r) (stmtT E d (t :: r)) (ubD d + 9) := by
  refine ctr_of fun C w rows hE _ hg => ?_
  subst hE
  have hM4 : 4001 ≤ ubD d ∧ ubD d ≤ 5000 := by unfold ubD; omega
  have hfw := (hg 4000).fewR
  have hT := (hg 4000).few
  obtain ⟨R, hR⟩ : ∃ R, R = stmtT C.E d (t :: r) := ⟨_, rfl⟩
  rw [← hR]
  have HRS : Hid (∀ x q, R = .ok (x, q) → rows.length + ndSize x + q.length ≤ C.T.length) := fun x q hx => by
    obtain ⟨n, y, hy⟩ := (tl_stmt (e := C.E) d (t :: r)).tot
    have h3 := tld_is (st_up d (t :: r)) hy
    have h4 := (stmt_size n).1 _ _ _ _ (hy.trans (congrArg some (h3.symm.trans (hR.symm.trans hx))))
    omega
  have HK := Hid.out (p := Hid _) hM4
  have HRA : Hid (R = assignT C.E d (t :: r)) := hR.trans (stmt_none fun c hc => by rw [wordOf, if_neg hk]; intro e; rw [← e] at hc; revert hc; decide)
  have HPP : Hid (t.pos = posOf C.E (t :: r)) := rfl
  have HC : Hid (∀ M, GoS C w d M none [] (.ok (t :: r)) rows) := hg
  have hk2 : (t.kind == 2) = false := by simpa using hk
  clear hg hR hM4
  go_enter Tryz.func38, Tryz.ntmps38
  go_wp2_with (go_at_call 20; refine Calls.mono (gat (HC.out 4000)) ?_; rintro e w1 ⟨rfl, hg⟩; replace HC : Hid (∀ M, GoS C w1 d M none [] (.ok (t :: r)) rows) := (fun M => hg.any M); clear hg)
  rw [show posE C.E (.ok (t :: r)) = t.pos from rfl]
  obtain ⟨i, d1, lv, a, hps, hil, _⟩ := (HC.out 4000).ps9
  obtain ⟨hi, -⟩ := hil _ rfl
  have hle := hps.le
  have hP := hps.lt
  have c0 := hps.c0
  have c2 := hps.c2
  obtain ⟨ta, tc, htv⟩ := hps.toks.form
  have htk := hps.toks
  rw [htv] at c0 htk
  have hlt : i < C.T.length := by
    rcases Nat.lt_or_ge i C.T.length with h1 | h1
    · exact h1
    · rw [List.drop_eq_nil_of_le h1] at hi; cases hi
  have hgd := getD_drop hlt
  rw [hi] at hgd
  simp only [List.cons.injEq] at hgd
  obtain ⟨g, rfl, t0, t1, t2, t3⟩ := htk.cells hlt
  have hlt' : (i : Int) < (C.T.length : Int) := by omega
  rw [← hgd.1] at t0 t1 t2 t3
  have hgl : g < w1.heap.size := lt_of_cell t0
  replace HC : Hid (∀ M, GoS C (w1.drew.alloc (.cells #[.int .i64 0, .int .i64 0, .int .i64 t.pos, .string ⟨#[]⟩, nilV] 53)) d M (some (w1.heap.size, .cells #[.int .i64 0, .int .i64 0, .int .i64 t.pos, .string ⟨#[]⟩, nilV] 53)) [] (.ok (t :: r)) rows) := fun M => ((HC.out M).below (Below.refl _ _).drew).box _
  clear hil hps htk hi
  clear hgd hk
  go_region
  go_wp2_with (first
    | (go_at_call 68; refine Calls.mono (rassign_any hd HPP.out HC.out) ?_; rintro e w2 ⟨rfl, hpre⟩; rw [← HRA.out] at hpre; obtain ⟨k2, t2, ka, kn, kc, ps2, s2, rows2, hg, hmat⟩ := hpre; obtain ⟨hb, hbP⟩ := hg.bxc; have hbP2 : ¬ C.P = _ := (fun e => hbP e.symm); obtain ⟨b0, b1, b2, b3, b4, bf⟩ := box5 hb; have hbl := lt_of_cell b0; have HG := Hid.out (p := Hid _) hg; have HMT : Hid (MatN rows R k2 _ t2 (.slice ka kn kc) ps2 s2 rows2) := hmat; clear hg hmat hb)
    | (go_at_call 23; refine Calls.mono (pre_node HG.out HMT.out (by have := HK.out; omega) HRS.out) ?_; rintro e w3 ⟨v3, rfl, hq3⟩))
  go_ret
  exact ⟨v3, rfl, hq3⟩
set_option maxRecDepth 100000 in
set_option maxHeartbeats 3200000 in
theorem rstmt_end (hd : d ≤ 20)  : Ctr 38 [] E d ([] : List Tok) (stmtT E d ([] : List Tok)) (ubD d + 9) := by
  refine ctr_of fun C w rows hE _ hg => ?_
  subst hE
  have hM4 : 4001 ≤ ubD d ∧ ubD d ≤ 5000 := by unfold ubD; omega
  have hfw := (hg 4000).fewR
  have hT := (hg 4000).few
  obtain ⟨R, hR⟩ : ∃ R, R = stmtT C.E d ([] : List Tok) := ⟨_, rfl⟩
  rw [← hR]
  have HRS : Hid (∀ x q, R = .ok (x, q) → rows.length + ndSize x + q.length ≤ C.T.length) := fun x q hx => by
    obtain ⟨n, y, hy⟩ := (tl_stmt (e := C.E) d ([] : List Tok)).tot
    have h3 := tld_is (st_up d ([] : List Tok)) hy
    have h4 := (stmt_size n).1 _ _ _ _ (hy.trans (congrArg some (h3.symm.trans (hR.symm.trans hx))))
    omega
  have HK := Hid.out (p := Hid _) hM4
  have HRA : Hid (R = assignT C.E d []) := hR.trans (stmt_none fun c hc => by intro e; rw [← e] at hc; revert hc; decide)
  have HPP : Hid (C.E = posOf C.E []) := rfl
  have HC : Hid (∀ M, GoS C w d M none [] (.ok []) rows) := hg
  clear hg hR hM4
  go_enter Tryz.func38, Tryz.ntmps38
  go_wp2_with (go_at_call 20; refine Calls.mono (gat (HC.out 4000)) ?_; rintro e w1 ⟨rfl, hg⟩; replace HC : Hid (∀ M, GoS C w1 d M none [] (.ok []) rows) := (fun M => hg.any M); clear hg)
  rw [show posE C.E (.ok []) = C.E from rfl]
  obtain ⟨i, d1, lv, a, hps, hil, _⟩ := (HC.out 4000).ps9
  obtain ⟨hi, -⟩ := hil _ rfl
  have hle := hps.le
  have hP := hps.lt
  have c0 := hps.c0
  have c2 := hps.c2
  obtain ⟨ta, tc, htv⟩ := hps.toks.form
  have htk := hps.toks
  rw [htv] at c0 htk
  have hge : ¬ i < C.T.length := fun hlt => by
    have hgd := getD_drop hlt
    rw [hi] at hgd
    cases hgd
  have hlt' : ¬ (i : Int) < (C.T.length : Int) := by omega
  clear hge
  replace HC : Hid (∀ M, GoS C (w1.drew.alloc (.cells #[.int .i64 0, .int .i64 0, .int .i64 C.E, .string ⟨#[]⟩, nilV] 53)) d M (some (w1.heap.size, .cells #[.int .i64 0, .int .i64 0, .int .i64 C.E, .string ⟨#[]⟩, nilV] 53)) [] (.ok []) rows) := fun M => ((HC.out M).below (Below.refl _ _).drew).box _
  clear hil hps htk hi
  go_region
  go_wp2_with (first
    | (go_at_call 68; refine Calls.mono (rassign_any hd HPP.out HC.out) ?_; rintro e w2 ⟨rfl, hpre⟩; rw [← HRA.out] at hpre; obtain ⟨k2, t2, ka, kn, kc, ps2, s2, rows2, hg, hmat⟩ := hpre; obtain ⟨hb, hbP⟩ := hg.bxc; have hbP2 : ¬ C.P = _ := (fun e => hbP e.symm); obtain ⟨b0, b1, b2, b3, b4, bf⟩ := box5 hb; have hbl := lt_of_cell b0; have HG := Hid.out (p := Hid _) hg; have HMT : Hid (MatN rows R k2 _ t2 (.slice ka kn kc) ps2 s2 rows2) := hmat; clear hg hmat hb)
    | (go_at_call 23; refine Calls.mono (pre_node HG.out HMT.out (by have := HK.out; omega) HRS.out) ?_; rintro e w3 ⟨v3, rfl, hq3⟩))
  go_ret
  exact ⟨v3, rfl, hq3⟩
end
end

section
open Go.RowKit

set_option maxRecDepth 100000 in
set_option maxHeartbeats 800000 in
theorem note1_yes (nb sb : Nat) (s : ByteArray) (k : Nat) (hk : k < s.size) (hc : canBe s[k] = true) (w : World) (h : Sc w sb s k) (hn : w.cell? ⟨nb, 0, none⟩ = some (.pointer (some ⟨sb, 0, none⟩))) :
    Calls Tryz.prog 109 #[.int .u8 (s[k].toNat : Int), .pointer (some ⟨nb, 0, none⟩)] w fun e w' => e = .returned (.bool ((s[k].toNat : Int) != 10)) ∧ ∃ m, w' = w.drewN m := by
  go_enter Tryz.func109, Tryz.ntmps109
  go_wp2_with (first | (go_at_call 81; refine (ask_yes sb s k hk hc _ h).mono ?_; rintro e w' ⟨rfl, m, rfl⟩))
  go_ret
  exact ⟨rfl, _, rfl⟩
set_option maxRecDepth 100000 in
set_option maxHeartbeats 800000 in
theorem note1_no (nb sb : Nat) (s : ByteArray) (k : Nat) (hk : k < s.size) (hc : canBe s[k] = false) (w : World) (h : Sc w sb s k) (hn : w.cell? ⟨nb, 0, none⟩ = some (.pointer (some ⟨sb, 0, none⟩))) :
    Calls Tryz.prog 109 #[.int .u8 (s[k].toNat : Int), .pointer (some ⟨nb, 0, none⟩)] w fun e w' => e = .panicked (badB k) ∧ Below w.heap.size w w' := by
  go_enter Tryz.func109, Tryz.ntmps109
  go_wp2_with (first | (go_at_call 81; refine (ask_no sb s k hk hc _ h).mono ?_; rintro e w' ⟨rfl, hb⟩))
  exact ⟨rfl, rfl, hb⟩


theorem skAt_over {s : ByteArray} {j : Nat} (h : j < s.size) (hc : canBe s[j] = true) (hn : ((s[j].toNat : Int) != 10) = true) : skAt s true j = skAt s true (j + 1) := by
  rw [skAt_note h hc]
  congr 1
  simp at hn ⊢
  omega
theorem skAt_line {s : ByteArray} {j : Nat} (h : j < s.size) (hc : canBe s[j] = true) (hn : ((s[j].toNat : Int) != 10) = false) : skAt s true j = skAt s false j := by
  have h10 : s[j].toNat = 10 := by simp at hn; omega
  rw [skAt_note h hc, skAt_blk h hc (by simp [isBlk, h10])]
  congr 1
  simp [h10]

/-- What becomes of a note. -/
def NoteQ (W : World) (sb : Nat) (s : ByteArray) (k E : Nat) (B : Bool) (e : Ending) (w' : World) : Prop :=
  W.grownBy w' (some sb) ∧ ((∃ v, e = .returned v ∧ ∃ j, k ≤ j ∧ j ≤ s.size ∧ (∀ h : k < s.size, ((s[k].toNat : Int) != 10) = true → k < j) ∧ Sc w' sb s j ∧ skAt s false j = (E, B)) ∨ (e = .panicked (badB E) ∧ B = true))

set_option maxRecDepth 100000 in
set_option maxHeartbeats 1600000 in
theorem take_note (nb sb : Nat) (s : ByteArray) (hs : s.size ≤ 4000) (k : Nat) (hk : k ≤ s.size) (E : Nat) (B : Bool) (HE : Hid (skAt s true k = (E, B))) (w : World) (h : Sc w sb s k) (hn : w.cell? ⟨nb, 0, none⟩ = some (.pointer (some ⟨sb, 0, none⟩))) (hne : nb ≠ sb) :
    Calls Tryz.prog 108 #[.pointer (some ⟨sb, 0, none⟩), .func (.func 109) #[] #[.pointer (some ⟨nb, 0, none⟩)]] w fun e w' => NoteQ w sb s k E B e w' := by
  have HS := Hid.out (p := Hid _) h
  have HNB : Hid (∀ V, w.grownBy V (some sb) → V.cell? ⟨nb, 0, none⟩ = some (.pointer (some ⟨sb, 0, none⟩))) := fun V hV => hV.cell hn (by simp; exact hne)
  have h0 := h.c0
  have h1 := h.c1
  clear h hn
  go_enter Tryz.func108, Tryz.ntmps108
  go_wp2
  clear h0 h1
  obtain ⟨W, rfl⟩ : ∃ V, V = w := ⟨_, rfl⟩
  go_loopw [10] (fun _ wr => ∃ j : Nat, k ≤ j ∧ j ≤ s.size ∧ Hid (skAt s true j = (E, B)) ∧ Hid (Sc wr sb s j ∧ W.grownBy wr (some sb))) (fun _ wr => s.size - atOf wr sb)
  case atStart => exact ⟨k, Nat.le_refl _, hk, HE, ⟨HS.out, World.grownBy.refl _ _⟩⟩
  case round =>
    obtain ⟨j, hj1, hj2, HJ, HW⟩ := hrel
    have h0 := HW.out.1.c0
    have h1 := HW.out.1.c1
    have hf := HW.out.1.fr
    by_cases hlt : j < s.size
    · have hlt' : (j : Int) < (s.size : Int) := by omega
      cases hc : canBe s[j] with
      | false =>
        have HEB : Hid (j = E ∧ B = true) := by
          have h2 := HJ.out
          rw [skAt_bad true hlt hc] at h2
          simp only [Prod.mk.injEq] at h2
          exact ⟨h2.1, h2.2.symm⟩
        go_wp2_with fail
        refine region_tail 21 (by kernel_rfl) (by kernel_rfl) ?_
        simp only [List.take_succ_cons, List.take_zero, List.drop_succ_cons, List.drop_zero]
        repeat still_step
        refine wpStill_nil ?_
        go_wp2_with fail
        refine Calls.mono (note1_no nb sb s j hlt hc _ (HW.out.1.below (Below.refl _ _).drew) (HNB.out _ (grown_then HW.out.2 (grown_of_below (Below.refl _ _).drew _)))) ?_
        rintro e w' ⟨rfl, hb⟩
        refine ⟨rfl, grown_then HW.out.2 (grown_then (grown_of_below (Below.refl _ _).drew _) (grown_of_below hb _)), Or.inr ⟨?_, HEB.out.2⟩⟩
        rw [HEB.out.1]
      | true =>
        cases hd : ((s[j].toNat : Int) != 10) with
        | true =>
          have HJ2 : Hid (skAt s true (j + 1) = (E, B)) := (skAt_over hlt hc hd).symm.trans HJ.out
          have HW2 : Hid (∀ m, Sc ((wr.drewN m).setCell ⟨sb, 1, none⟩ (.int .i64 ((j : Int) + 1))) sb s (j + 1) ∧ W.grownBy ((wr.drewN m).setCell ⟨sb, 1, none⟩ (.int .i64 ((j : Int) + 1))) (some sb)) := fun m =>
            ⟨(HW.out.1.below (below_drewN (Below.refl _ _))).set (j + 1), grown_then HW.out.2 (grown_then (grown_of_below (below_drewN (Below.refl _ _)) _) (grown_set _ _ _ _))⟩
          have ha : atOf wr sb = j := HW.out.1.at
          go_wp2_with fail
          refine region_tail 21 (by kernel_rfl) (by kernel_rfl) ?_
          simp only [List.take_succ_cons, List.take_zero, List.drop_succ_cons, List.drop_zero]
          repeat still_step
          refine wpStill_nil ?_
          go_wp2_with fail
          refine Calls.mono (note1_yes nb sb s j hlt hc _ (HW.out.1.below (Below.refl _ _).drew) (HNB.out _ (grown_then HW.out.2 (grown_of_below (Below.refl _ _).drew _)))) ?_
          rintro e w' ⟨rfl, m, rfl⟩
          rw [hd]
          go_wp2_with fail
          go_roundw
          case rel => exact ⟨j + 1, by omega, by omega, HJ2, HW2.out _⟩
          case measure => rw [(HW2.out _).1.at, ha]; omega
        | false =>
          have HJ2 : Hid (skAt s false j = (E, B)) := (skAt_line hlt hc hd).symm.trans HJ.out
          go_wp2_with fail
          refine region_tail 21 (by kernel_rfl) (by kernel_rfl) ?_
          simp only [List.take_succ_cons, List.take_zero, List.drop_succ_cons, List.drop_zero]
          repeat still_step
          refine wpStill_nil ?_
          go_wp2_with fail
          refine Calls.mono (note1_yes nb sb s j hlt hc _ (HW.out.1.below (Below.refl _ _).drew) (HNB.out _ (grown_then HW.out.2 (grown_of_below (Below.refl _ _).drew _)))) ?_
          rintro e w' ⟨rfl, m, rfl⟩
          rw [hd]
          go_wp2_with fail
          have hle1 : (k : Int) ≤ (j : Int) := by omega
          have hle2 : (j : Int) ≤ (s.size : Int) := by omega
          go_quiet (fail)
          go_wp2
          go_ret
          refine ⟨grown_then HW.out.2 (grown_of_below (below_drewN (below_drewN (Below.refl _ _))) _), Or.inl ⟨_, rfl, j, hj1, hj2, fun h hne => ?_, HW.out.1.below (below_drewN (below_drewN (Below.refl _ _))), HJ2.out⟩⟩
          rcases Nat.lt_or_eq_of_le hj1 with h2 | rfl
          · exact h2
          · rw [hd] at hne; cases hne
    · have hlt' : decide ((j : Int) < (s.size : Int)) = false := by simpa using hlt
      have HJ2 : Hid (skAt s false j = (E, B)) := by
        have h2 := HJ.out
        rw [skAt_end true (by omega)] at h2
        show _ = _
        rw [skAt_end false (by omega), h2]
      go_wp2_with fail
      go_quiet (fail)
      go_wp2_with fail
      have hle1 : (k : Int) ≤ (j : Int) := by omega
      have hle2 : (j : Int) ≤ (s.size : Int) := by omega
      go_quiet (fail)
      go_wp2
      go_ret
      exact ⟨grown_then HW.out.2 (grown_of_below (below_drewN (below_drewN (Below.refl _ _))) _), Or.inl ⟨_, rfl, j, hj1, hj2, fun h _ => by omega, HW.out.1.below (below_drewN (below_drewN (Below.refl _ _))), HJ2.out⟩⟩

set_option maxRecDepth 100000 in
set_option maxHeartbeats 800000 in
theorem note_any (sb : Nat) (s : ByteArray) (hs : s.size ≤ 4000) (k : Nat) (hk : k ≤ s.size) (E : Nat) (B : Bool) (HE : Hid (skAt s true k = (E, B))) (w : World) (h : Sc w sb s k) :
    Calls Tryz.prog 80 #[.pointer (some ⟨sb, 0, none⟩)] w fun e w' => NoteQ w sb s k E B e w' := by
  have hmf : ∀ (fn : Fn) (first cap : Array Value) (w : World), (Instr.makeFunc fn first cap).run Tryz.prog w = .ok (.func fn first cap) w := fun _ _ _ _ => rfl
  go_enter Tryz.func80, Tryz.ntmps80
  go_wp2_with fail
  have hsb := h.lt
  refine Calls.mono (take_note w.heap.size sb s hs k hk E B HE _ (h.below ((Below.refl _ _).alloc (Nat.le_refl _) _)) (box_cell (heap_alloc_new _ _) rfl) (by omega)) ?_
  rintro e w1 ⟨hg, h2⟩
  have hg2 : w.grownBy w1 (some sb) := grown_then (grown_of_below ((Below.refl _ _).alloc (Nat.le_refl _) _) _) hg
  rcases h2 with ⟨v, rfl, hj⟩ | ⟨rfl, hB⟩
  · go_wp2
    go_end0
    exact ⟨hg2, Or.inl ⟨_, rfl, hj⟩⟩
  · exact ⟨rfl, hg2, Or.inr ⟨rfl, hB⟩⟩
end

section
open Go.RowKit

theorem rest_list (s : ByteArray) (j : Nat) : (s.extract j s.size).data.toList = s.data.toList.drop j := by
  have hl : s.data.toList.length = s.size := by simp
  rw [ext_list, List.take_of_length_le (by rw [List.length_drop, hl]; exact Nat.le_refl _)]
theorem pre_two (s : ByteArray) (j : Nat) (h : j < s.size) : Lib.hasPrefix (s.extract j s.size).data.toList [47, 47] = true ↔ (s[j].toNat = 47 ∧ ∃ h : j + 1 < s.size, s[j + 1].toNat = 47) := by
  have e : ∀ c : UInt8, c = 47 ↔ c.toNat = 47 := fun c => ⟨fun h => by rw [h]; rfl, fun h => UInt8.toNat_inj.1 (by rw [h]; rfl)⟩
  rw [rest_list, drop_at s j h]
  rcases Nat.lt_or_ge (j + 1) s.size with h1 | h1
  · rw [drop_at s (j + 1) h1]
    simp only [Lib.hasPrefix, List.isPrefixOf, Bool.and_true, Bool.and_eq_true, beq_iff_eq, eq_comm (a := (47 : UInt8)), e]
    exact ⟨fun ⟨a, b⟩ => ⟨a, h1, b⟩, fun ⟨a, _, b⟩ => ⟨a, b⟩⟩
  · rw [drop_over s (j + 1) h1]
    simp only [Lib.hasPrefix, List.isPrefixOf, Bool.and_false, Bool.false_eq_true, false_iff]
    rintro ⟨_, h2, _⟩
    omega

/-- What stands at the place that the way leads to. -/
def Stand (s : ByteArray) (E : Nat) (B : Bool) : Prop := if B = true then ∃ h : E < s.size, canBe s[E] = false else ∀ h : E < s.size, canBe s[E] = true

def ToQ (W : World) (sb : Nat) (s : ByteArray) (E : Nat) (B : Bool) (e : Ending) (w' : World) : Prop :=
  W.grownBy w' (some sb) ∧ ((e = .returned (.bool (decide (E < s.size))) ∧ Sc w' sb s E ∧ Stand s E B) ∨ (e = .panicked (badB E) ∧ B = true))

set_option maxRecDepth 100000 in
set_option maxHeartbeats 1600000 in
theorem toTok_any (sb : Nat) (s : ByteArray) (hs : s.size ≤ 4000) (k : Nat) (hk : k ≤ s.size) (E : Nat) (B : Bool) (HE : Hid (skAt s false k = (E, B))) (w : World) (h : Sc w sb s k) :
    Calls Tryz.prog 52 #[.pointer (some ⟨sb, 0, none⟩)] w fun e w' => ToQ w sb s E B e w' := by
  have HS := Hid.out (p := Hid _) h
  clear h
  go_enter Tryz.func52, Tryz.ntmps52
  go_wp2
  obtain ⟨W, rfl⟩ : ∃ V, V = w := ⟨_, rfl⟩
  go_loopw [3] (fun _ wr => ∃ j : Nat, k ≤ j ∧ j ≤ s.size ∧ Hid (skAt s false j = (E, B)) ∧ Hid (Sc wr sb s j ∧ W.grownBy wr (some sb))) (fun _ wr => s.size - atOf wr sb)
  case atStart => exact ⟨k, Nat.le_refl _, hk, HE, ⟨HS.out, World.grownBy.refl _ _⟩⟩
  case round =>
    obtain ⟨j, hj1, hj2, HJ, HW⟩ := hrel
    have h0 := HW.out.1.c0
    have h1 := HW.out.1.c1
    have hf := HW.out.1.fr
    have HB : Hid (∀ V, Below wr.heap.size wr V → Sc V sb s j ∧ W.grownBy V (some sb)) := fun V hV => ⟨HW.out.1.below hV, grown_then HW.out.2 (grown_of_below hV _)⟩
    have ha : atOf wr sb = j := HW.out.1.at
    by_cases hlt : j < s.size
    · have hlt' : (j : Int) < (s.size : Int) := by omega
      cases hb : isBlk s[j] with
      | true =>
        have hc : canBe s[j] = true := by simp [canBe, hb]
        have HJ2 : Hid (skAt s false (j + 1) = (E, B)) := (skAt_blk hlt hc hb).symm.trans HJ.out
        have HW2 : Hid (∀ m, Sc ((wr.drewN m).setCell ⟨sb, 1, none⟩ (.int .i64 ((j : Int) + 1))) sb s (j + 1) ∧ W.grownBy ((wr.drewN m).setCell ⟨sb, 1, none⟩ (.int .i64 ((j : Int) + 1))) (some sb)) := fun m => by
          have h2 := HB.out (wr.drewN m) (below_drewN (Below.refl _ _))
          exact ⟨h2.1.set (j + 1), grown_then h2.2 (grown_set _ _ _ _)⟩
        go_wp2_with fail
        go_quiet (fail)
        go_wp2_with fail
        refine region_tail 9 (by kernel_rfl) (by kernel_rfl) ?_
        simp only [List.take_succ_cons, List.take_zero, List.drop_succ_cons, List.drop_zero]
        repeat still_step
        refine wpStill_nil ?_
        go_wp2_with fail
        refine Calls.mono (pblk_any s[j] _) ?_
        rintro e w' ⟨rfl, rfl⟩
        rw [hb]
        go_wp2_with fail
        go_roundw
        case rel => exact ⟨j + 1, by omega, by omega, HJ2, HW2.out _⟩
        case measure => rw [(HW2.out _).1.at, ha]; omega
      | false =>
        by_cases h47 : s[j].toNat = 47 ∧ ∃ h : j + 1 < s.size, s[j + 1].toNat = 47
        · have hp := (pre_two s j hlt).2 h47
          have hc : canBe s[j] = true := by simp [canBe, h47.1]
          have HJ2 : Hid (skAt s true j = (E, B)) := by
            show _ = _
            rw [← HJ.out, skAt_open h47.2.1 hc hb h47.1 h47.2.2]
            exact skAt_over hlt hc (by simp [h47.1])
          have hne : ((s[j].toNat : Int) != 10) = true := by simp [h47.1]
          have HP := Hid.out (p := Hid _) hp
          have HNE := Hid.out (p := Hid _) hne
          clear h47 hp hne
          go_wp2_with fail
          go_quiet (fail)
          go_wp2_with fail
          refine region_tail 9 (by kernel_rfl) (by kernel_rfl) ?_
          simp only [List.take_succ_cons, List.take_zero, List.drop_succ_cons, List.drop_zero]
          repeat still_step
          refine wpStill_nil ?_
          go_wp2_with fail
          refine Calls.mono (pblk_any s[j] _) ?_
          rintro e w' ⟨rfl, rfl⟩
          rw [hb]
          go_wp2_with fail
          refine region_tail 9 (by kernel_rfl) (by kernel_rfl) ?_
          simp only [List.take_succ_cons, List.take_zero, List.drop_succ_cons, List.drop_zero]
          repeat still_step
          refine wpStill_nil ?_
          go_wp2_with fail
          refine Calls.mono (Tryz.strings_HasPrefix _ _ _) ?_
          rintro e w' ⟨rfl, rfl⟩
          rw [HP.out]
          go_wp2_with fail
          have h2 := HB.out _ (below_drewN (k := nq + 1 + 1) (Below.refl _ _))
          refine Calls.mono (note_any sb s hs j hj2 E B HJ2 _ h2.1) ?_
          rintro e w1 ⟨hg, h3⟩
          have hg2 := grown_then h2.2 hg
          rcases h3 with ⟨v, rfl, j2, hq1, hq2, hq3, hq4, hq5⟩ | ⟨rfl, hB⟩
          · have hj3 := hq3 hlt HNE.out
            have HQ5 : Hid (skAt s false j2 = (E, B)) := hq5
            have HQ4 : Hid (Sc w1 sb s j2 ∧ W.grownBy w1 (some sb)) := ⟨hq4, hg2⟩
            clear hq5 hq4 hq3 hg2 hg h2
            go_wp2_with fail
            go_roundw
            case rel => exact ⟨j2, by omega, hq2, HQ5, HQ4⟩
            case measure => rw [HQ4.out.1.at, ha]; omega
          · exact ⟨rfl, hg2, Or.inr ⟨rfl, hB⟩⟩
        · have hp : Lib.hasPrefix (s.extract j s.size).data.toList [47, 47] = false := by
            rw [Bool.eq_false_iff]
            intro e
            exact h47 ((pre_two s j hlt).1 e)
          have HST : Hid (j = E ∧ Stand s E B) := by
            have h2 := HJ.out
            cases hc : canBe s[j] with
            | false =>
              rw [skAt_bad false hlt hc] at h2
              simp only [Prod.mk.injEq] at h2
              obtain ⟨rfl, rfl⟩ := h2
              exact ⟨rfl, by simp only [Stand, if_true]; exact ⟨hlt, hc⟩⟩
            | true =>
              rw [skAt_stop hlt hc hb h47] at h2
              simp only [Prod.mk.injEq] at h2
              obtain ⟨rfl, rfl⟩ := h2
              exact ⟨rfl, by simp only [Stand, Bool.false_eq_true, if_false]; exact fun _ => hc⟩
          have HP := Hid.out (p := Hid _) hp
          clear h47 hp
          go_wp2_with fail
          go_quiet (fail)
          go_wp2_with fail
          refine region_tail 9 (by kernel_rfl) (by kernel_rfl) ?_
          simp only [List.take_succ_cons, List.take_zero, List.drop_succ_cons, List.drop_zero]
          repeat still_step
          refine wpStill_nil ?_
          go_wp2_with fail
          refine Calls.mono (pblk_any s[j] _) ?_
          rintro e w' ⟨rfl, rfl⟩
          rw [hb]
          go_wp2_with fail
          refine region_tail 9 (by kernel_rfl) (by kernel_rfl) ?_
          simp only [List.take_succ_cons, List.take_zero, List.drop_succ_cons, List.drop_zero]
          repeat still_step
          refine wpStill_nil ?_
          go_wp2_with fail
          refine Calls.mono (Tryz.strings_HasPrefix _ _ _) ?_
          rintro e w' ⟨rfl, rfl⟩
          rw [HP.out]
          go_wp2_with fail
          go_ret
          have h2 := HB.out _ (below_drewN (k := nq + 1 + 1) (Below.refl _ _))
          obtain ⟨rfl, h3⟩ := HST.out
          exact ⟨h2.2, Or.inl ⟨ret_bool (by simpa using hlt), h2.1, h3⟩⟩
    · have hlt' : decide ((j : Int) < (s.size : Int)) = false := by simpa using hlt
      go_wp2_with fail
      go_quiet (fail)
      go_wp2
      go_ret
      have h2 := HJ.out
      rw [skAt_end false (by omega)] at h2
      simp only [Prod.mk.injEq] at h2
      obtain ⟨rfl, rfl⟩ := h2
      have h3 := HB.out _ (below_drewN (k := nq) (Below.refl _ _))
      exact ⟨h3.2, Or.inl ⟨ret_bool (by simpa using hlt), h3.1, by simp only [Stand, Bool.false_eq_true, if_false]; exact fun h => absurd h hlt⟩⟩
end

section
open Go.RowKit

theorem wrap_less (k t : Nat) (h : k ≤ 4000) (h2 : t ≤ k) : IntKind.i64.wrap ((k : Int) - (t : Int)) = (k : Int) - (t : Int) := by
  rw [IntKind.wrap_i64]
  omega
theorem lexClone_any (t : ByteArray) (ht : t.size ≤ 4000) (w : World) :
    Calls Tryz.prog 128 #[.string t] w fun e w' => e = .returned (.string t) ∧ Below w.heap.size w w' := by
  go_enter Tryz.func128, Tryz.ntmps128
  go_wp2_with (first | (go_at_call 145; refine (Tryz.stringslite_Clone t _ (by omega)).mono ?_; rintro e w' ⟨rfl, hb⟩))
  go_ret
  exact ⟨rfl, hb⟩

set_option maxRecDepth 100000 in
set_option maxHeartbeats 800000 in
theorem taken_any (sb : Nat) (s : ByteArray) (k : Nat) (hk : k ≤ 4000) (kind : Int) (t : ByteArray) (ht : t.size ≤ k) (w : World) (h : Sc w sb s k) :
    Calls Tryz.prog 111 #[.pointer (some ⟨sb, 0, none⟩), .int .i64 kind, .string t] w fun e w' => e = .returned (.agg #[.int .i64 kind, .int .i64 0, .int .i64 ((k : Int) - (t.size : Int)), .string t]) ∧ Below w.heap.size w w' := by
  have h0 := h.c0
  have h1 := h.c1
  go_enter Tryz.func111, Tryz.ntmps111
  go_wp2_with fail
  obtain ⟨V, hV⟩ : ∃ V, w.alloc (.cells #[.int .i64 0, .int .i64 0, .int .i64 0, .string ⟨#[]⟩] 66) = V := ⟨_, rfl⟩
  have hbV : Below w.heap.size w V := by rw [← hV]; exact (Below.refl _ _).alloc (Nat.le_refl _) _
  have hxV : V.heap[w.heap.size]? = some (.cells #[.int .i64 0, .int .i64 0, .int .i64 0, .string ⟨#[]⟩] 66) := by rw [← hV]; exact heap_alloc_new _ _
  have hlV : w.heap.size < V.heap.size := by rw [← hV]; simp
  have v1 : V.cell? ⟨sb, 1, none⟩ = some (.int .i64 (k : Int)) := (h.below hbV).c1
  have HSV : Hid (sb < V.heap.size) := (h.below hbV).lt
  have hne : ¬ sb = w.heap.size := by have := h.lt; omega
  have hne' : ¬ w.heap.size = sb := fun e => hne e.symm
  rw [hV]
  have q0 : V.cell? ⟨w.heap.size, 0, none⟩ = some (.int .i64 0) := box_cell hxV rfl
  have q1 : V.cell? ⟨w.heap.size, 1, none⟩ = some (.int .i64 0) := box_cell hxV rfl
  have q2 : V.cell? ⟨w.heap.size, 2, none⟩ = some (.int .i64 0) := box_cell hxV rfl
  have q3 : V.cell? ⟨w.heap.size, 3, none⟩ = some (.string ⟨#[]⟩) := box_cell hxV rfl
  have qf : ∀ i, V.frozen? ⟨w.heap.size, i, none⟩ = false := fun i => box_free hxV
  have HLV : Hid (w.heap.size < V.heap.size) := hlV
  have HBV := Hid.out (p := Hid _) hbV
  clear hV h h0 h1 hxV hlV hbV
  go_region_held3 (fun w' => w'.cell? ⟨sb, 1, none⟩ = some (.int .i64 (k : Int))) (go_keep)
    (first | (go_at_call 128; refine (lexClone_any t (by omega) _).mono ?_; rintro e w7 ⟨rfl, hb7⟩; have hc7 := hb7.cell (p := ⟨sb, 1, none⟩) HSV.out; have hd7 := fun i => hb7.cell (p := ⟨w.heap.size, i, none⟩) HLV.out; have hf7 := fun i => hb7.frozen (p := ⟨w.heap.size, i, none⟩) HLV.out))
  rw [wrap_less k t.size hk ht]
  go_wp2
  have hw7 : Below w.heap.size w w7 := HBV.out.trans (Below.mono ((Below.refl _ _).drew.trans hb7) HBV.out.size)
  refine bodyPost_ret (v := .agg #[.int .i64 kind, .int .i64 0, .int .i64 ((k : Int) - (t.size : Int)), .string t]) (by simp [results, Tryz.results111, go_sem, hd7, q0, q1, q2, q3]) rfl ⟨rfl, ?_⟩
  exact (((hw7.setCell (Nat.le_refl _) _).setCell (Nat.le_refl _) _).setCell (Nat.le_refl _) _).setCell (Nat.le_refl _) _
end

section
open Go.RowKit

/-- A token of the program: its kind, number and length, or none. -/
def TokQ (W : World) (sb : Nat) (s : ByteArray) (i : Nat) (e : Ending) (w' : World) : Prop :=
  W.grownBy w' (some sb) ∧ match oneL (s.data.toList.drop i) with
    | none => e = .panicked (badT i)
    | some (k, v, m) => e = .returned (.agg #[.int .i64 k, .int .i64 v, .int .i64 i, .string (s.extract i (i + m))]) ∧ Sc w' sb s (i + m)

theorem grown_high {w V : World} {row : Option Nat} (h : w.grownBy V row) {a : Addr} (ha : w.heap.size ≤ a.block) (v : Value) : w.grownBy (V.setCell a v) row :=
  ⟨h.os, h.tape, h.output, by simpa [World.setCell] using h.size, fun j hj hr => (Below.heap_setCell _ _ _ _ (by omega)).trans (h.block j hj hr)⟩
theorem grown_alloc {w V : World} {row : Option Nat} (h : w.grownBy V row) (o : Obj) : w.grownBy (V.alloc o) row := grown_then h (grown_of_below ((Below.refl _ _).alloc (Nat.le_refl _) o) row)
theorem Sc.far {w : World} {sb : Nat} {s : ByteArray} {k : Nat} (h : Sc w sb s k) {a : Addr} (ha : a.block ≠ sb) (v : Value) : Sc (w.setCell a v) sb s k := (Below.heap_setCell _ _ _ _ (fun e => ha e.symm)).trans h
theorem Sc.more {w : World} {sb : Nat} {s : ByteArray} {k : Nat} (h : Sc w sb s k) (o : Obj) : Sc (w.alloc o) sb s k := h.below ((Below.refl _ _).alloc (Nat.le_refl _) o)
theorem extract_size (s : ByteArray) (i n : Nat) (h : i + n ≤ s.size) : (s.extract i (i + n)).size = n := by
  rw [ByteArray.size_extract]; omega

set_option maxRecDepth 100000 in
set_option maxHeartbeats 1600000 in
theorem lexName_any (sb : Nat) (s : ByteArray) (hs : s.size ≤ 4000) (i : Nat) (hi : i < s.size) (hl : isLet s[i] = true) (w : World) (h : Sc w sb s i) :
    Calls Tryz.prog 83 #[.pointer (some ⟨sb, 0, none⟩)] w fun e w' => TokQ w sb s i e w' := by
  have hmf : ∀ (fn : Fn) (first cap : Array Value) (w : World), (Instr.makeFunc fn first cap).run Tryz.prog w = .ok (.func fn first cap) w := fun _ _ _ _ => rfl
  obtain ⟨N, hN⟩ : ∃ N, 1 + twAt isNam s (i + 1) = N := ⟨_, rfl⟩
  have hN2 : i + twAt isNam s i = i + N := by rw [twAt_more hi (by simp [isNam, hl]), ← hN]; omega
  have hle : i + N ≤ s.size := by rw [← hN2]; exact twAt_le (by omega)
  have HQ : Hid (oneL (s.data.toList.drop i) = if 12 < N then none else some (kindW (s.extract i (i + N)).data.toList, 0, N)) := oneL_name hi hl hN
  have HN2 := Hid.out (p := Hid _) hN2
  obtain ⟨x, hx⟩ : ∃ x : ByteArray, s.extract i (i + N) = x := ⟨_, rfl⟩
  have hxs : x.size = N := by rw [← hx]; exact extract_size s i N hle
  have HX := Hid.out (p := Hid _) hx
  clear hN hN2 hx
  have hA : Below w.heap.size w (w.alloc (.cells #[.int .i64 0, .int .i64 0, .int .i64 0, .string ⟨#[]⟩] 66)) := (Below.refl _ _).alloc (Nat.le_refl _) _
  have hSA := h.below hA
  have hAx : (w.alloc (.cells #[.int .i64 0, .int .i64 0, .int .i64 0, .string ⟨#[]⟩] 66)).heap[w.heap.size]? = some (.cells #[.int .i64 0, .int .i64 0, .int .i64 0, .string ⟨#[]⟩] 66) := heap_alloc_new _ _
  have hAl : w.heap.size < (w.alloc (.cells #[.int .i64 0, .int .i64 0, .int .i64 0, .string ⟨#[]⟩] 66)).heap.size := by simp
  have hne : some w.heap.size ≠ some sb := by have := h.lt; simp; omega
  have HA := Hid.out (p := Hid _) (And.intro hA (And.intro hSA (And.intro hAx (And.intro hAl hne))))
  clear hA hSA hAx hAl hne
  by_cases h12 : 12 < N
  · have h12' : 12 < (x.size : Int) := by omega
    have HQ2 : Hid (∀ e w', w.grownBy w' (some sb) → e = .panicked (badT i) → TokQ w sb s i e w') := fun e w' hg he => by
      unfold TokQ
      rw [HQ.out, if_pos h12]
      exact ⟨hg, he⟩
    go_enter Tryz.func83, Tryz.ntmps83
    go_wp2_with (first | (go_at_call 108; refine (take_nam sb s hs i (by omega) (i + N) HN2 _ HA.out.2.1).mono ?_; rintro e w1 ⟨rfl, h1, hg1⟩; rw [HX.out]; have HG1 := Hid.out (p := Hid _) (And.intro h1 hg1); clear h1 hg1) | (go_at_call 112; refine (pkind_any x _).mono ?_; rintro e w' ⟨rfl, rfl⟩) | (go_at_call 111; refine (taken_any sb s (i + N) (by omega) _ x (by omega) _ HG1.out.1).mono ?_; rintro e w2 ⟨rfl, hb2⟩))
    exact ⟨rfl, HQ2.out _ _ (grown_then (grown_of_below HA.out.1 _) (grown_then HG1.out.2 (grown_of_below (hb2.alloc hb2.size _) _))) rfl⟩
  · have h12' : ¬ 12 < (x.size : Int) := by omega
    have HQ2 : Hid (∀ e w', w.grownBy w' (some sb) → e = .returned (.agg #[.int .i64 (kindW x.data.toList), .int .i64 0, .int .i64 i, .string x]) → Sc w' sb s (i + N) → TokQ w sb s i e w') := fun e w' hg he hc => by
      unfold TokQ
      rw [HQ.out, if_neg h12]
      refine ⟨hg, ?_, hc⟩
      rw [HX.out]
      exact he
    go_enter Tryz.func83, Tryz.ntmps83
    go_wp2_with (first | (go_at_call 108; refine (take_nam sb s hs i (by omega) (i + N) HN2 _ HA.out.2.1).mono ?_; rintro e w1 ⟨rfl, h1, hg1⟩; rw [HX.out]; have HG1 := Hid.out (p := Hid _) (And.intro h1 hg1); clear h1 hg1) | (go_at_call 112; refine (pkind_any x _).mono ?_; rintro e w' ⟨rfl, rfl⟩) | (go_at_call 111; refine (taken_any sb s (i + N) (by omega) _ x (by omega) _ HG1.out.1).mono ?_; rintro e w2 ⟨rfl, hb2⟩; have hx2 := (hb2.block _ (Nat.lt_of_lt_of_le HA.out.2.2.2.1 HG1.out.2.size)).trans ((HG1.out.2.block _ HA.out.2.2.2.1 HA.out.2.2.2.2).trans HA.out.2.2.1); have p0 := box_cell (i := 0) hx2 rfl; have p1 := box_cell (i := 1) hx2 rfl; have p2 := box_cell (i := 2) hx2 rfl; have p3 := box_cell (i := 3) hx2 rfl; have pf := fun j => box_free (i := j) hx2; have hl2 : w.heap.size < w2.heap.size := Nat.lt_of_lt_of_le (Nat.lt_of_lt_of_le HA.out.2.2.2.1 HG1.out.2.size) hb2.size; clear hx2))
    have hg2 : w.grownBy w2 (some sb) := grown_then (grown_of_below HA.out.1 _) (grown_then HG1.out.2 (grown_of_below hb2 _))
    have hne : w.heap.size ≠ sb := by have := h.lt; omega
    refine bodyPost_ret (v := .agg #[.int .i64 (kindW x.data.toList), .int .i64 0, .int .i64 i, .string x]) (by simp [results, Tryz.results83, go_sem, p0, p1, p2, p3, hl2]) rfl (HQ2.out _ _ ?_ rfl ?_)
    · exact grown_alloc (grown_high (grown_high (grown_high (grown_high hg2 (Nat.le_refl _) _) (Nat.le_refl _) _) (Nat.le_refl _) _) (Nat.le_refl _) _) _
    · exact (((((HG1.out.1.below hb2).far hne _).far hne _).far hne _).far hne _).more _
end

end Go.Proofs.YtclnjhffcfkihaeGreatDoor
