/-
  The document's parser: what is assigned.
  The document's parser: locks.
-/
import Derived.Test.YtggfbfjdiikaeaaGreatDoorSynF6
namespace Go.Proofs.YtggfbfjdiikaeaaGreatDoor
section
open Go.RowKit

section
variable {C : Cx9} {w : World} {d b : Nat} {p : Int} {l : List Tok} {rows : List Row}
set_option maxRecDepth 100000 in
set_option maxHeartbeats 3200000 in
/-- A name, '=', an expression. -/
theorem rassign_plain (hd : d ≤ 20) (HP : p = posOf C.E l) (h : ∀ M, GoS C w d M (some (b, .cells #[.int .i64 0, .int .i64 0, .int .i64 p, .string ⟨#[]⟩, nilV] 60)) [] (.ok l) rows) (hcas : isE wCas (bindE (namE C.E (.ok l)).2 (takeT C.E [61])) = false) :
    Calls Tryz.prog 75 #[.pointer (some ⟨C.P, 0, none⟩), .pointer (some ⟨b, 0, none⟩)] w fun e w' => e = .returned (.tuple #[]) ∧ PreN C w' d (ubD d + 8) b p rows (assignT C.E d l) := by
  obtain ⟨M, hM⟩ : ∃ M, M = ubD d + 4 := ⟨_, rfl⟩
  have hM4 : 4000 ≤ M ∧ M ≤ 5000 := by rw [hM]; unfold ubD; omega
  have hg := h M
  have HC := Hid.out (p := Hid _) hg
  obtain ⟨hb, hbP⟩ := hg.bxc
  obtain ⟨b0, b1, b2, b3, b4, bf⟩ := box5 hb
  have hbP2 : ¬ C.P = b := fun e => hbP e.symm
  have HK := Hid.out (p := Hid _) hM4
  have HM := Hid.out (p := Hid _) hM
  have HX : Hid (∀ s w1 bx ps, GoS C w1 d M bx ps s rows → Calls Tryz.prog 73 #[.pointer (some ⟨C.P, 0, none⟩), .int .i64 0] w1 fun e w' => ∃ v, e = .returned (.int .i64 v) ∧ TrQ C w' d (M + 1) bx ps rows (bindL s (exprT C.E 0 d)) v) := fun s w1 bx ps hg1 =>
    gtree (err_expr9 0 (by omega)) hg1 (fun q _ => (rexpr_ctr q d hd).more (by omega)) (by omega)
  have HCA := Hid.out (p := Hid _) hcas
  obtain ⟨s2, hs2⟩ : ∃ s2, s2 = bindE (namE C.E (.ok l)).2 (takeT C.E [61]) := ⟨_, rfl⟩
  rw [← hs2] at hcas
  have HS2 := Hid.out (p := Hid _) hs2
  replace HCA := Hid.out (p := Hid _) hcas
  clear h hg hb hM hM4 hcas hs2
  go_enter Tryz.func75, Tryz.ntmps75
  go_wp2_with (first
    | (go_at_call 51; refine Calls.mono (gname (HC.out.set0 _) HK.out.1) ?_; rintro e w1 ⟨rfl, hg⟩; obtain ⟨hb, -⟩ := hg.bxc; obtain ⟨b0, b1, b2, b3, b4, bf⟩ := box5 hb; replace HC := Hid.out (p := Hid _) hg; clear hg hb)
    | (go_at_call 29; refine Calls.mono (gtake (HC.out.set3 _) HK.out.1 _) ?_; rintro e w2 ⟨rfl, hg⟩; replace hg : GoS C w2 d M _ [] (bindE (namE C.E (.ok l)).2 (takeT C.E [61])) rows := hg; rw [← HS2.out] at hg; replace HC := Hid.out (p := Hid _) hg; clear hg)
    | (go_at_call 29; refine Calls.mono (gtake ((HQ.out.go.set4 _).kids [v] 1 rfl (Nat.le_refl _) #[.int .i64 v] rfl (by decide) w4.heap.size (by rw [set_size])) (Nat.le_succ_of_le HK.out.1) _) ?_; rintro e w5 ⟨rfl, hg5⟩)
    | (go_at_call 26; refine Calls.mono (gis HC.out _) ?_; rintro e w3 ⟨rfl, hg⟩; rw [show isE (⟨#[99, 97, 115]⟩ : ByteArray).data.toList s2 = false from HCA.out]; replace HC := Hid.out (p := Hid _) hg; clear hg)
    | (go_at_call 73; refine Calls.mono (HX.out _ _ _ _ HC.out) ?_; rintro e w4 ⟨v, rfl, hq⟩; have hq := hq.st; obtain ⟨hb, -⟩ := hq.go.bxc; obtain ⟨b0, b1, b2, b3, b4, bf⟩ := box5 hb; have hbl := lt_of_cell b0; have HQ := Hid.out (p := Hid _) hq; clear hq hb))
  refine bodyPost_ret (results_none rfl _ _ _) rfl ?_
  refine ⟨rfl, 7, (namE C.E (.ok l)).1, _, _, _, _, _, _, hg5.more (by have := HM.out; omega), ?_⟩
  unfold MatN
  have hs2 := HS2.out
  have hq := HQ.out
  have hca := HCA.out
  rw [assignT_is, HP]
  simp only [namE] at hs2
  cases hn : nameT C.E l with
  | error f =>
    rw [hn] at hs2
    simp only [bindE] at hs2
    subst hs2
    rfl
  | ok y =>
    obtain ⟨s, r⟩ := y
    rw [hn] at hs2
    simp only [bindE, bindT, namE, hn] at hs2 ⊢
    cases ht : takeT C.E [61] r with
    | error f =>
      rw [ht] at hs2
      subst hs2
      rfl
    | ok r2 =>
      rw [ht] at hs2
      subst hs2
      simp only [bindL, isE] at hca hq ⊢
      rw [if_neg (by rw [hca]; decide)]
      unfold etT
      cases hx : exprT C.E 0 d r2 with
      | error f => rfl
      | ok y =>
        obtain ⟨x, q⟩ := y
        rw [hx] at hq
        have hv := hq.val x q rfl
        simp only [bindT, resE]
        cases ht2 : takeT C.E [59] q with
        | error f => simp only [bindL]
        | ok q2 =>
          simp only [bindL]
          refine ⟨trivial, [x], rfl, by simp [rowsE, flats], Or.inl ?_⟩
          rw [hv]
          exact List.mem_cons_self ..
set_option maxRecDepth 100000 in
set_option maxHeartbeats 3200000 in
/-- A name, '=', 'cas'. -/
theorem rassign_cas (hd : d ≤ 20) (HP : p = posOf C.E l) (h : ∀ M, GoS C w d M (some (b, .cells #[.int .i64 0, .int .i64 0, .int .i64 p, .string ⟨#[]⟩, nilV] 60)) [] (.ok l) rows) {s : List UInt8} {r r2 : List Tok} (hn : nameT C.E l = .ok (s, r)) (ht : takeT C.E [61] r = .ok r2) (hc : isTok wCas r2 = true) :
    Calls Tryz.prog 75 #[.pointer (some ⟨C.P, 0, none⟩), .pointer (some ⟨b, 0, none⟩)] w fun e w' => e = .returned (.tuple #[]) ∧ PreN C w' d (ubD d + 8) b p rows (assignT C.E d l) := by
  obtain ⟨M, hM⟩ : ∃ M, M = ubD d + 4 := ⟨_, rfl⟩
  have hM4 : 4000 ≤ M ∧ M ≤ 5000 := by rw [hM]; unfold ubD; omega
  have hg := h M
  have hfw := hg.fewR
  have hT := hg.few
  have HC := Hid.out (p := Hid _) hg
  obtain ⟨hb, hbP⟩ := hg.bxc
  obtain ⟨b0, b1, b2, b3, b4, bf⟩ := box5 hb
  have hbP2 : ¬ C.P = b := fun e => hbP e.symm
  have HK := Hid.out (p := Hid _) hM4
  have HM := Hid.out (p := Hid _) hM
  have HA : Hid (assignT C.E d l = bindL (openT C.E [40] d r2.tail) fun r => bindT (nameT C.E r) fun s2 q =>
        bindL (takeT C.E [44] q) fun q => etT C.E (d + 1) [44] q fun b q => etT C.E (d + 1) [41] q fun c q =>
          bindL (takeT C.E [59] q) fun q => .ok (.mk 8 0 (posOf C.E l) s [.mk 16 0 (posOf C.E r) s2 [], b, c], q)) := by
    show _ = _
    rw [assignT_is, hn]
    simp only [bindT]
    rw [ht]
    simp only [bindL]
    rw [if_pos hc]
    have hk : takeT C.E wCas r2 = .ok r2.tail := by unfold takeT; rw [if_pos hc]
    rw [hk]
  have HN : Hid ((namE C.E (.ok l)) = (s, .ok r)) := by show _ = _; simp only [namE, hn]
  have HT := Hid.out (p := Hid _) ht
  have HCA := Hid.out (p := Hid _) hc
  obtain ⟨r3, hr3⟩ : ∃ r3, r3 = r2.tail := ⟨_, rfl⟩
  rw [← hr3] at HA
  have HT3 : Hid (takeT C.E wCas r2 = .ok r3) := by show _ = _; unfold takeT; rw [if_pos hc, hr3]
  obtain ⟨s4, hs4⟩ : ∃ s4, s4 = openT C.E [40] d r3 := ⟨_, rfl⟩
  have HS4 := Hid.out (p := Hid _) hs4
  obtain ⟨s6, hs6⟩ : ∃ s6, s6 = bindE (namE C.E s4).2 (takeT C.E [44]) := ⟨_, rfl⟩
  have HS6 := Hid.out (p := Hid _) hs6
  obtain ⟨x7, hx7⟩ : ∃ x7, x7 = bindL s6 (exprT C.E 0 (d + 1)) := ⟨_, rfl⟩
  have HX7 := Hid.out (p := Hid _) hx7
  obtain ⟨s8, hs8⟩ : ∃ s8, s8 = bindE (resE x7) (takeT C.E [44]) := ⟨_, rfl⟩
  have HS8 := Hid.out (p := Hid _) hs8
  obtain ⟨x9, hx9⟩ : ∃ x9, x9 = bindL s8 (exprT C.E 0 (d + 1)) := ⟨_, rfl⟩
  have HX9 := Hid.out (p := Hid _) hx9
  have h20 : ∀ q, s4 = .ok q → d + 1 ≤ 20 := fun q hq => by have := (open_ok (hs4.symm.trans hq)).2.1; omega
  have h6 : ∀ q, s6 = .ok q → d + 1 ≤ 20 := fun q hq => by
    cases h4 : s4 with
    | error f => rw [hs6, h4] at hq; cases hq
    | ok q4 => exact h20 q4 h4
  have h8 : ∀ q, s8 = .ok q → d + 1 ≤ 20 := fun q hq => by
    cases h4 : s6 with
    | error f => rw [hs8, hx7, h4] at hq; cases hq
    | ok q4 => exact h6 q4 h4
  have hub : ∀ q, s4 = .ok q → ubD (d + 1) + 5 ≤ M := fun q hq => by have := h20 q hq; rw [hM]; unfold ubD; omega
  have hub6 : d + 1 ≤ 20 → ubD (d + 1) + 5 ≤ M := fun h => by rw [hM]; unfold ubD; omega
  have HXA : Hid (∀ w1 bx ps rs, GoS C w1 (d + 1) (M + 1) bx ps s6 rs → Calls Tryz.prog 73 #[.pointer (some ⟨C.P, 0, none⟩), .int .i64 0] w1 fun e w' => ∃ v, e = .returned (.int .i64 v) ∧ TrQ C w' (d + 1) (M + 2) bx ps rs x7 v) := fun w1 bx ps rs hg1 => by
    rw [hx7]
    exact gtree (err_expr9 0 (by omega)) hg1 (fun q hq => (rexpr_ctr q (d + 1) (h6 q hq)).more (by have := hub6 (h6 q hq); omega)) (by omega)
  have HXB : Hid (∀ w1 bx ps rs, GoS C w1 (d + 1) (M + 2) bx ps s8 rs → Calls Tryz.prog 73 #[.pointer (some ⟨C.P, 0, none⟩), .int .i64 0] w1 fun e w' => ∃ v, e = .returned (.int .i64 v) ∧ TrQ C w' (d + 1) (M + 3) bx ps rs x9 v) := fun w1 bx ps rs hg1 => by
    rw [hx9]
    exact gtree (err_expr9 0 (by omega)) hg1 (fun q hq => (rexpr_ctr q (d + 1) (h8 q hq)).more (by have := hub6 (h8 q hq); omega)) (by omega)
  have HFW : Hid (∀ q, (namE C.E s4).2 = .ok q → rows.length + 1 + q.length ≤ C.T.length) := fun q hq => by
    cases h4 : s4 with
    | error f => rw [h4] at hq; cases hq
    | ok q4 =>
      have e1 := open_len (hs4.symm.trans h4)
      have e2 := name_len hn
      have e3 := take_len ht
      have e4 := tail_le r2
      rw [h4] at hq
      simp only [namE] at hq
      split at hq
      · cases hq
      · rename_i z y hy
        cases hq
        have e5 := name_len hy
        rw [← hr3] at e4
        omega
  clear h hg hb hM hM4 hc ht hn hr3 hs4 hs6 hx7 hs8 hx9 h20 h6 h8 hub hub6
  go_enter Tryz.func75, Tryz.ntmps75
  go_wp2_with (first
    | (go_at_call 51; refine Calls.mono (gname (HC.out.set0 _) HK.out.1) ?_; rintro e w1 ⟨rfl, hg⟩; rw [HN.out] at hg ⊢; obtain ⟨hb, -⟩ := hg.bxc; obtain ⟨b0, b1, b2, b3, b4, bf⟩ := box5 hb; replace HC := Hid.out (p := Hid _) hg; clear hg hb)
    | (go_at_call 29; refine Calls.mono (gtake (HC.out.set3 _) HK.out.1 _) ?_; rintro e w2 ⟨rfl, hg⟩; replace hg : GoS C w2 d M _ [] (takeT C.E [61] r) rows := hg; rw [HT.out] at hg; replace HC := Hid.out (p := Hid _) hg; clear hg)
    | (go_at_call 26; refine Calls.mono (gis HC.out _) ?_; rintro e w3 ⟨rfl, hg⟩; rw [show isE (⟨#[99, 97, 115]⟩ : ByteArray).data.toList (.ok r2) = true from HCA.out]; obtain ⟨hb, -⟩ := hg.bxc; obtain ⟨b0, b1, b2, b3, b4, bf⟩ := box5 hb; replace HC := Hid.out (p := Hid _) hg; clear hg hb)
    | (go_at_call 29; refine Calls.mono (gtake (HC.out.set0 _) HK.out.1 _) ?_; rintro e w4 ⟨rfl, hg⟩; replace hg : GoS C w4 d M _ [] (takeT C.E wCas r2) rows := hg; rw [HT3.out] at hg; have HC4 := Hid.out (p := Hid _) hg; clear hg HC)
    | (go_at_call 53; refine Calls.mono (gopen HC4.out HK.out.1 hd _) ?_; rintro e w5 ⟨rfl, hg⟩; replace hg : GoS C w5 (d + 1) M _ [] (openT C.E [40] d r3) rows := hg; rw [← HS4.out] at hg; have HC5 := Hid.out (p := Hid _) hg; clear hg HC4)
    | (go_at_call 28; refine Calls.mono (gat HC5.out) ?_; rintro e w6 ⟨rfl, hg⟩; have HC6 := Hid.out (p := Hid _) hg; clear hg HC5)
    | (go_at_call 51; refine Calls.mono (gname HC6.out HK.out.1) ?_; rintro e w7 ⟨rfl, hg⟩; have HC7 := Hid.out (p := Hid _) hg; clear hg HC6)
    | (go_at_call 31; refine Calls.mono (gnode HC7.out (by have := HK.out; omega) _ _ _ _ [] _ _ _ (fun _ _ => Or.inr ⟨rfl, rfl⟩) HFW.out) ?_; rintro e w8 ⟨v8, rfl, hv8, hg⟩; have HC8 := Hid.out (p := Hid _) hg; have HV8 := Hid.out (p := Hid _) hv8; clear hg hv8 HC7)
    | (go_at_call 29; refine Calls.mono (gtake HC8.out (Nat.le_succ_of_le HK.out.1) _) ?_; rintro e w9 ⟨rfl, hg⟩; replace hg : GoS C w9 (d + 1) (M + 1) _ [] (bindE (namE C.E s4).2 (takeT C.E [44])) _ := hg; rw [← HS6.out] at hg; have HC9 := Hid.out (p := Hid _) hg; clear hg HC8)
    | (go_at_call 73; refine Calls.mono (HXA.out _ _ _ _ HC9.out) ?_; rintro e w10 ⟨v10, rfl, hq⟩; have hq := hq.st; have HC10 := Hid.out (p := Hid _) hq; clear hq HC9)
    | (go_at_call 29; refine Calls.mono (gtake HC10.out.go (by have := HK.out; omega) _) ?_; rintro e w11 ⟨rfl, hg⟩; replace hg : GoS C w11 (d + 1) (M + 2) _ [] (bindE (resE x7) (takeT C.E [44])) _ := hg; rw [← HS8.out] at hg; have HC11 := Hid.out (p := Hid _) hg; have HV10 := Hid.out (p := Hid _) HC10.out.val; clear hg HC10)
    | (go_at_call 73; refine Calls.mono (HXB.out _ _ _ _ HC11.out) ?_; rintro e w12 ⟨v12, rfl, hq⟩; have hq := hq.st; have HC12 := Hid.out (p := Hid _) hq; clear hq HC11)
    | (go_at_call 55; refine Calls.mono (gshut HC12.out.go (by have := HK.out; omega) hd _) ?_; rintro e w13 ⟨rfl, hg⟩; have HC13 := Hid.out (p := Hid _) hg; have HV12 := Hid.out (p := Hid _) HC12.out.val; clear hg HC12)
    | (go_at_call 29; refine Calls.mono (gtake HC13.out (by have := HK.out; omega) _) ?_; rintro e w14 ⟨rfl, hg⟩; obtain ⟨hb, -⟩ := hg.bxc; obtain ⟨b0, b1, b2, b3, b4, bf⟩ := box5 hb; have hbl := lt_of_cell b0; have HC14 := Hid.out (p := Hid _) hg; clear hg hb HC13))
  go_end0
  have hfin := (HC14.out.set4 (.slice (some ⟨w14.heap.size, 0, none⟩) 3 3)).kids [v8, v10, v12] 3 rfl (by decide) #[.int .i64 v8, .int .i64 v10, .int .i64 v12] rfl (by decide) w14.heap.size (by rw [set_size])
  refine ⟨rfl, 8, s, _, _, _, _, _, _, hfin.more (by have := HM.out; omega), ?_⟩
  unfold MatN
  have hv8 := HV8.out
  have hv10 := HV10.out
  have hv12 := HV12.out
  clear hfin HC14
  rw [HX9.out, HS8.out, HX7.out, HS6.out] at hv12 ⊢
  rw [HX7.out, HS6.out] at hv10
  rw [HS4.out] at hv8 hv10 hv12 ⊢
  rw [HA.out, HP]
  cases ho : openT C.E [40] d r3 with
  | error f => rfl
  | ok q4 =>
    simp only [bindL, namE]
    rw [ho] at hv8 hv10 hv12
    cases hn : nameT C.E q4 with
    | error f => rfl
    | ok y =>
      obtain ⟨s2, q5⟩ := y
      simp only [namE, hn] at hv8 hv10 hv12
      simp only [bindT, bindE] at hv10 hv12 ⊢
      cases ht1 : takeT C.E [44] q5 with
      | error f => rfl
      | ok q6 =>
        rw [ht1] at hv10 hv12
        simp only [bindL, etT] at hv10 hv12 ⊢
        cases hx1 : exprT C.E 0 (d + 1) q6 with
        | error f => rfl
        | ok y =>
          obtain ⟨x, q7⟩ := y
          rw [hx1] at hv12
          simp only [bindT, resE] at hv12 ⊢
          cases ht2 : takeT C.E [44] q7 with
          | error f => rfl
          | ok q8 =>
            rw [ht2] at hv12
            simp only at hv12 ⊢
            cases hx2 : exprT C.E 0 (d + 1) q8 with
            | error f => rfl
            | ok y =>
              obtain ⟨z, q9⟩ := y
              simp only
              cases ht3 : takeT C.E [41] q9 with
              | error f => rfl
              | ok q10 =>
                simp only
                cases ht4 : takeT C.E [59] q10 with
                | error f => rfl
                | ok q11 =>
                  simp only
                  have e8 := hv8 q5 rfl
                  have e10 := hv10 x q7 hx1
                  have e12 := hv12 z q9 hx2
                  refine ⟨trivial, [.mk 16 0 (posOf C.E q4) s2 [], x, z], rfl, ?_, Or.inl ?_⟩
                  · simp [rowsE, flats, flat, ndSize, ndsSize, idxs, posE, flat_len, List.append_assoc, Nat.add_assoc]
                    rw [Nat.add_comm (ndSize x) 1]
                  · rw [e8, e10, e12]
                    refine List.mem_cons.2 (Or.inl ?_)
                    simp [idxs, ndSize, ndsSize, rowsE, flat_len, Nat.add_assoc]
                    omega
/-- What is assigned. -/
theorem rassign_any (hd : d ≤ 20) (HP : p = posOf C.E l) (h : ∀ M, GoS C w d M (some (b, .cells #[.int .i64 0, .int .i64 0, .int .i64 p, .string ⟨#[]⟩, nilV] 60)) [] (.ok l) rows) :
    Calls Tryz.prog 75 #[.pointer (some ⟨C.P, 0, none⟩), .pointer (some ⟨b, 0, none⟩)] w fun e w' => e = .returned (.tuple #[]) ∧ PreN C w' d (ubD d + 8) b p rows (assignT C.E d l) := by
  by_cases hc : isE wCas (bindE (namE C.E (.ok l)).2 (takeT C.E [61])) = true
  · cases hn : nameT C.E l with
    | error f => simp only [namE, hn, bindE, isE] at hc; cases hc
    | ok y =>
      obtain ⟨s, r⟩ := y
      cases ht : takeT C.E [61] r with
      | error f => simp only [namE, hn, bindE, ht, isE] at hc; cases hc
      | ok r2 =>
        simp only [namE, hn, bindE, ht, isE] at hc
        exact rassign_cas hd HP h hn ht hc
  · exact rassign_plain hd HP h (by simpa using hc)
end
end

section
open Go.RowKit

section
variable {E : Int} {d : Nat}
set_option maxRecDepth 100000 in
set_option maxHeartbeats 3200000 in
theorem rstmt_lock (hd : d ≤ 20) {t : Tok} {r : List Tok} (hk : t.kind = 2) (hw : t.text = wLock) : Ctr 54 [] E d (t :: r) (stmtT E d (t :: r)) (ubD d + 9) := by
  refine ctr_of fun C w rows hE _ hg => ?_
  subst hE
  obtain ⟨M, hM⟩ : ∃ M, M = ubD d + 4 := ⟨_, rfl⟩
  have hM4 : 4000 ≤ M ∧ M ≤ 5000 := by rw [hM]; unfold ubD; omega
  have hfw := (hg M).fewR
  have hT := (hg M).few
  have HC := Hid.out (p := Hid _) (hg M)
  have HK := Hid.out (p := Hid _) hM4
  have HM := Hid.out (p := Hid _) hM
  have HTK : Hid (takeT C.E wLock (t :: r) = .ok r) := by
    show _ = _
    unfold takeT
    rw [if_pos (by simp [isTok, hk, hw])]
    rfl
  have HWO : Hid (wordOf (t :: r) = wLock) := by show _ = _; rw [wordOf, if_pos hk, hw]
  obtain ⟨R, hR⟩ : ∃ R, R = stmtT C.E d (t :: r) := ⟨_, rfl⟩
  rw [← hR]
  have HRS : Hid (∀ x q, R = .ok (x, q) → rows.length + ndSize x + q.length ≤ C.T.length) := fun x q hx => by
    obtain ⟨n, y, hy⟩ := (tl_stmt (e := C.E) d (t :: r)).tot
    have h3 := tld_is (st_up d (t :: r)) hy
    have h4 := (stmt_size n).1 _ _ _ _ (hy.trans (congrArg some (h3.symm.trans (hR.symm.trans hx))))
    omega
  have HR := Hid.out (p := Hid _) hR
  have HMA : Hid (MatN rows R 12 t.pos (namE C.E (openT C.E [40] d r)).1 nilV [] (bindE (bindE (namE C.E (openT C.E [40] d r)).2 (takeT C.E [41])) (takeT C.E [59])) rows) := by
    show MatN rows R 12 t.pos (namE C.E (openT C.E [40] d r)).1 nilV [] (bindE (bindE (namE C.E (openT C.E [40] d r)).2 (takeT C.E [41])) (takeT C.E [59])) rows
    rw [hR, stmtT_is, HWO.out, if_neg (by decide), if_neg (by decide), if_neg (by decide), if_neg (by decide), if_pos (Or.inl rfl), if_pos rfl, List.tail_cons]
    cases ho : openT C.E [40] d r with
    | error f => rfl
    | ok q1 =>
      simp only [bindL, namE]
      cases hn : nameT C.E q1 with
      | error f => rfl
      | ok y =>
        obtain ⟨s, q2⟩ := y
        simp only [bindT, bindE]
        cases ht : takeT C.E [41] q2 with
        | error f => rfl
        | ok q3 =>
          simp only
          cases ht2 : takeT C.E [59] q3 with
          | error f => rfl
          | ok q4 => exact ⟨rfl, [], rfl, by simp [flats], Or.inr ⟨rfl, rfl⟩⟩
  clear hg hR hM hM4
  go_enter Tryz.func54, Tryz.ntmps54
  go_wp2_with (go_at_call 28; refine Calls.mono (gat HC.out) ?_; rintro e w1 ⟨rfl, hg⟩; replace HC := Hid.out (p := Hid _) hg; clear hg)
  rw [show posE C.E (.ok (t :: r)) = t.pos from rfl]
  obtain ⟨i, d1, lv, a, hps, hil, _⟩ := HC.out.ps9
  obtain ⟨hi, -⟩ := hil _ rfl
  have hle := hps.le
  have hP := hps.lt
  have c0 := hps.c0
  have c2 := hps.c2
  obtain ⟨ta, tc, htv⟩ := hps.toks.form
  have htk := hps.toks
  rw [htv] at c0 htk
  have hlt : i < C.T.length := by
    rcases Nat.lt_or_ge i C.T.length with h1 | h1
    · exact h1
    · rw [List.drop_eq_nil_of_le h1] at hi; cases hi
  have hgd := getD_drop hlt
  rw [hi] at hgd
  simp only [List.cons.injEq] at hgd
  obtain ⟨g, rfl, t0, t1, t2, t3⟩ := htk.cells hlt
  have hlt' : (i : Int) < (C.T.length : Int) := by omega
  rw [← hgd.1] at t0 t1 t2 t3
  rw [hk] at t0
  rw [hw] at t3
  have hgl : g < w1.heap.size := lt_of_cell t0
  replace HC : Hid (GoS C (w1.drew.drew.alloc (.cells #[.int .i64 0, .int .i64 0, .int .i64 t.pos, .string ⟨#[]⟩, nilV] 60)) d M (some (w1.heap.size, .cells #[.int .i64 0, .int .i64 0, .int .i64 t.pos, .string ⟨#[]⟩, nilV] 60)) [] (.ok (t :: r)) rows) := (HC.out.below (Below.refl _ _).drew.drew).box _
  clear hil hps htk hgd hi
  go_region
  go_wp2_with fail
  go_region
  go_wp2_with (first
    | (go_at_call 29; refine Calls.mono (gtake HC.out HK.out.1 _) ?_; rintro e w2 ⟨rfl, hg⟩; replace hg : GoS C w2 d M _ [] (takeT C.E wLock (t :: r)) rows := hg; rw [HTK.out] at hg; obtain ⟨hb, hbP⟩ := hg.bxc; have hbP2 : ¬ C.P = _ := (fun e => hbP e.symm); obtain ⟨b0, b1, b2, b3, b4, bf⟩ := box5 hb; have hbl := lt_of_cell b0; have HC2 := Hid.out (p := Hid _) hg; clear hg hb HC)
    | (go_at_call 53; refine Calls.mono (gopen (HC2.out.set0 _) HK.out.1 hd _) ?_; rintro e w3 ⟨rfl, hg⟩; have HC3 := Hid.out (p := Hid _) hg; clear hg HC2)
    | (go_at_call 51; refine Calls.mono (gname HC3.out HK.out.1) ?_; rintro e w4 ⟨rfl, hg⟩; obtain ⟨hb, hbP⟩ := hg.bxc; have hbP2 : ¬ C.P = _ := (fun e => hbP e.symm); obtain ⟨b0, b1, b2, b3, b4, bf⟩ := box5 hb; have hbl := lt_of_cell b0; have HC4 := Hid.out (p := Hid _) hg; clear hg hb HC3)
    | (go_at_call 55; refine Calls.mono (gshut (HC4.out.set3 _) HK.out.1 hd _) ?_; rintro e w5 ⟨rfl, hg⟩; have HC5 := Hid.out (p := Hid _) hg; clear hg HC4)
    | (go_at_call 29; refine Calls.mono (gtake HC5.out HK.out.1 _) ?_; rintro e w6 ⟨rfl, hg⟩; obtain ⟨hb, hbP⟩ := hg.bxc; have hbP2 : ¬ C.P = _ := (fun e => hbP e.symm); obtain ⟨b0, b1, b2, b3, b4, bf⟩ := box5 hb; have hbl := lt_of_cell b0; have HC6 := Hid.out (p := Hid _) hg; clear hg hb HC5)
    | (go_at_call 31; refine Calls.mono (pre_node HC6.out HMA.out (by have := HK.out; omega) HRS.out) ?_; rintro e w9 ⟨v9, rfl, hq9⟩; skip))
  go_ret
  exact ⟨v9, rfl, hq9.more (by have := HM.out; omega)⟩
set_option maxRecDepth 100000 in
set_option maxHeartbeats 3200000 in
theorem rstmt_unlock (hd : d ≤ 20) {t : Tok} {r : List Tok} (hk : t.kind = 2) (hw : t.text = wUnlock) : Ctr 54 [] E d (t :: r) (stmtT E d (t :: r)) (ubD d + 9) := by
  refine ctr_of fun C w rows hE _ hg => ?_
  subst hE
  obtain ⟨M, hM⟩ : ∃ M, M = ubD d + 4 := ⟨_, rfl⟩
  have hM4 : 4000 ≤ M ∧ M ≤ 5000 := by rw [hM]; unfold ubD; omega
  have hfw := (hg M).fewR
  have hT := (hg M).few
  have HC := Hid.out (p := Hid _) (hg M)
  have HK := Hid.out (p := Hid _) hM4
  have HM := Hid.out (p := Hid _) hM
  have HTK : Hid (takeT C.E wUnlock (t :: r) = .ok r) := by
    show _ = _
    unfold takeT
    rw [if_pos (by simp [isTok, hk, hw])]
    rfl
  have HWO : Hid (wordOf (t :: r) = wUnlock) := by show _ = _; rw [wordOf, if_pos hk, hw]
  obtain ⟨R, hR⟩ : ∃ R, R = stmtT C.E d (t :: r) := ⟨_, rfl⟩
  rw [← hR]
  have HRS : Hid (∀ x q, R = .ok (x, q) → rows.length + ndSize x + q.length ≤ C.T.length) := fun x q hx => by
    obtain ⟨n, y, hy⟩ := (tl_stmt (e := C.E) d (t :: r)).tot
    have h3 := tld_is (st_up d (t :: r)) hy
    have h4 := (stmt_size n).1 _ _ _ _ (hy.trans (congrArg some (h3.symm.trans (hR.symm.trans hx))))
    omega
  have HR := Hid.out (p := Hid _) hR
  have HMA : Hid (MatN rows R 13 t.pos (namE C.E (openT C.E [40] d r)).1 nilV [] (bindE (bindE (namE C.E (openT C.E [40] d r)).2 (takeT C.E [41])) (takeT C.E [59])) rows) := by
    show MatN rows R 13 t.pos (namE C.E (openT C.E [40] d r)).1 nilV [] (bindE (bindE (namE C.E (openT C.E [40] d r)).2 (takeT C.E [41])) (takeT C.E [59])) rows
    rw [hR, stmtT_is, HWO.out, if_neg (by decide), if_neg (by decide), if_neg (by decide), if_neg (by decide), if_pos (Or.inr rfl), if_neg (by decide), List.tail_cons]
    cases ho : openT C.E [40] d r with
    | error f => rfl
    | ok q1 =>
      simp only [bindL, namE]
      cases hn : nameT C.E q1 with
      | error f => rfl
      | ok y =>
        obtain ⟨s, q2⟩ := y
        simp only [bindT, bindE]
        cases ht : takeT C.E [41] q2 with
        | error f => rfl
        | ok q3 =>
          simp only
          cases ht2 : takeT C.E [59] q3 with
          | error f => rfl
          | ok q4 => exact ⟨rfl, [], rfl, by simp [flats], Or.inr ⟨rfl, rfl⟩⟩
  clear hg hR hM hM4
  go_enter Tryz.func54, Tryz.ntmps54
  go_wp2_with (go_at_call 28; refine Calls.mono (gat HC.out) ?_; rintro e w1 ⟨rfl, hg⟩; replace HC := Hid.out (p := Hid _) hg; clear hg)
  rw [show posE C.E (.ok (t :: r)) = t.pos from rfl]
  obtain ⟨i, d1, lv, a, hps, hil, _⟩ := HC.out.ps9
  obtain ⟨hi, -⟩ := hil _ rfl
  have hle := hps.le
  have hP := hps.lt
  have c0 := hps.c0
  have c2 := hps.c2
  obtain ⟨ta, tc, htv⟩ := hps.toks.form
  have htk := hps.toks
  rw [htv] at c0 htk
  have hlt : i < C.T.length := by
    rcases Nat.lt_or_ge i C.T.length with h1 | h1
    · exact h1
    · rw [List.drop_eq_nil_of_le h1] at hi; cases hi
  have hgd := getD_drop hlt
  rw [hi] at hgd
  simp only [List.cons.injEq] at hgd
  obtain ⟨g, rfl, t0, t1, t2, t3⟩ := htk.cells hlt
  have hlt' : (i : Int) < (C.T.length : Int) := by omega
  rw [← hgd.1] at t0 t1 t2 t3
  rw [hk] at t0
  rw [hw] at t3
  have hgl : g < w1.heap.size := lt_of_cell t0
  replace HC : Hid (GoS C (w1.drew.drew.alloc (.cells #[.int .i64 0, .int .i64 0, .int .i64 t.pos, .string ⟨#[]⟩, nilV] 60)) d M (some (w1.heap.size, .cells #[.int .i64 0, .int .i64 0, .int .i64 t.pos, .string ⟨#[]⟩, nilV] 60)) [] (.ok (t :: r)) rows) := (HC.out.below (Below.refl _ _).drew.drew).box _
  clear hil hps htk hgd hi
  go_region
  go_wp2_with fail
  go_region
  go_wp2_with (first
    | (go_at_call 29; refine Calls.mono (gtake HC.out HK.out.1 _) ?_; rintro e w2 ⟨rfl, hg⟩; replace hg : GoS C w2 d M _ [] (takeT C.E wUnlock (t :: r)) rows := hg; rw [HTK.out] at hg; obtain ⟨hb, hbP⟩ := hg.bxc; have hbP2 : ¬ C.P = _ := (fun e => hbP e.symm); obtain ⟨b0, b1, b2, b3, b4, bf⟩ := box5 hb; have hbl := lt_of_cell b0; have HC2 := Hid.out (p := Hid _) hg; clear hg hb HC)
    | (go_at_call 53; refine Calls.mono (gopen ((HC2.out.set0 _).set0 _) HK.out.1 hd _) ?_; rintro e w3 ⟨rfl, hg⟩; have HC3 := Hid.out (p := Hid _) hg; clear hg HC2)
    | (go_at_call 51; refine Calls.mono (gname HC3.out HK.out.1) ?_; rintro e w4 ⟨rfl, hg⟩; obtain ⟨hb, hbP⟩ := hg.bxc; have hbP2 : ¬ C.P = _ := (fun e => hbP e.symm); obtain ⟨b0, b1, b2, b3, b4, bf⟩ := box5 hb; have hbl := lt_of_cell b0; have HC4 := Hid.out (p := Hid _) hg; clear hg hb HC3)
    | (go_at_call 55; refine Calls.mono (gshut (HC4.out.set3 _) HK.out.1 hd _) ?_; rintro e w5 ⟨rfl, hg⟩; have HC5 := Hid.out (p := Hid _) hg; clear hg HC4)
    | (go_at_call 29; refine Calls.mono (gtake HC5.out HK.out.1 _) ?_; rintro e w6 ⟨rfl, hg⟩; obtain ⟨hb, hbP⟩ := hg.bxc; have hbP2 : ¬ C.P = _ := (fun e => hbP e.symm); obtain ⟨b0, b1, b2, b3, b4, bf⟩ := box5 hb; have hbl := lt_of_cell b0; have HC6 := Hid.out (p := Hid _) hg; clear hg hb HC5)
    | (go_at_call 31; refine Calls.mono (pre_node HC6.out HMA.out (by have := HK.out; omega) HRS.out) ?_; rintro e w9 ⟨v9, rfl, hq9⟩; skip))
  go_ret
  exact ⟨v9, rfl, hq9.more (by have := HM.out; omega)⟩
end
end

end Go.Proofs.YtggfbfjdiikaeaaGreatDoor
