/-
  The document's parser: globals.
-/
import Derived.Test.YtggfbfjdiikaeaaGreatDoorSynG5
namespace Go.Proofs.YtggfbfjdiikaeaaGreatDoor
open Go.RowKit

section
variable {E : Int} {l : List Tok}
theorem gfail {C : Cx9} {w : World} {d M : Nat} {bx : Option (Nat × Obj)} {ps : List (List Int × Value)} {s : Except (Int × Int) (List Tok)} {rows : List Row} (h : GoS C w d M bx ps s rows) (hM : 4000 ≤ M) (code : Int) (hc : code ≠ 0) :
    Calls Tryz.prog 52 #[.pointer (some ⟨C.P, 0, none⟩), .int .i64 code] w fun e w' => e = .returned (.int .i64 0) ∧ GoS C w' d M bx ps (bindE s fun l => .error (code, posOf C.E l)) rows := by
  obtain ⟨lv, h⟩ := h
  obtain ⟨d1, ys, h1, h2, h3⟩ := h.st.aft
  refine (rfail_aft h1 code hc).mono ?_
  rintro e w' ⟨rfl, ha, ho⟩
  refine ⟨rfl, h.only (d' := d) ho ha (fun l' hl => ?_) hM⟩
  match s, hl with
  | .ok l, hl => cases hl
  | .error q, hl => cases hl
/-- What one more node without kids leaves. -/
theorem trq_leaf {C : Cx9} {w : World} {M : Nat} {rows : List Row} {R : TRes Nd} {k n p v : Int} {t : List UInt8} {s : Except (Int × Int) (List Tok)} (hv : ∀ q, s = .ok q → v = (rows.length : Int)) (hg : GoS C w 0 M none [] s (rows ++ [⟨k, n, p, t, []⟩])) (hR : match s with
    | .ok q => R = .ok (.mk k n p t [], q)
    | .error q => R = .error q) {M' : Nat} (hM : M ≤ M') : TrQ C w 0 M' none [] rows R v := by
  match s, hR, hg, hv with
  | .ok q, hR, hg, hv =>
    rw [hR]
    refine ⟨?_, ?_⟩
    · rw [hv q rfl, size_none]; omega
    · simpa [flat, flats, idxs] using hg.any M'
  | .error q, hR, hg, _ =>
    rw [hR]
    exact (hg.more hM).err _ _
set_option maxRecDepth 100000 in
set_option maxHeartbeats 3200000 in
theorem rglobal_lock (hl : isTok wLock l = true) : Ctr 27 [] E 0 l (globalT E l) 4010 := by
  refine ctr_of fun C w rows hE _ hg => ?_
  subst hE
  have hfw := (hg 4000).fewR
  have hT := (hg 4000).few
  have HC := Hid.out (p := Hid _) (hg 4000)
  obtain ⟨R, hR⟩ : ∃ R, R = globalT C.E l := ⟨_, rfl⟩
  rw [← hR]
  have HT1 : Hid (takeT C.E wLock l = .ok l.tail) := by show _ = _; unfold takeT; rw [if_pos hl]
  have HL := Hid.out (p := Hid _) hl
  have HFW : Hid (∀ q, bindE (namE C.E (.ok l.tail)).2 (takeT C.E [59]) = .ok q → rows.length + 1 + q.length ≤ C.T.length) := fun q hq => by
    have h1 := is_len hl
    simp only [namE] at hq
    cases hn : nameT C.E l.tail with
    | error f => rw [hn] at hq; cases hq
    | ok y =>
      obtain ⟨s, r⟩ := y
      rw [hn] at hq
      have h2 := name_len hn
      have h3 := take_len hq
      omega
  have HRR : Hid (match bindE (namE C.E (.ok l.tail)).2 (takeT C.E [59]) with
    | .ok q => R = .ok (.mk 3 0 (posOf C.E l) (namE C.E (.ok l.tail)).1 [], q)
    | .error q => R = .error q) := by
    have h0 := hR
    rw [globalT, if_pos hl] at h0
    show match bindE (namE C.E (.ok l.tail)).2 (takeT C.E [59]) with
      | .ok q => R = .ok (.mk 3 0 (posOf C.E l) (namE C.E (.ok l.tail)).1 [], q)
      | .error q => R = .error q
    simp only [namE]
    cases hn : nameT C.E l.tail with
    | error f => rw [hn] at h0; exact h0
    | ok y =>
      obtain ⟨s, r⟩ := y
      rw [hn] at h0
      simp only [bindE] at h0 ⊢
      cases ht : takeT C.E [59] r with
      | error f => rw [ht] at h0; exact h0
      | ok q => rw [ht] at h0; exact h0
  clear hg hR hl
  go_enter Tryz.func27, Tryz.ntmps27
  go_wp2_with (first
    | (go_at_call 28; refine Calls.mono (gat HC.out) ?_; rintro e w1 ⟨rfl, hg⟩; rw [show posE C.E (.ok l) = posOf C.E l from rfl]; replace HC := Hid.out (p := Hid _) hg; clear hg)
    | (go_at_call 26; refine Calls.mono (gis HC.out _) ?_; rintro e w2 ⟨rfl, hg⟩; rw [show isE (⟨#[108, 111, 99, 107]⟩ : ByteArray).data.toList (.ok l) = true from HL.out]; have HC2 := Hid.out (p := Hid _) hg; clear hg HC)
    | (go_at_call 29; refine Calls.mono (gtake HC2.out (Nat.le_refl _) _) ?_; rintro e w3 ⟨rfl, hg⟩; replace hg : GoS C w3 0 4000 _ [] (takeT C.E wLock l) rows := hg; rw [HT1.out] at hg; have HC3 := Hid.out (p := Hid _) hg; clear hg HC2)
    | (go_at_call 51; refine Calls.mono (gname HC3.out (Nat.le_refl _)) ?_; rintro e w4 ⟨rfl, hg⟩; have HC4 := Hid.out (p := Hid _) hg; clear hg HC3)
    | (go_at_call 29; refine Calls.mono (gtake HC4.out (Nat.le_refl _) _) ?_; rintro e w5 ⟨rfl, hg⟩; have HC5 := Hid.out (p := Hid _) hg; clear hg HC4)
    | (go_at_call 31; refine Calls.mono (gnode HC5.out (by decide) _ _ _ _ [] _ _ _ (fun _ _ => Or.inr ⟨rfl, rfl⟩) HFW.out) ?_; rintro e w9 ⟨v9, rfl, hv9, hg9⟩; skip))
  go_ret
  exact ⟨v9, rfl, trq_leaf hv9 hg9 HRR.out (by decide)⟩
set_option maxRecDepth 100000 in
set_option maxHeartbeats 3200000 in
theorem rglobal_int (hl : isTok wInt l = true) (heq : isE [61] (namE E (.ok l.tail)).2 = false) : Ctr 27 [] E 0 l (globalT E l) 4010 := by
  refine ctr_of fun C w rows hE _ hg => ?_
  subst hE
  have hfw := (hg 4000).fewR
  have hT := (hg 4000).few
  have HC := Hid.out (p := Hid _) (hg 4000)
  obtain ⟨R, hR⟩ : ∃ R, R = globalT C.E l := ⟨_, rfl⟩
  rw [← hR]
  have HT1 : Hid (takeT C.E wInt l = .ok l.tail) := by show _ = _; unfold takeT; rw [if_pos hl]
  have hlk : isTok wLock l = false := is_alone hl (by decide)
  have HL := Hid.out (p := Hid _) hlk
  have HEQ := Hid.out (p := Hid _) heq
  have HFW : Hid (∀ q, bindE (namE C.E (.ok l.tail)).2 (takeT C.E [59]) = .ok q → rows.length + 1 + q.length ≤ C.T.length) := fun q hq => by
    have h1 := is_len hl
    simp only [namE] at hq
    cases hn : nameT C.E l.tail with
    | error f => rw [hn] at hq; cases hq
    | ok y =>
      obtain ⟨s, r⟩ := y
      rw [hn] at hq
      have h2 := name_len hn
      have h3 := take_len hq
      omega
  have HRR : Hid (match bindE (namE C.E (.ok l.tail)).2 (takeT C.E [59]) with
    | .ok q => R = .ok (.mk 2 0 (posOf C.E l) (namE C.E (.ok l.tail)).1 [], q)
    | .error q => R = .error q) := by
    have h0 := hR
    rw [globalT, if_neg (by rw [hlk]; decide), HT1.out] at h0
    simp only at h0
    show match bindE (namE C.E (.ok l.tail)).2 (takeT C.E [59]) with
      | .ok q => R = .ok (.mk 2 0 (posOf C.E l) (namE C.E (.ok l.tail)).1 [], q)
      | .error q => R = .error q
    simp only [namE] at heq ⊢
    cases hn : nameT C.E l.tail with
    | error f => rw [hn] at h0; exact h0
    | ok y =>
      obtain ⟨s, r⟩ := y
      rw [hn] at h0 heq
      simp only [isE] at heq
      simp only [bindE, heq, Bool.false_eq_true, if_false] at h0 ⊢
      cases ht : takeT C.E [59] r with
      | error f => rw [ht] at h0; exact h0
      | ok q => rw [ht] at h0; exact h0
  clear hg hR hl heq hlk
  go_enter Tryz.func27, Tryz.ntmps27
  go_wp2_with (first
    | (go_at_call 28; refine Calls.mono (gat HC.out) ?_; rintro e w1 ⟨rfl, hg⟩; rw [show posE C.E (.ok l) = posOf C.E l from rfl]; replace HC := Hid.out (p := Hid _) hg; clear hg)
    | (go_at_call 26; refine Calls.mono (gis HC.out _) ?_; rintro e w2 ⟨rfl, hg⟩; rw [show isE (⟨#[108, 111, 99, 107]⟩ : ByteArray).data.toList (.ok l) = false from HL.out]; have HC2 := Hid.out (p := Hid _) hg; clear hg HC)
    | (go_at_call 29; refine Calls.mono (gtake HC2.out (Nat.le_refl _) _) ?_; rintro e w3 ⟨rfl, hg⟩; replace hg : GoS C w3 0 4000 _ [] (takeT C.E wInt l) rows := hg; rw [HT1.out] at hg; have HC3 := Hid.out (p := Hid _) hg; clear hg HC2)
    | (go_at_call 51; refine Calls.mono (gname HC3.out (Nat.le_refl _)) ?_; rintro e w4 ⟨rfl, hg⟩; have HC4 := Hid.out (p := Hid _) hg; clear hg HC3)
    | (go_at_call 26; refine Calls.mono (gis HC4.out _) ?_; rintro e w5 ⟨rfl, hg⟩; rw [show isE (⟨#[61]⟩ : ByteArray).data.toList (namE C.E (.ok l.tail)).2 = false from HEQ.out]; have HC5 := Hid.out (p := Hid _) hg; clear hg HC4)
    | (go_at_call 29; refine Calls.mono (gtake HC5.out (Nat.le_refl _) _) ?_; rintro e w6 ⟨rfl, hg⟩; have HC6 := Hid.out (p := Hid _) hg; clear hg HC5)
    | (go_at_call 31; refine Calls.mono (gnode HC6.out (by decide) _ _ _ _ [] _ _ _ (fun _ _ => Or.inr ⟨rfl, rfl⟩) HFW.out) ?_; rintro e w9 ⟨v9, rfl, hv9, hg9⟩; skip))
  go_ret
  exact ⟨v9, rfl, trq_leaf hv9 hg9 HRR.out (by decide)⟩
set_option maxRecDepth 100000 in
set_option maxHeartbeats 3200000 in
theorem rglobal_neg_num (hl : isTok wInt l = true) {s : List UInt8} {r : List Tok} (hn : nameT E l.tail = .ok (s, r)) (heq : isTok [61] r = true) (hm : isTok [45] r.tail = true) {tk : Tok} {r3 : List Tok} (h2 : r.tail.tail = tk :: r3) (hk : tk.kind = 3) (hnn : 0 ≤ tk.num ∧ tk.num ≤ 999999999) : Ctr 27 [] E 0 l (globalT E l) 4010 := by
  refine ctr_of fun C w rows hE _ hg => ?_
  subst hE
  have hfw := (hg 4000).fewR
  have hT := (hg 4000).few
  have HC := Hid.out (p := Hid _) (hg 4000)
  obtain ⟨R, hR⟩ : ∃ R, R = globalT C.E l := ⟨_, rfl⟩
  rw [← hR]
  have HT1 : Hid (takeT C.E wInt l = .ok l.tail) := by show _ = _; unfold takeT; rw [if_pos hl]
  have hlk : isTok wLock l = false := is_alone hl (by decide)
  have HL := Hid.out (p := Hid _) hlk
  have HN : Hid (namE C.E (.ok l.tail) = (s, .ok r)) := by show _ = _; simp only [namE, hn]
  have HEQ := Hid.out (p := Hid _) heq
  have HM := Hid.out (p := Hid _) hm
  have HT2 : Hid (takeT C.E [61] r = .ok r.tail) := by show _ = _; unfold takeT; rw [if_pos heq]
  obtain ⟨r2, hr2⟩ : ∃ r2, r2 = r.tail.tail := ⟨_, rfl⟩
  rw [← hr2] at h2
  have HT3 : Hid (takeT C.E [45] r.tail = .ok r2) := by show _ = _; unfold takeT; rw [if_pos hm, hr2]
  have hlen : r2.length + 1 < l.length := by
    have h1 := is_len hl
    have h3 := name_len hn
    have h4 := is_len heq
    have h5 := tail_le r.tail
    rw [hr2]
    omega
  have HFW : Hid (∀ q, takeT C.E [59] r3 = .ok q → rows.length + 1 + q.length ≤ C.T.length) := fun q hq => by
    have h6 := take_len hq
    rw [h2] at hlen
    simp only [List.length_cons] at hlen
    omega
  have htn : tnumT C.E r2 = .ok (tk.num, r3) := by rw [h2, tnumT, if_pos hk]
  have HRR : Hid (match takeT C.E [59] r3 with
    | .ok q => R = .ok (.mk 2 (-tk.num) (posOf C.E l) s [], q)
    | .error q => R = .error q) := by
    have h0 := hR
    rw [globalT, if_neg (by rw [hlk]; decide), HT1.out] at h0
    simp only [hn] at h0
    rw [if_pos heq] at h0
    simp only [hm, if_true] at h0
    rw [← hr2, htn] at h0
    simp only at h0
    show match takeT C.E [59] r3 with
      | .ok q => R = .ok (.mk 2 (-tk.num) (posOf C.E l) s [], q)
      | .error q => R = .error q
    cases ht : takeT C.E [59] r3 with
    | error f => rw [ht] at h0; exact h0
    | ok q => rw [ht] at h0; exact h0
  clear hg hR hl heq hlk hn hm htn
  go_enter Tryz.func27, Tryz.ntmps27
  go_wp2_with (first
    | (go_at_call 28; refine Calls.mono (gat HC.out) ?_; rintro e w1 ⟨rfl, hg⟩; rw [show posE C.E (.ok l) = posOf C.E l from rfl]; replace HC := Hid.out (p := Hid _) hg; clear hg)
    | (go_at_call 26; refine Calls.mono (gis HC.out _) ?_; rintro e w2 ⟨rfl, hg⟩; rw [show isE (⟨#[108, 111, 99, 107]⟩ : ByteArray).data.toList (.ok l) = false from HL.out]; have HC2 := Hid.out (p := Hid _) hg; clear hg HC)
    | (go_at_call 29; refine Calls.mono (gtake HC2.out (Nat.le_refl _) _) ?_; rintro e w3 ⟨rfl, hg⟩; replace hg : GoS C w3 0 4000 _ [] (takeT C.E wInt l) rows := hg; rw [HT1.out] at hg; have HC3 := Hid.out (p := Hid _) hg; clear hg HC2)
    | (go_at_call 51; refine Calls.mono (gname HC3.out (Nat.le_refl _)) ?_; rintro e w4 ⟨rfl, hg⟩; rw [HN.out] at hg ⊢; have HC4 := Hid.out (p := Hid _) hg; clear hg HC3)
    | (go_at_call 26; refine Calls.mono (gis HC4.out _) ?_; rintro e w5 ⟨rfl, hg⟩; rw [show isE (⟨#[61]⟩ : ByteArray).data.toList (.ok r) = true from HEQ.out]; have HC5 := Hid.out (p := Hid _) hg; clear hg HC4)
    | (go_at_call 29; refine Calls.mono (gtake HC5.out (Nat.le_refl _) _) ?_; rintro e w6 ⟨rfl, hg⟩; replace hg : GoS C w6 0 4000 _ [] (takeT C.E [61] r) rows := hg; rw [HT2.out] at hg; have HC6 := Hid.out (p := Hid _) hg; clear hg HC5)
    | (go_at_call 26; refine Calls.mono (gis HC6.out _) ?_; rintro e w7 ⟨rfl, hg⟩; rw [show isE (⟨#[45]⟩ : ByteArray).data.toList (.ok r.tail) = true from HM.out]; have HC7 := Hid.out (p := Hid _) hg; clear hg HC6)
    | (go_at_call 29; refine Calls.mono (gtake HC7.out (Nat.le_refl _) _) ?_; rintro e w8 ⟨rfl, hg⟩; replace hg : GoS C w8 0 4000 _ [] (takeT C.E [45] r.tail) rows := hg; rw [HT3.out] at hg; have HC8 := Hid.out (p := Hid _) hg; clear hg HC7))
  obtain ⟨i, d1, lv, a, hps, hil, _⟩ := HC8.out.ps9
  obtain ⟨hi, -⟩ := hil _ rfl
  have hle := hps.le
  have hP := hps.lt
  have c0 := hps.c0
  have c2 := hps.c2
  have kf := hps.free
  obtain ⟨ta, tc, htv⟩ := hps.toks.form
  have htk := hps.toks
  have hap := hps.apart
  rw [htv] at c0 htk hap
  rw [h2] at hi
  have hlt : i < C.T.length := by
    rcases Nat.lt_or_ge i C.T.length with h1 | h1
    · exact h1
    · rw [List.drop_eq_nil_of_le h1] at hi; cases hi
  have hgd := getD_drop hlt
  rw [hi] at hgd
  simp only [List.cons.injEq] at hgd
  obtain ⟨g, rfl, t0, t1, t2, t3⟩ := htk.cells hlt
  have hlt' : (i : Int) < (C.T.length : Int) := by omega
  rw [← hgd.1] at t0 t1 t2 t3
  rw [hk] at t0
  have hgl : g < w8.heap.size := lt_of_cell t0
  have hgP : g ≠ C.P := fun e => hap (by rw [← e]; rfl)
  have hgo := HC8.out
  rw [h2] at hgo
  have HC9 : Hid (GoS C ((w8.setCell ⟨C.P, 2, none⟩ (.int .i64 ((i : Int) + 1))).drew.drew) 0 4000 none [] (.ok r3) rows) := (hgo.adv hps).below (Below.refl _ _).drew.drew
  clear hil hps htk hgd hi hgo hap
  go_region
  go_wp2_with fail
  go_region
  go_wp2_with (first
    | (go_at_call 29; refine Calls.mono (gtake HC9.out (Nat.le_refl _) _) ?_; rintro e w10 ⟨rfl, hg⟩; have HC10 := Hid.out (p := Hid _) hg; clear hg HC9)
    | (go_at_call 31; refine Calls.mono (gnode HC10.out (by decide) _ _ _ _ [] _ _ _ (fun _ _ => Or.inr ⟨rfl, rfl⟩) HFW.out) ?_; rintro e w9 ⟨v9, rfl, hv9, hg9⟩; skip))
  go_ret
  exact ⟨v9, rfl, trq_leaf hv9 hg9 HRR.out (by decide)⟩
set_option maxRecDepth 100000 in
set_option maxHeartbeats 3200000 in
theorem rglobal_neg_bad (hl : isTok wInt l = true) {s : List UInt8} {r : List Tok} (hn : nameT E l.tail = .ok (s, r)) (heq : isTok [61] r = true) (hm : isTok [45] r.tail = true) (hk : ∀ tk r3, r.tail.tail = tk :: r3 → tk.kind ≠ 3) : Ctr 27 [] E 0 l (globalT E l) 4010 := by
  refine ctr_of fun C w rows hE _ hg => ?_
  subst hE
  have hfw := (hg 4000).fewR
  have hT := (hg 4000).few
  have HC := Hid.out (p := Hid _) (hg 4000)
  obtain ⟨R, hR⟩ : ∃ R, R = globalT C.E l := ⟨_, rfl⟩
  rw [← hR]
  have HT1 : Hid (takeT C.E wInt l = .ok l.tail) := by show _ = _; unfold takeT; rw [if_pos hl]
  have hlk : isTok wLock l = false := is_alone hl (by decide)
  have HL := Hid.out (p := Hid _) hlk
  have HN : Hid (namE C.E (.ok l.tail) = (s, .ok r)) := by show _ = _; simp only [namE, hn]
  have HEQ := Hid.out (p := Hid _) heq
  have HM := Hid.out (p := Hid _) hm
  have HT2 : Hid (takeT C.E [61] r = .ok r.tail) := by show _ = _; unfold takeT; rw [if_pos heq]
  obtain ⟨r2, hr2⟩ : ∃ r2, r2 = r.tail.tail := ⟨_, rfl⟩
  rw [← hr2] at hk
  have HT3 : Hid (takeT C.E [45] r.tail = .ok r2) := by show _ = _; unfold takeT; rw [if_pos hm, hr2]
  have hlen : r2.length + 1 < l.length := by
    have h1 := is_len hl
    have h3 := name_len hn
    have h4 := is_len heq
    have h5 := tail_le r.tail
    rw [hr2]
    omega
  have HFW : Hid (∀ q, (Except.error (5, posOf C.E r2) : Except (Int × Int) (List Tok)) = .ok q → rows.length + 1 + q.length ≤ C.T.length) := fun q hq => by cases hq
  have htn : tnumT C.E r2 = .error (5, posOf C.E r2) := by
    match r2, hk with
    | [], _ => rfl
    | tk :: r3, hk => rw [tnumT, if_neg (hk tk r3 rfl)]; rfl
  have HRR : Hid (R = .error (5, posOf C.E r2)) := by
    show _ = _
    have h0 := hR
    rw [globalT, if_neg (by rw [hlk]; decide), HT1.out] at h0
    simp only [hn] at h0
    rw [if_pos heq, if_pos hm, ← hr2, htn] at h0
    exact h0
  have HKK := Hid.out (p := Hid _) hk
  clear hg hR hl heq hlk hn hm htn
  go_enter Tryz.func27, Tryz.ntmps27
  go_wp2_with (first
    | (go_at_call 28; refine Calls.mono (gat HC.out) ?_; rintro e w1 ⟨rfl, hg⟩; rw [show posE C.E (.ok l) = posOf C.E l from rfl]; replace HC := Hid.out (p := Hid _) hg; clear hg)
    | (go_at_call 26; refine Calls.mono (gis HC.out _) ?_; rintro e w2 ⟨rfl, hg⟩; rw [show isE (⟨#[108, 111, 99, 107]⟩ : ByteArray).data.toList (.ok l) = false from HL.out]; have HC2 := Hid.out (p := Hid _) hg; clear hg HC)
    | (go_at_call 29; refine Calls.mono (gtake HC2.out (Nat.le_refl _) _) ?_; rintro e w3 ⟨rfl, hg⟩; replace hg : GoS C w3 0 4000 _ [] (takeT C.E wInt l) rows := hg; rw [HT1.out] at hg; have HC3 := Hid.out (p := Hid _) hg; clear hg HC2)
    | (go_at_call 51; refine Calls.mono (gname HC3.out (Nat.le_refl _)) ?_; rintro e w4 ⟨rfl, hg⟩; rw [HN.out] at hg ⊢; have HC4 := Hid.out (p := Hid _) hg; clear hg HC3)
    | (go_at_call 26; refine Calls.mono (gis HC4.out _) ?_; rintro e w5 ⟨rfl, hg⟩; rw [show isE (⟨#[61]⟩ : ByteArray).data.toList (.ok r) = true from HEQ.out]; have HC5 := Hid.out (p := Hid _) hg; clear hg HC4)
    | (go_at_call 29; refine Calls.mono (gtake HC5.out (Nat.le_refl _) _) ?_; rintro e w6 ⟨rfl, hg⟩; replace hg : GoS C w6 0 4000 _ [] (takeT C.E [61] r) rows := hg; rw [HT2.out] at hg; have HC6 := Hid.out (p := Hid _) hg; clear hg HC5)
    | (go_at_call 26; refine Calls.mono (gis HC6.out _) ?_; rintro e w7 ⟨rfl, hg⟩; rw [show isE (⟨#[45]⟩ : ByteArray).data.toList (.ok r.tail) = true from HM.out]; have HC7 := Hid.out (p := Hid _) hg; clear hg HC6)
    | (go_at_call 29; refine Calls.mono (gtake HC7.out (Nat.le_refl _) _) ?_; rintro e w8 ⟨rfl, hg⟩; replace hg : GoS C w8 0 4000 _ [] (takeT C.E [45] r.tail) rows := hg; rw [HT3.out] at hg; have HC8 := Hid.out (p := Hid _) hg; clear hg HC7))
  obtain ⟨i, d1, lv, a, hps, hil, _⟩ := HC8.out.ps9
  obtain ⟨hi, -⟩ := hil _ rfl
  have hle := hps.le
  have hP := hps.lt
  have c0 := hps.c0
  have c2 := hps.c2
  have kf := hps.free
  obtain ⟨ta, tc, htv⟩ := hps.toks.form
  have htk := hps.toks
  have hap := hps.apart
  rw [htv] at c0 htk hap
  have HC9 : Hid (GoS C w8.drew 0 4000 none [] (.ok r2) rows) := HC8.out.below (Below.refl _ _).drew
  by_cases hlt : i < C.T.length
  · have hgd := getD_drop hlt
    rw [hi] at hgd
    obtain ⟨g, rfl, t0, t1, t2, t3⟩ := htk.cells hlt
    have hlt' : (i : Int) < (C.T.length : Int) := by omega
    have hk3 : ((C.T.getD i tok0).kind == 3) = false := by simpa using HKK.out _ _ hgd
    obtain ⟨⟨kk, vv, pp, tt⟩, ht⟩ : ∃ x, C.T.getD i tok0 = x := ⟨_, rfl⟩
    rw [ht] at t0 t1 t2 t3 hk3
    simp only at t0 t1 t2 t3 hk3
    have hgl : g < w8.heap.size := lt_of_cell t0
    clear hil hps htk hgd hi ht hap hk
    go_region
    go_wp2_with (first
      | (go_at_call 52; refine Calls.mono (gfail HC9.out (Nat.le_refl _) 5 (by decide)) ?_; rintro e w10 ⟨rfl, hg⟩; have HC10 := Hid.out (p := Hid _) hg; clear hg HC9)
      | (go_at_call 29; refine Calls.mono (gtake HC10.out (Nat.le_refl _) _) ?_; rintro e w11 ⟨rfl, hg⟩; have HC11 := Hid.out (p := Hid _) hg; clear hg HC10)
      | (go_at_call 31; refine Calls.mono (gnode HC11.out (by decide) _ _ _ _ [] _ _ _ (fun _ _ => Or.inr ⟨rfl, rfl⟩) HFW.out) ?_; rintro e w9 ⟨v9, rfl, hv9, hg9⟩; skip))
    go_ret
    refine ⟨v9, rfl, ?_⟩
    rw [HRR.out]
    exact (hg9.more (by decide)).err _ _
  · have hlt' : ¬ (i : Int) < (C.T.length : Int) := by omega
    clear hil hps htk hi hap hk
    go_region
    go_wp2_with (first
      | (go_at_call 52; refine Calls.mono (gfail HC9.out (Nat.le_refl _) 5 (by decide)) ?_; rintro e w10 ⟨rfl, hg⟩; have HC10 := Hid.out (p := Hid _) hg; clear hg HC9)
      | (go_at_call 29; refine Calls.mono (gtake HC10.out (Nat.le_refl _) _) ?_; rintro e w11 ⟨rfl, hg⟩; have HC11 := Hid.out (p := Hid _) hg; clear hg HC10)
      | (go_at_call 31; refine Calls.mono (gnode HC11.out (by decide) _ _ _ _ [] _ _ _ (fun _ _ => Or.inr ⟨rfl, rfl⟩) HFW.out) ?_; rintro e w9 ⟨v9, rfl, hv9, hg9⟩; skip))
    go_ret
    refine ⟨v9, rfl, ?_⟩
    rw [HRR.out]
    exact (hg9.more (by decide)).err _ _
set_option maxRecDepth 100000 in
set_option maxHeartbeats 3200000 in
theorem rglobal_pos_num (hl : isTok wInt l = true) {s : List UInt8} {r : List Tok} (hn : nameT E l.tail = .ok (s, r)) (heq : isTok [61] r = true) (hm : isTok [45] r.tail = false) {tk : Tok} {r3 : List Tok} (h2 : r.tail = tk :: r3) (hk : tk.kind = 3) : Ctr 27 [] E 0 l (globalT E l) 4010 := by
  refine ctr_of fun C w rows hE _ hg => ?_
  subst hE
  have hfw := (hg 4000).fewR
  have hT := (hg 4000).few
  have HC := Hid.out (p := Hid _) (hg 4000)
  obtain ⟨R, hR⟩ : ∃ R, R = globalT C.E l := ⟨_, rfl⟩
  rw [← hR]
  have HT1 : Hid (takeT C.E wInt l = .ok l.tail) := by show _ = _; unfold takeT; rw [if_pos hl]
  have hlk : isTok wLock l = false := is_alone hl (by decide)
  have HL := Hid.out (p := Hid _) hlk
  have HN : Hid (namE C.E (.ok l.tail) = (s, .ok r)) := by show _ = _; simp only [namE, hn]
  have HEQ := Hid.out (p := Hid _) heq
  have HM := Hid.out (p := Hid _) hm
  have HT2 : Hid (takeT C.E [61] r = .ok r.tail) := by show _ = _; unfold takeT; rw [if_pos heq]
  obtain ⟨r2, hr2⟩ : ∃ r2, r2 = r.tail := ⟨_, rfl⟩
  rw [← hr2] at h2
  have hlen : r2.length + 1 < l.length := by
    have h1 := is_len hl
    have h3 := name_len hn
    have h4 := is_len heq
    have h5 := tail_le r.tail
    rw [hr2]
    omega
  have HFW : Hid (∀ q, takeT C.E [59] r3 = .ok q → rows.length + 1 + q.length ≤ C.T.length) := fun q hq => by
    have h6 := take_len hq
    rw [h2] at hlen
    simp only [List.length_cons] at hlen
    omega
  have htn : tnumT C.E r2 = .ok (tk.num, r3) := by rw [h2, tnumT, if_pos hk]
  have HRR : Hid (match takeT C.E [59] r3 with
    | .ok q => R = .ok (.mk 2 (tk.num) (posOf C.E l) s [], q)
    | .error q => R = .error q) := by
    have h0 := hR
    rw [globalT, if_neg (by rw [hlk]; decide), HT1.out] at h0
    simp only [hn] at h0
    rw [if_pos heq] at h0
    simp only [hm, Bool.false_eq_true, if_false] at h0
    rw [← hr2, htn] at h0
    simp only at h0
    show match takeT C.E [59] r3 with
      | .ok q => R = .ok (.mk 2 (tk.num) (posOf C.E l) s [], q)
      | .error q => R = .error q
    cases ht : takeT C.E [59] r3 with
    | error f => rw [ht] at h0; exact h0
    | ok q => rw [ht] at h0; exact h0
  clear hg hR hl heq hlk hn hm htn
  go_enter Tryz.func27, Tryz.ntmps27
  go_wp2_with (first
    | (go_at_call 28; refine Calls.mono (gat HC.out) ?_; rintro e w1 ⟨rfl, hg⟩; rw [show posE C.E (.ok l) = posOf C.E l from rfl]; replace HC := Hid.out (p := Hid _) hg; clear hg)
    | (go_at_call 26; refine Calls.mono (gis HC.out _) ?_; rintro e w2 ⟨rfl, hg⟩; rw [show isE (⟨#[108, 111, 99, 107]⟩ : ByteArray).data.toList (.ok l) = false from HL.out]; have HC2 := Hid.out (p := Hid _) hg; clear hg HC)
    | (go_at_call 29; refine Calls.mono (gtake HC2.out (Nat.le_refl _) _) ?_; rintro e w3 ⟨rfl, hg⟩; replace hg : GoS C w3 0 4000 _ [] (takeT C.E wInt l) rows := hg; rw [HT1.out] at hg; have HC3 := Hid.out (p := Hid _) hg; clear hg HC2)
    | (go_at_call 51; refine Calls.mono (gname HC3.out (Nat.le_refl _)) ?_; rintro e w4 ⟨rfl, hg⟩; rw [HN.out] at hg ⊢; have HC4 := Hid.out (p := Hid _) hg; clear hg HC3)
    | (go_at_call 26; refine Calls.mono (gis HC4.out _) ?_; rintro e w5 ⟨rfl, hg⟩; rw [show isE (⟨#[61]⟩ : ByteArray).data.toList (.ok r) = true from HEQ.out]; have HC5 := Hid.out (p := Hid _) hg; clear hg HC4)
    | (go_at_call 29; refine Calls.mono (gtake HC5.out (Nat.le_refl _) _) ?_; rintro e w6 ⟨rfl, hg⟩; replace hg : GoS C w6 0 4000 _ [] (takeT C.E [61] r) rows := hg; rw [HT2.out] at hg; have HC6 := Hid.out (p := Hid _) hg; clear hg HC5)
    | (go_at_call 26; refine Calls.mono (gis HC6.out _) ?_; rintro e w8 ⟨rfl, hg⟩; rw [show isE (⟨#[45]⟩ : ByteArray).data.toList (.ok r.tail) = false from HM.out]; rw [← hr2] at hg; have HC8 := Hid.out (p := Hid _) hg; clear hg HC6))
  obtain ⟨i, d1, lv, a, hps, hil, _⟩ := HC8.out.ps9
  obtain ⟨hi, -⟩ := hil _ rfl
  have hle := hps.le
  have hP := hps.lt
  have c0 := hps.c0
  have c2 := hps.c2
  have kf := hps.free
  obtain ⟨ta, tc, htv⟩ := hps.toks.form
  have htk := hps.toks
  have hap := hps.apart
  rw [htv] at c0 htk hap
  rw [h2] at hi
  have hlt : i < C.T.length := by
    rcases Nat.lt_or_ge i C.T.length with h1 | h1
    · exact h1
    · rw [List.drop_eq_nil_of_le h1] at hi; cases hi
  have hgd := getD_drop hlt
  rw [hi] at hgd
  simp only [List.cons.injEq] at hgd
  obtain ⟨g, rfl, t0, t1, t2, t3⟩ := htk.cells hlt
  have hlt' : (i : Int) < (C.T.length : Int) := by omega
  rw [← hgd.1] at t0 t1 t2 t3
  rw [hk] at t0
  have hgl : g < w8.heap.size := lt_of_cell t0
  have hgP : g ≠ C.P := fun e => hap (by rw [← e]; rfl)
  have hgo := HC8.out
  rw [h2] at hgo
  have HC9 : Hid (GoS C ((w8.setCell ⟨C.P, 2, none⟩ (.int .i64 ((i : Int) + 1))).drew.drew) 0 4000 none [] (.ok r3) rows) := (hgo.adv hps).below (Below.refl _ _).drew.drew
  clear hil hps htk hgd hi hgo hap
  go_region
  go_wp2_with fail
  go_region
  go_wp2_with (first
    | (go_at_call 29; refine Calls.mono (gtake HC9.out (Nat.le_refl _) _) ?_; rintro e w10 ⟨rfl, hg⟩; have HC10 := Hid.out (p := Hid _) hg; clear hg HC9)
    | (go_at_call 31; refine Calls.mono (gnode HC10.out (by decide) _ _ _ _ [] _ _ _ (fun _ _ => Or.inr ⟨rfl, rfl⟩) HFW.out) ?_; rintro e w9 ⟨v9, rfl, hv9, hg9⟩; skip))
  go_ret
  exact ⟨v9, rfl, trq_leaf hv9 hg9 HRR.out (by decide)⟩
set_option maxRecDepth 100000 in
set_option maxHeartbeats 3200000 in
theorem rglobal_pos_bad (hl : isTok wInt l = true) {s : List UInt8} {r : List Tok} (hn : nameT E l.tail = .ok (s, r)) (heq : isTok [61] r = true) (hm : isTok [45] r.tail = false) (hk : ∀ tk r3, r.tail = tk :: r3 → tk.kind ≠ 3) : Ctr 27 [] E 0 l (globalT E l) 4010 := by
  refine ctr_of fun C w rows hE _ hg => ?_
  subst hE
  have hfw := (hg 4000).fewR
  have hT := (hg 4000).few
  have HC := Hid.out (p := Hid _) (hg 4000)
  obtain ⟨R, hR⟩ : ∃ R, R = globalT C.E l := ⟨_, rfl⟩
  rw [← hR]
  have HT1 : Hid (takeT C.E wInt l = .ok l.tail) := by show _ = _; unfold takeT; rw [if_pos hl]
  have hlk : isTok wLock l = false := is_alone hl (by decide)
  have HL := Hid.out (p := Hid _) hlk
  have HN : Hid (namE C.E (.ok l.tail) = (s, .ok r)) := by show _ = _; simp only [namE, hn]
  have HEQ := Hid.out (p := Hid _) heq
  have HM := Hid.out (p := Hid _) hm
  have HT2 : Hid (takeT C.E [61] r = .ok r.tail) := by show _ = _; unfold takeT; rw [if_pos heq]
  obtain ⟨r2, hr2⟩ : ∃ r2, r2 = r.tail := ⟨_, rfl⟩
  rw [← hr2] at hk
  have hlen : r2.length + 1 < l.length := by
    have h1 := is_len hl
    have h3 := name_len hn
    have h4 := is_len heq
    have h5 := tail_le r.tail
    rw [hr2]
    omega
  have HFW : Hid (∀ q, (Except.error (5, posOf C.E r2) : Except (Int × Int) (List Tok)) = .ok q → rows.length + 1 + q.length ≤ C.T.length) := fun q hq => by cases hq
  have htn : tnumT C.E r2 = .error (5, posOf C.E r2) := by
    match r2, hk with
    | [], _ => rfl
    | tk :: r3, hk => rw [tnumT, if_neg (hk tk r3 rfl)]; rfl
  have HRR : Hid (R = .error (5, posOf C.E r2)) := by
    show _ = _
    have h0 := hR
    rw [globalT, if_neg (by rw [hlk]; decide), HT1.out] at h0
    simp only [hn] at h0
    rw [if_pos heq, if_neg (by rw [hm]; decide), ← hr2, htn] at h0
    exact h0
  have HKK := Hid.out (p := Hid _) hk
  clear hg hR hl heq hlk hn hm htn
  go_enter Tryz.func27, Tryz.ntmps27
  go_wp2_with (first
    | (go_at_call 28; refine Calls.mono (gat HC.out) ?_; rintro e w1 ⟨rfl, hg⟩; rw [show posE C.E (.ok l) = posOf C.E l from rfl]; replace HC := Hid.out (p := Hid _) hg; clear hg)
    | (go_at_call 26; refine Calls.mono (gis HC.out _) ?_; rintro e w2 ⟨rfl, hg⟩; rw [show isE (⟨#[108, 111, 99, 107]⟩ : ByteArray).data.toList (.ok l) = false from HL.out]; have HC2 := Hid.out (p := Hid _) hg; clear hg HC)
    | (go_at_call 29; refine Calls.mono (gtake HC2.out (Nat.le_refl _) _) ?_; rintro e w3 ⟨rfl, hg⟩; replace hg : GoS C w3 0 4000 _ [] (takeT C.E wInt l) rows := hg; rw [HT1.out] at hg; have HC3 := Hid.out (p := Hid _) hg; clear hg HC2)
    | (go_at_call 51; refine Calls.mono (gname HC3.out (Nat.le_refl _)) ?_; rintro e w4 ⟨rfl, hg⟩; rw [HN.out] at hg ⊢; have HC4 := Hid.out (p := Hid _) hg; clear hg HC3)
    | (go_at_call 26; refine Calls.mono (gis HC4.out _) ?_; rintro e w5 ⟨rfl, hg⟩; rw [show isE (⟨#[61]⟩ : ByteArray).data.toList (.ok r) = true from HEQ.out]; have HC5 := Hid.out (p := Hid _) hg; clear hg HC4)
    | (go_at_call 29; refine Calls.mono (gtake HC5.out (Nat.le_refl _) _) ?_; rintro e w6 ⟨rfl, hg⟩; replace hg : GoS C w6 0 4000 _ [] (takeT C.E [61] r) rows := hg; rw [HT2.out] at hg; have HC6 := Hid.out (p := Hid _) hg; clear hg HC5)
    | (go_at_call 26; refine Calls.mono (gis HC6.out _) ?_; rintro e w8 ⟨rfl, hg⟩; rw [show isE (⟨#[45]⟩ : ByteArray).data.toList (.ok r.tail) = false from HM.out]; rw [← hr2] at hg; have HC8 := Hid.out (p := Hid _) hg; clear hg HC6))
  obtain ⟨i, d1, lv, a, hps, hil, _⟩ := HC8.out.ps9
  obtain ⟨hi, -⟩ := hil _ rfl
  have hle := hps.le
  have hP := hps.lt
  have c0 := hps.c0
  have c2 := hps.c2
  have kf := hps.free
  obtain ⟨ta, tc, htv⟩ := hps.toks.form
  have htk := hps.toks
  have hap := hps.apart
  rw [htv] at c0 htk hap
  have HC9 : Hid (GoS C w8.drew 0 4000 none [] (.ok r2) rows) := HC8.out.below (Below.refl _ _).drew
  by_cases hlt : i < C.T.length
  · have hgd := getD_drop hlt
    rw [hi] at hgd
    obtain ⟨g, rfl, t0, t1, t2, t3⟩ := htk.cells hlt
    have hlt' : (i : Int) < (C.T.length : Int) := by omega
    have hk3 : ((C.T.getD i tok0).kind == 3) = false := by simpa using HKK.out _ _ hgd
    obtain ⟨⟨kk, vv, pp, tt⟩, ht⟩ : ∃ x, C.T.getD i tok0 = x := ⟨_, rfl⟩
    rw [ht] at t0 t1 t2 t3 hk3
    simp only at t0 t1 t2 t3 hk3
    have hgl : g < w8.heap.size := lt_of_cell t0
    clear hil hps htk hgd hi ht hap hk
    go_region
    go_wp2_with (first
      | (go_at_call 52; refine Calls.mono (gfail HC9.out (Nat.le_refl _) 5 (by decide)) ?_; rintro e w10 ⟨rfl, hg⟩; have HC10 := Hid.out (p := Hid _) hg; clear hg HC9)
      | (go_at_call 29; refine Calls.mono (gtake HC10.out (Nat.le_refl _) _) ?_; rintro e w11 ⟨rfl, hg⟩; have HC11 := Hid.out (p := Hid _) hg; clear hg HC10)
      | (go_at_call 31; refine Calls.mono (gnode HC11.out (by decide) _ _ _ _ [] _ _ _ (fun _ _ => Or.inr ⟨rfl, rfl⟩) HFW.out) ?_; rintro e w9 ⟨v9, rfl, hv9, hg9⟩; skip))
    go_ret
    refine ⟨v9, rfl, ?_⟩
    rw [HRR.out]
    exact (hg9.more (by decide)).err _ _
  · have hlt' : ¬ (i : Int) < (C.T.length : Int) := by omega
    clear hil hps htk hi hap hk
    go_region
    go_wp2_with (first
      | (go_at_call 52; refine Calls.mono (gfail HC9.out (Nat.le_refl _) 5 (by decide)) ?_; rintro e w10 ⟨rfl, hg⟩; have HC10 := Hid.out (p := Hid _) hg; clear hg HC9)
      | (go_at_call 29; refine Calls.mono (gtake HC10.out (Nat.le_refl _) _) ?_; rintro e w11 ⟨rfl, hg⟩; have HC11 := Hid.out (p := Hid _) hg; clear hg HC10)
      | (go_at_call 31; refine Calls.mono (gnode HC11.out (by decide) _ _ _ _ [] _ _ _ (fun _ _ => Or.inr ⟨rfl, rfl⟩) HFW.out) ?_; rintro e w9 ⟨v9, rfl, hv9, hg9⟩; skip))
    go_ret
    refine ⟨v9, rfl, ?_⟩
    rw [HRR.out]
    exact (hg9.more (by decide)).err _ _
end

end Go.Proofs.YtggfbfjdiikaeaaGreatDoor
