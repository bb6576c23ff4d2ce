/-
  The program's parser: globals.
-/
import Derived.Test.YtggfbfjdiikaeaaGreatDoorSqT
import Derived.Deep.RegionHeld
namespace Go.Proofs.YtggfbfjdiikaeaaGreatDoor
open Go.RowKit

/-- What a global holds at first. -/
def fnT (E : Int) (l : List Tok) : TRes Int := match tnumT E (if isTok [45] l.tail = true then l.tail.tail else l.tail) with
  | .error f => .error f
  | .ok (v, q) => .ok (if isTok [45] l.tail = true then -v else v, q)
/-- What a function leaves that reads a number. -/
def NuQ (C : Cx9) (w : World) (d : Nat) (bx : Option (Nat × Obj)) (ps : List (List Int × Value)) (rows : List Row) (r : TRes Int) (e : Ending) : Prop :=
  match r with
  | .ok (v, q) => e = .returned (.int .i64 v) ∧ GoP C w d bx ps q rows
  | .error f => e = .panicked (badF f) ∧ FrP C w
theorem GoP.set2 {C : Cx9} {w : World} {d : Nat} {ps : List (List Int × Value)} {l : List Tok} {rows : List Row} {b : Nat} {a0 a1 a2 a3 a4 : Value} (h : GoP C w d (some (b, .cells #[a0, a1, a2, a3, a4] 60)) ps l rows) (u : Value) : GoP C (w.setCell ⟨b, 2, none⟩ u) d (some (b, .cells #[a0, a1, u, a3, a4] 60)) ps l rows := h.setb 2 u
theorem tnum_cases (E : Int) (l : List Tok) : (∃ t r, l = t :: r ∧ t.kind = 3 ∧ tnumT E l = .ok (t.num, r)) ∨ ((tokE E l).kind ≠ 3 ∧ tnumT E l = .error (5, posOf E l)) := by
  cases l with
  | nil => exact Or.inr ⟨fun h => absurd (show (0 : Int) = 3 from h) (by decide), rfl⟩
  | cons t r =>
    by_cases h : t.kind = 3
    · exact Or.inl ⟨t, r, rfl, h, by rw [tnumT, if_pos h]⟩
    · exact Or.inr ⟨h, by rw [tnumT, if_neg h]; rfl⟩
theorem tok_num {t : Tok} (h : TokOk t) (hk : t.kind = 3) : 0 ≤ t.num ∧ t.num ≤ 999999999 := by
  rcases h with ⟨k, _⟩ | ⟨k, _⟩ | ⟨_, h1, h2, _⟩ | ⟨k, _⟩
  · rw [k] at hk; cases hk
  · rw [k] at hk; cases hk
  · exact ⟨h1, h2⟩
  · rw [k] at hk; cases hk
section
variable {C : Cx9} {w : World} {d : Nat} {bx : Option (Nat × Obj)} {ps : List (List Int × Value)} {l : List Tok} {rows : List Row}
set_option maxRecDepth 100000 in
set_option maxHeartbeats 1600000 in
theorem qfirst (hg : GoP C w d bx ps l rows) (hi : isTok [61] l = true) (R : TRes Int) (hR : fnT C.E l = R) :
    Calls Tryz.prog 113 #[.pointer (some ⟨C.P, 0, none⟩)] w fun e w' => NuQ C w' d bx ps rows R e := by
  have htk : takeT C.E [61] l = .ok l.tail := by unfold takeT; rw [if_pos hi]
  have HW := Hid.out (p := Hid _) (qword1 hg ⟨#[61]⟩ (lit_sign (by decide)) (fun h => absurd h (by decide)) _ (words_one (by decide) (by decide)))
  have hfd := fld1
  unfold fnT at hR
  clear hg
  go_enter Tryz.func113, Tryz.ntmps113
  go_wp2_with fail
  refine Calls.mono HW.out ?_
  intro e w1 hq
  change WdQ C _ _ _ _ (liftD (takeT C.E [61] l) d) e w1 at hq
  rw [htk] at hq
  obtain ⟨rfl, hg1, -⟩ := hq
  have HG1 := Hid.out (p := Hid _) hg1
  clear hg1 HW htk hi
  go_wp2_with fail
  refine Calls.mono (qis1 HG1.out ⟨#[45]⟩ (lit_sign (by decide))) ?_
  rintro e w2 ⟨rfl, hb⟩
  have hg2 := HG1.out.below hb
  have HG2 := Hid.out (p := Hid _) hg2
  clear hb HG1
  cases hm : isTok [45] l.tail with
  | true =>
    simp only [hm, if_true] at hR
    have htk : takeT C.E [45] l.tail = .ok l.tail.tail := by unfold takeT; rw [if_pos hm]
    clear hg2 hm
    go_wp2_with fail
    refine Calls.mono (qword1 HG2.out ⟨#[45]⟩ (lit_sign (by decide)) (fun h => absurd h (by decide)) _ (words_one (by decide) (by decide))) ?_
    intro e w3 hq
    change WdQ C _ _ _ _ (liftD (takeT C.E [45] l.tail) d) e w3 at hq
    rw [htk] at hq
    obtain ⟨rfl, hg3, -⟩ := hq
    rcases tnum_cases C.E l.tail.tail with ⟨t, r, hl, hk, hn⟩ | ⟨hk, hn⟩
    · rw [hl] at hg3
      have hnn := tok_num (hg3.fewR.2.2.2 t (List.mem_cons_self ..)) hk
      have HK := Hid.out (p := Hid _) (qkind_yes hg3 3 hk (Or.inr rfl))
      rw [hn] at hR
      have HR := Hid.out (p := Hid _) hR
      clear hg3 hR htk hn hl
      go_wp2_with fail
      refine Calls.mono HK.out ?_
      rintro e w4 ⟨rfl, hg4, -⟩
      have HG4 := Hid.out (p := Hid _) hg4
      clear hg4
      go_wp2_with fail
      go_ret
      rw [← HR.out]
      exact ⟨rfl, HG4.out⟩
    · have HK := Hid.out (p := Hid _) (qkind_no hg3 3 hk)
      rw [hn] at hR
      clear hg3 htk hn hk
      go_wp2_with fail
      refine Calls.mono HK.out ?_
      rintro e w4 ⟨rfl, hf⟩
      subst hR
      exact ⟨rfl, rfl, hf⟩
  | false =>
    simp only [hm, Bool.false_eq_true, if_false] at hR
    clear hm
    rcases tnum_cases C.E l.tail with ⟨t, r, hl, hk, hn⟩ | ⟨hk, hn⟩
    · rw [hl] at hg2
      have HK := Hid.out (p := Hid _) (qkind_yes hg2 3 hk (Or.inr rfl))
      rw [hn] at hR
      have HR := Hid.out (p := Hid _) hR
      clear hg2 hR hn hl
      go_wp2_with fail
      refine Calls.mono HK.out ?_
      rintro e w4 ⟨rfl, hg4, -⟩
      have HG4 := Hid.out (p := Hid _) hg4
      clear hg4
      go_wp2_with fail
      go_ret
      rw [← HR.out]
      exact ⟨rfl, HG4.out⟩
    · have HK := Hid.out (p := Hid _) (qkind_no hg2 3 hk)
      rw [hn] at hR
      clear hg2 hn hk
      go_wp2_with fail
      refine Calls.mono HK.out ?_
      rintro e w4 ⟨rfl, hf⟩
      subst hR
      exact ⟨rfl, rfl, hf⟩
end

section
variable {E : Int} {d : Nat} {l : List Tok}
set_option maxRecDepth 100000 in
set_option maxHeartbeats 3200000 in
theorem qglobal_lock {t : Tok} {r : List Tok} (hw : isTok wLock (t :: r) = true) (hpl : ¬ opB t.text ∧ ¬ shB t.text) : Cpr 82 [] E d (t :: r) (globalT E (t :: r)) := by
  refine cpr_of fun C w rows hE hg => ?_
  subst hE
  have hfw := hg.fewR
  have hst : stepD t.text d = d := by unfold stepD; rw [if_neg hpl.1, if_neg hpl.2]
  have HT := Hid.out (p := Hid _) (qtake_any hg (fun h => absurd h hpl.1) (fun h => absurd h hpl.2))
  have HST := Hid.out (p := Hid _) hst
  have htx : t.text = wLock := by simp only [isTok, Bool.and_eq_true, decide_eq_true_eq] at hw; exact hw.2
  have hfd3 := fld3
  obtain ⟨R, hR⟩ : ∃ R : TRes Nd, R = globalT C.E (t :: r) := ⟨_, rfl⟩
  rw [← hR]
  unfold globalT at hR
  rw [if_pos hw] at hR
  simp only [List.tail_cons, posOf] at hR
  have HTX := Hid.out (p := Hid _) htx
  clear hg hpl hst hw htx
  go_enter Tryz.func82, Tryz.ntmps82
  go_wp2_with (go_at_call 111; refine Calls.mono HT.out ?_; rintro e w1 ⟨rfl, hg, -⟩; rw [HST.out] at hg; rw [HTX.out]; have HG1 := Hid.out (p := Hid _) hg; clear hg)
  have hb1 := (Below.refl w1.heap.size w1).alloc (Nat.le_refl _) (.cells #[.int .i64 t.kind, .int .i64 t.num, .int .i64 t.pos, .string ⟨⟨wLock⟩⟩] 98)
  have hg2 := HG1.out.below hb1
  have hbx := heap_alloc_new w1 (.cells #[.int .i64 t.kind, .int .i64 t.num, .int .i64 t.pos, .string ⟨⟨wLock⟩⟩] 98)
  obtain ⟨W, hW⟩ : ∃ W, W = w1.alloc (.cells #[.int .i64 t.kind, .int .i64 t.num, .int .i64 t.pos, .string ⟨⟨wLock⟩⟩] 98) := ⟨_, rfl⟩
  have hWs : W.heap.size = w1.heap.size + 1 := by rw [hW]; simp
  rw [← hW] at hg2 hbx ⊢
  obtain ⟨b0, b1, b2, b3, bf⟩ := box4 hbx
  have HBX := Hid.out (p := Hid _) hbx
  have hPl : C.P < w1.heap.size := by obtain ⟨-, -, -, -, hP⟩ := HG1.out.cells; exact hP
  clear hb1 hW hbx HG1 HT
  cases hn : nameT C.E r with
  | error f =>
    obtain ⟨hf5, hk⟩ := name_no9 hn
    rw [hn] at hR
    have HK : Hid (∀ w2, Below W.heap.size W w2 → Calls Tryz.prog 112 #[.pointer (some ⟨C.P, 0, none⟩), .int .i64 1] w2 fun e w' => e = .panicked (badF (5, posOf C.E r)) ∧ FrP C w') := fun w2 hb => qkind_no (hg2.below hb) 1 hk
    clear hg2 hk
    refine wp_region_held_drew (S := (fun w' : World => w'.cell? ⟨w1.heap.size, 2, none⟩ = some (.int .i64 t.pos))) (by kernel_rfl) b2 (fun hHeld => ?_)
    try simp only [Act.put, List.setIfInBounds_toArray, List.set_cons_zero, List.set_cons_succ, List.getElem_toArray, List.getElem_cons_succ, List.getElem_cons_zero]
    refine wpAnyH_take (i := 0) (v := .pointer (some ⟨w1.heap.size, 2, none⟩)) rfl (by kernel_rfl) (by kernel_rfl) (by kernel_rfl) (fun _ _ _ h => h) (Or.inl ⟨by rfl, by intro w hSw; first | (go_simp; done) | (go_simp; with_reducible rfl)⟩) (by assumption) ?_
    try simp only [Act.put, List.setIfInBounds_toArray, List.set_cons_zero, List.set_cons_succ, List.getElem_toArray, List.getElem_cons_zero]
    refine wpAnyH_take (i := 1) (v := .int .i64 t.pos) rfl (by kernel_rfl) (by kernel_rfl) (by kernel_rfl) (fun _ _ _ h => h) (Or.inl ⟨by rfl, by intro w hSw; first | (go_simp; done) | (go_simp; with_reducible rfl)⟩) (by assumption) ?_
    try simp only [Act.put, List.setIfInBounds_toArray, List.set_cons_zero, List.set_cons_succ, List.getElem_toArray, List.getElem_cons_succ, List.getElem_cons_zero]
    refine wpAnyH_take (i := 2) (v := .pointer (some ⟨C.P, 0, none⟩)) rfl (by kernel_rfl) (by kernel_rfl) (by kernel_rfl) (fun _ _ _ h => h) (Or.inl ⟨by rfl, by intro w hSw; first | (go_simp; done) | (go_simp; with_reducible rfl)⟩) (by assumption) ?_
    try simp only [Act.put, List.setIfInBounds_toArray, List.set_cons_zero, List.set_cons_succ, List.getElem_toArray, List.getElem_cons_succ, List.getElem_cons_zero]
    refine wpAnyH_ready (rs := [3, 6]) (by kernel_rfl) (by simp) (AllReadyH.cons rfl (fun K hK => ?_) (AllReadyH.cons rfl (fun K hK => ?_) AllReadyH.nil))
    · go_simp
      refine Calls.mono (HK.out _ (Below.refl _ _).drew) ?_
      rintro e w3 ⟨rfl, hf⟩
      subst hf5 hR
      exact ⟨rfl, rfl, hf⟩
    · go_simp
      refine hK.out _ _ (cell_drw (cell_up b2 _)) (fun hHeld => ?_)
      clear hK K
      try simp only [Act.put, List.setIfInBounds_toArray, List.set_cons_zero, List.set_cons_succ, List.getElem_toArray, List.getElem_cons_succ, List.getElem_cons_zero]
      refine wpAnyH_ready (rs := [3]) (by kernel_rfl) (by simp) (AllReadyH.cons rfl (fun K hK => ?_) AllReadyH.nil)
      go_simp
      refine Calls.mono (HK.out _ ((Below.refl _ _).alloc (Nat.le_refl _) _).drew) ?_
      rintro e w3 ⟨rfl, hf⟩
      subst hf5 hR
      exact ⟨rfl, rfl, hf⟩
  | ok y =>
    obtain ⟨s, r2⟩ := y
    have k2 := name_len hn
    obtain ⟨t2, rfl, hkt, rfl⟩ := name_ok9 hn
    rw [hn] at hR
    simp only at hR
    have HG2 := Hid.out (p := Hid _) hg2
    have HKT := Hid.out (p := Hid _) hkt
    clear hg2 hn hkt
    refine wp_region_held_drew (S := (fun w' : World => w'.cell? ⟨w1.heap.size, 2, none⟩ = some (.int .i64 t.pos))) (by kernel_rfl) b2 (fun hHeld => ?_)
    try simp only [Act.put, List.setIfInBounds_toArray, List.set_cons_zero, List.set_cons_succ, List.getElem_toArray, List.getElem_cons_succ, List.getElem_cons_zero]
    refine wpAnyH_take (i := 0) (v := .pointer (some ⟨w1.heap.size, 2, none⟩)) rfl (by kernel_rfl) (by kernel_rfl) (by kernel_rfl) (fun _ _ _ h => h) (Or.inl ⟨by rfl, by intro w hSw; first | (go_simp; done) | (go_simp; with_reducible rfl)⟩) (by assumption) ?_
    try simp only [Act.put, List.setIfInBounds_toArray, List.set_cons_zero, List.set_cons_succ, List.getElem_toArray, List.getElem_cons_zero]
    refine wpAnyH_take (i := 1) (v := .int .i64 t.pos) rfl (by kernel_rfl) (by kernel_rfl) (by kernel_rfl) (fun _ _ _ h => h) (Or.inl ⟨by rfl, by intro w hSw; first | (go_simp; done) | (go_simp; with_reducible rfl)⟩) (by assumption) ?_
    try simp only [Act.put, List.setIfInBounds_toArray, List.set_cons_zero, List.set_cons_succ, List.getElem_toArray, List.getElem_cons_succ, List.getElem_cons_zero]
    refine wpAnyH_take (i := 2) (v := .pointer (some ⟨C.P, 0, none⟩)) rfl (by kernel_rfl) (by kernel_rfl) (by kernel_rfl) (fun _ _ _ h => h) (Or.inl ⟨by rfl, by intro w hSw; first | (go_simp; done) | (go_simp; with_reducible rfl)⟩) (by assumption) ?_
    try simp only [Act.put, List.setIfInBounds_toArray, List.set_cons_zero, List.set_cons_succ, List.getElem_toArray, List.getElem_cons_succ, List.getElem_cons_zero]
    refine wpAnyH_ready (rs := [3, 6]) (by kernel_rfl) (by simp) (AllReadyH.cons rfl (fun K hK => ?_) (AllReadyH.cons rfl (fun K hK => ?_) AllReadyH.nil))
    · go_simp
      refine Calls.mono (qkind_yes (HG2.out.below (Below.refl _ _).drew) 1 HKT.out (Or.inl rfl)) ?_
      rintro e w3 ⟨rfl, hg3, ho3⟩
      have hbx3 := (ho3.block w1.heap.size (by show w1.heap.size < W.heap.size; omega) (by omega)).trans HBX.out
      obtain ⟨c0, c1, c2, c3, cf⟩ := box4 hbx3
      have hl3 := lt_of_cell c0
      have HG3 := Hid.out (p := Hid _) (hg3.box (.cells #[.int .i64 3, .int .i64 0, .int .i64 t.pos, .string ⟨⟨t2.text⟩⟩, nilV] 60))
      clear hg3 ho3 hbx3
      refine hK.out _ _ c2 (fun hHeld => ?_)
      clear hK K
      try simp only [Act.put, List.setIfInBounds_toArray, List.set_cons_zero, List.set_cons_succ, List.getElem_toArray, List.getElem_cons_succ, List.getElem_cons_zero]
      refine wpAnyH_take (i := 4) (v := .string ⟨⟨t2.text⟩⟩) rfl (by kernel_rfl) (by kernel_rfl) (by kernel_rfl) (fun _ _ _ h => h) (Or.inl ⟨by rfl, by intro w hSw; first | (go_simp; done) | (go_simp; with_reducible rfl)⟩) (by assumption) ?_
      try simp only [Act.put, List.setIfInBounds_toArray, List.set_cons_zero, List.set_cons_succ, List.getElem_toArray, List.getElem_cons_succ, List.getElem_cons_zero]
      refine wpAnyH_take (i := 5) (v := .agg #[.int .i64 2, .int .i64 0, .int .i64 t.pos, .string ⟨⟨t2.text⟩⟩, nilV]) rfl (by kernel_rfl) (by kernel_rfl) (by kernel_rfl) (fun _ _ _ h => h) (Or.inl ⟨by rfl, by intro w hSw; first | (go_simp; done) | (go_simp; with_reducible rfl)⟩) (by assumption) ?_
      try simp only [Act.put, List.setIfInBounds_toArray, List.set_cons_zero, List.set_cons_succ, List.getElem_toArray, List.getElem_cons_succ, List.getElem_cons_zero]
      refine wpAnyH_ready (rs := [6]) (by kernel_rfl) (by simp) (AllReadyH.cons rfl (fun K hK => ?_) AllReadyH.nil)
      go_simp
      refine hK.out _ _ (cell_up c2 _) (fun hHeld => ?_)
      clear hK K
      try simp only [Act.put, List.setIfInBounds_toArray, List.set_cons_zero, List.set_cons_succ, List.getElem_toArray, List.getElem_cons_succ, List.getElem_cons_zero]
      refine wpAnyH_ready (rs := [7]) (by kernel_rfl) (by simp) (AllReadyH.cons rfl (fun K hK => ?_) AllReadyH.nil)
      go_simp
      refine hK.out _ _ (cell_up c2 _) (fun hHeld => ?_)
      clear hK K hHeld
      refine wpAnyH_done (by kernel_rfl) ?_ _
      go_wp2_with fail
      refine Calls.mono (qword1g (HG3.out) (w3.heap.size + 1) (by simp) ⟨#[59]⟩ (lit_sign (by decide)) (fun h => absurd h (by decide)) _ (words_one (by decide) (by decide))) ?_
      intro e w4 hq
      change WdQ C _ _ _ _ (liftD (takeT C.E [59] r2) d) e w4 at hq
      cases ht3 : takeT C.E [59] r2 with
      | error f =>
        rw [ht3] at hq hR
        obtain ⟨rfl, hf⟩ := hq
        subst hR
        exact ⟨rfl, rfl, hf⟩
      | ok p =>
        rw [ht3] at hq hR
        obtain ⟨rfl, hg, -⟩ := hq
        have k3 := take_len ht3
        obtain ⟨hb6, -, hbl6⟩ := hg.bxc
        obtain ⟨d0, d1, d2, d3, d4, df⟩ := box5 hb6
        have HG6 := Hid.out (p := Hid _) hg
        have HR := Hid.out (p := Hid _) hR
        have hfe : rows.length + 1 + p.length ≤ C.T.length := by
          have := hfw.1
          simp only [List.length_cons] at this k2
          omega
        clear hg hR hb6
        go_wp2_with fail
        refine Calls.mono (qadd HG6.out 3 0 t.pos t2.text [] none 0 0 (Or.inr ⟨rfl, rfl⟩) hfe) ?_
        rintro e w7 ⟨rfl, hg7⟩
        have HG7 := Hid.out (p := Hid _) hg7.drop
        clear hg7
        go_wp2_with fail
        go_ret
        rw [HR.out]
        refine ⟨by rw [size_none]; simp, ?_⟩
        simpa [flat, flats, idxs] using HG7.out
    · go_simp
      refine hK.out _ _ (cell_drw (cell_up b2 _)) (fun hHeld => ?_)
      clear hK K
      try simp only [Act.put, List.setIfInBounds_toArray, List.set_cons_zero, List.set_cons_succ, List.getElem_toArray, List.getElem_cons_succ, List.getElem_cons_zero]
      refine wpAnyH_ready (rs := [3]) (by kernel_rfl) (by simp) (AllReadyH.cons rfl (fun K hK => ?_) AllReadyH.nil)
      go_simp
      refine Calls.mono (qkind_yes ((HG2.out.box (.cells #[.int .i64 0, .int .i64 0, .int .i64 0, .string ⟨#[]⟩, nilV] 60)).below (Below.refl _ _).drew) 1 HKT.out (Or.inl rfl)) ?_
      rintro e w3 ⟨rfl, hg3, ho3⟩
      have hbx3 := (ho3.block w1.heap.size (by show w1.heap.size < _; simp; omega) (by omega)).trans ((Below.heap_alloc _ _ _ (by omega)).trans HBX.out)
      obtain ⟨c0, c1, c2, c3, cf⟩ := box4 hbx3
      have hl3 := lt_of_cell c0
      rw [hWs] at hg3
      obtain ⟨hbz, hbzP, hbzl⟩ := hg3.bxc
      obtain ⟨z0, z1, z2, z3, z4, zf⟩ := box5 hbz
      have hbzP2 : ¬ C.P = w1.heap.size + 1 := fun e => hbzP e.symm
      have HG3 := Hid.out (p := Hid _) (((((hg3.set0 (.int .i64 2)).set1 (.int .i64 0)).set2 (.int .i64 t.pos)).set3 (.string ⟨⟨t2.text⟩⟩)).set4 nilV)
      clear hg3 ho3 hbx3 hbz
      refine hK.out _ _ c2 (fun hHeld => ?_)
      clear hK K
      try simp only [Act.put, List.setIfInBounds_toArray, List.set_cons_zero, List.set_cons_succ, List.getElem_toArray, List.getElem_cons_succ, List.getElem_cons_zero]
      refine wpAnyH_take (i := 4) (v := .string ⟨⟨t2.text⟩⟩) rfl (by kernel_rfl) (by kernel_rfl) (by kernel_rfl) (fun _ _ _ h => h) (Or.inl ⟨by rfl, by intro w hSw; first | (go_simp; done) | (go_simp; with_reducible rfl)⟩) (by assumption) ?_
      try simp only [Act.put, List.setIfInBounds_toArray, List.set_cons_zero, List.set_cons_succ, List.getElem_toArray, List.getElem_cons_succ, List.getElem_cons_zero]
      refine wpAnyH_take (i := 5) (v := .agg #[.int .i64 2, .int .i64 0, .int .i64 t.pos, .string ⟨⟨t2.text⟩⟩, nilV]) rfl (by kernel_rfl) (by kernel_rfl) (by kernel_rfl) (fun _ _ _ h => h) (Or.inl ⟨by rfl, by intro w hSw; first | (go_simp; done) | (go_simp; with_reducible rfl)⟩) (by assumption) ?_
      try simp only [Act.put, List.setIfInBounds_toArray, List.set_cons_zero, List.set_cons_succ, List.getElem_toArray, List.getElem_cons_succ, List.getElem_cons_zero]
      refine wpAnyH_ready (rs := [7]) (by kernel_rfl) (by simp) (AllReadyH.cons rfl (fun K hK => ?_) AllReadyH.nil)
      go_simp
      have hqq : w1.heap.size + 1 ≠ w1.heap.size := Nat.succ_ne_self _
      refine hK.out _ _ ?_ (fun hHeld => ?_)
      · exact (World.cell?_setCell_far _ _ _ _ hqq).trans ((World.cell?_setCell_far _ _ _ _ hqq).trans ((World.cell?_setCell_far _ _ _ _ hqq).trans ((World.cell?_setCell_far _ _ _ _ hqq).trans ((World.cell?_setCell_far _ _ _ _ hqq).trans c2))))
      clear hK K hHeld
      refine wpAnyH_done (by kernel_rfl) ?_ _
      obtain ⟨hbx4, hbP, hbl⟩ := HG3.out.bxc
      have hbP2 : ¬ C.P = w1.heap.size + 1 := fun e => hbP e.symm
      obtain ⟨e0, e1, e2, e3, e4, ef⟩ := box5 hbx4
      clear hbx4
      go_wp2_with fail
      refine Calls.mono (qword1g (HG3.out.set0 (.int .i64 3)) (w3.heap.size) (by simp only [set_size]) ⟨#[59]⟩ (lit_sign (by decide)) (fun h => absurd h (by decide)) _ (words_one (by decide) (by decide))) ?_
      intro e w4 hq
      change WdQ C _ _ _ _ (liftD (takeT C.E [59] r2) d) e w4 at hq
      cases ht3 : takeT C.E [59] r2 with
      | error f =>
        rw [ht3] at hq hR
        obtain ⟨rfl, hf⟩ := hq
        subst hR
        exact ⟨rfl, rfl, hf⟩
      | ok p =>
        rw [ht3] at hq hR
        obtain ⟨rfl, hg, -⟩ := hq
        have k3 := take_len ht3
        obtain ⟨hb6, -, hbl6⟩ := hg.bxc
        obtain ⟨d0, d1, d2, d3, d4, df⟩ := box5 hb6
        have HG6 := Hid.out (p := Hid _) hg
        have HR := Hid.out (p := Hid _) hR
        have hfe : rows.length + 1 + p.length ≤ C.T.length := by
          have := hfw.1
          simp only [List.length_cons] at this k2
          omega
        clear hg hR hb6
        go_wp2_with fail
        refine Calls.mono (qadd HG6.out 3 0 t.pos t2.text [] none 0 0 (Or.inr ⟨rfl, rfl⟩) hfe) ?_
        rintro e w7 ⟨rfl, hg7⟩
        have HG7 := Hid.out (p := Hid _) hg7.drop
        clear hg7
        go_wp2_with fail
        go_ret
        rw [HR.out]
        refine ⟨by rw [size_none]; simp, ?_⟩
        simpa [flat, flats, idxs] using HG7.out
set_option maxRecDepth 100000 in
set_option maxHeartbeats 3200000 in
theorem qglobal_int {t : Tok} {r : List Tok} (hw : isTok wInt (t :: r) = true) (hpl : ¬ opB t.text ∧ ¬ shB t.text) : Cpr 82 [] E d (t :: r) (globalT E (t :: r)) := by
  refine cpr_of fun C w rows hE hg => ?_
  subst hE
  have hfw := hg.fewR
  have hst : stepD t.text d = d := by unfold stepD; rw [if_neg hpl.1, if_neg hpl.2]
  have HT := Hid.out (p := Hid _) (qtake_any hg (fun h => absurd h hpl.1) (fun h => absurd h hpl.2))
  have HST := Hid.out (p := Hid _) hst
  have htx : t.text = wInt := by simp only [isTok, Bool.and_eq_true, decide_eq_true_eq] at hw; exact hw.2
  have hfd3 := fld3
  obtain ⟨R, hR⟩ : ∃ R : TRes Nd, R = globalT C.E (t :: r) := ⟨_, rfl⟩
  rw [← hR]
  unfold globalT at hR
  have hlk : isTok wLock (t :: r) = false := is_alone hw (by decide)
  have htk : takeT C.E wInt (t :: r) = .ok r := by unfold takeT; rw [if_pos hw]; rfl
  rw [if_neg (by rw [hlk]; decide), htk] at hR
  simp only [posOf] at hR
  clear hlk htk
  have HTX := Hid.out (p := Hid _) htx
  clear hg hpl hst hw htx
  go_enter Tryz.func82, Tryz.ntmps82
  go_wp2_with (go_at_call 111; refine Calls.mono HT.out ?_; rintro e w1 ⟨rfl, hg, -⟩; rw [HST.out] at hg; rw [HTX.out]; have HG1 := Hid.out (p := Hid _) hg; clear hg)
  have hb1 := (Below.refl w1.heap.size w1).alloc (Nat.le_refl _) (.cells #[.int .i64 t.kind, .int .i64 t.num, .int .i64 t.pos, .string ⟨⟨wInt⟩⟩] 98)
  have hg2 := HG1.out.below hb1
  have hbx := heap_alloc_new w1 (.cells #[.int .i64 t.kind, .int .i64 t.num, .int .i64 t.pos, .string ⟨⟨wInt⟩⟩] 98)
  obtain ⟨W, hW⟩ : ∃ W, W = w1.alloc (.cells #[.int .i64 t.kind, .int .i64 t.num, .int .i64 t.pos, .string ⟨⟨wInt⟩⟩] 98) := ⟨_, rfl⟩
  have hWs : W.heap.size = w1.heap.size + 1 := by rw [hW]; simp
  rw [← hW] at hg2 hbx ⊢
  obtain ⟨b0, b1, b2, b3, bf⟩ := box4 hbx
  have HBX := Hid.out (p := Hid _) hbx
  have hPl : C.P < w1.heap.size := by obtain ⟨-, -, -, -, hP⟩ := HG1.out.cells; exact hP
  clear hb1 hW hbx HG1 HT
  cases hn : nameT C.E r with
  | error f =>
    obtain ⟨hf5, hk⟩ := name_no9 hn
    rw [hn] at hR
    have HK : Hid (∀ w2, Below W.heap.size W w2 → Calls Tryz.prog 112 #[.pointer (some ⟨C.P, 0, none⟩), .int .i64 1] w2 fun e w' => e = .panicked (badF (5, posOf C.E r)) ∧ FrP C w') := fun w2 hb => qkind_no (hg2.below hb) 1 hk
    clear hg2 hk
    refine wp_region_held_drew (S := (fun w' : World => w'.cell? ⟨w1.heap.size, 2, none⟩ = some (.int .i64 t.pos))) (by kernel_rfl) b2 (fun hHeld => ?_)
    try simp only [Act.put, List.setIfInBounds_toArray, List.set_cons_zero, List.set_cons_succ, List.getElem_toArray, List.getElem_cons_succ, List.getElem_cons_zero]
    refine wpAnyH_take (i := 0) (v := .pointer (some ⟨w1.heap.size, 2, none⟩)) rfl (by kernel_rfl) (by kernel_rfl) (by kernel_rfl) (fun _ _ _ h => h) (Or.inl ⟨by rfl, by intro w hSw; first | (go_simp; done) | (go_simp; with_reducible rfl)⟩) (by assumption) ?_
    try simp only [Act.put, List.setIfInBounds_toArray, List.set_cons_zero, List.set_cons_succ, List.getElem_toArray, List.getElem_cons_zero]
    refine wpAnyH_take (i := 1) (v := .int .i64 t.pos) rfl (by kernel_rfl) (by kernel_rfl) (by kernel_rfl) (fun _ _ _ h => h) (Or.inl ⟨by rfl, by intro w hSw; first | (go_simp; done) | (go_simp; with_reducible rfl)⟩) (by assumption) ?_
    try simp only [Act.put, List.setIfInBounds_toArray, List.set_cons_zero, List.set_cons_succ, List.getElem_toArray, List.getElem_cons_succ, List.getElem_cons_zero]
    refine wpAnyH_take (i := 2) (v := .pointer (some ⟨C.P, 0, none⟩)) rfl (by kernel_rfl) (by kernel_rfl) (by kernel_rfl) (fun _ _ _ h => h) (Or.inl ⟨by rfl, by intro w hSw; first | (go_simp; done) | (go_simp; with_reducible rfl)⟩) (by assumption) ?_
    try simp only [Act.put, List.setIfInBounds_toArray, List.set_cons_zero, List.set_cons_succ, List.getElem_toArray, List.getElem_cons_succ, List.getElem_cons_zero]
    refine wpAnyH_ready (rs := [3, 6]) (by kernel_rfl) (by simp) (AllReadyH.cons rfl (fun K hK => ?_) (AllReadyH.cons rfl (fun K hK => ?_) AllReadyH.nil))
    · go_simp
      refine Calls.mono (HK.out _ (Below.refl _ _).drew) ?_
      rintro e w3 ⟨rfl, hf⟩
      subst hf5 hR
      exact ⟨rfl, rfl, hf⟩
    · go_simp
      refine hK.out _ _ (cell_drw (cell_up b2 _)) (fun hHeld => ?_)
      clear hK K
      try simp only [Act.put, List.setIfInBounds_toArray, List.set_cons_zero, List.set_cons_succ, List.getElem_toArray, List.getElem_cons_succ, List.getElem_cons_zero]
      refine wpAnyH_ready (rs := [3]) (by kernel_rfl) (by simp) (AllReadyH.cons rfl (fun K hK => ?_) AllReadyH.nil)
      go_simp
      refine Calls.mono (HK.out _ ((Below.refl _ _).alloc (Nat.le_refl _) _).drew) ?_
      rintro e w3 ⟨rfl, hf⟩
      subst hf5 hR
      exact ⟨rfl, rfl, hf⟩
  | ok y =>
    obtain ⟨s, r2⟩ := y
    have k2 := name_len hn
    obtain ⟨t2, rfl, hkt, rfl⟩ := name_ok9 hn
    rw [hn] at hR
    simp only at hR
    have HG2 := Hid.out (p := Hid _) hg2
    have HKT := Hid.out (p := Hid _) hkt
    clear hg2 hn hkt
    refine wp_region_held_drew (S := (fun w' : World => w'.cell? ⟨w1.heap.size, 2, none⟩ = some (.int .i64 t.pos))) (by kernel_rfl) b2 (fun hHeld => ?_)
    try simp only [Act.put, List.setIfInBounds_toArray, List.set_cons_zero, List.set_cons_succ, List.getElem_toArray, List.getElem_cons_succ, List.getElem_cons_zero]
    refine wpAnyH_take (i := 0) (v := .pointer (some ⟨w1.heap.size, 2, none⟩)) rfl (by kernel_rfl) (by kernel_rfl) (by kernel_rfl) (fun _ _ _ h => h) (Or.inl ⟨by rfl, by intro w hSw; first | (go_simp; done) | (go_simp; with_reducible rfl)⟩) (by assumption) ?_
    try simp only [Act.put, List.setIfInBounds_toArray, List.set_cons_zero, List.set_cons_succ, List.getElem_toArray, List.getElem_cons_zero]
    refine wpAnyH_take (i := 1) (v := .int .i64 t.pos) rfl (by kernel_rfl) (by kernel_rfl) (by kernel_rfl) (fun _ _ _ h => h) (Or.inl ⟨by rfl, by intro w hSw; first | (go_simp; done) | (go_simp; with_reducible rfl)⟩) (by assumption) ?_
    try simp only [Act.put, List.setIfInBounds_toArray, List.set_cons_zero, List.set_cons_succ, List.getElem_toArray, List.getElem_cons_succ, List.getElem_cons_zero]
    refine wpAnyH_take (i := 2) (v := .pointer (some ⟨C.P, 0, none⟩)) rfl (by kernel_rfl) (by kernel_rfl) (by kernel_rfl) (fun _ _ _ h => h) (Or.inl ⟨by rfl, by intro w hSw; first | (go_simp; done) | (go_simp; with_reducible rfl)⟩) (by assumption) ?_
    try simp only [Act.put, List.setIfInBounds_toArray, List.set_cons_zero, List.set_cons_succ, List.getElem_toArray, List.getElem_cons_succ, List.getElem_cons_zero]
    refine wpAnyH_ready (rs := [3, 6]) (by kernel_rfl) (by simp) (AllReadyH.cons rfl (fun K hK => ?_) (AllReadyH.cons rfl (fun K hK => ?_) AllReadyH.nil))
    · go_simp
      refine Calls.mono (qkind_yes (HG2.out.below (Below.refl _ _).drew) 1 HKT.out (Or.inl rfl)) ?_
      rintro e w3 ⟨rfl, hg3, ho3⟩
      have hbx3 := (ho3.block w1.heap.size (by show w1.heap.size < W.heap.size; omega) (by omega)).trans HBX.out
      obtain ⟨c0, c1, c2, c3, cf⟩ := box4 hbx3
      have hl3 := lt_of_cell c0
      have HG3 := Hid.out (p := Hid _) (hg3.box (.cells #[.int .i64 2, .int .i64 0, .int .i64 t.pos, .string ⟨⟨t2.text⟩⟩, nilV] 60))
      clear hg3 ho3 hbx3
      refine hK.out _ _ c2 (fun hHeld => ?_)
      clear hK K
      try simp only [Act.put, List.setIfInBounds_toArray, List.set_cons_zero, List.set_cons_succ, List.getElem_toArray, List.getElem_cons_succ, List.getElem_cons_zero]
      refine wpAnyH_take (i := 4) (v := .string ⟨⟨t2.text⟩⟩) rfl (by kernel_rfl) (by kernel_rfl) (by kernel_rfl) (fun _ _ _ h => h) (Or.inl ⟨by rfl, by intro w hSw; first | (go_simp; done) | (go_simp; with_reducible rfl)⟩) (by assumption) ?_
      try simp only [Act.put, List.setIfInBounds_toArray, List.set_cons_zero, List.set_cons_succ, List.getElem_toArray, List.getElem_cons_succ, List.getElem_cons_zero]
      refine wpAnyH_take (i := 5) (v := .agg #[.int .i64 2, .int .i64 0, .int .i64 t.pos, .string ⟨⟨t2.text⟩⟩, nilV]) rfl (by kernel_rfl) (by kernel_rfl) (by kernel_rfl) (fun _ _ _ h => h) (Or.inl ⟨by rfl, by intro w hSw; first | (go_simp; done) | (go_simp; with_reducible rfl)⟩) (by assumption) ?_
      try simp only [Act.put, List.setIfInBounds_toArray, List.set_cons_zero, List.set_cons_succ, List.getElem_toArray, List.getElem_cons_succ, List.getElem_cons_zero]
      refine wpAnyH_ready (rs := [6]) (by kernel_rfl) (by simp) (AllReadyH.cons rfl (fun K hK => ?_) AllReadyH.nil)
      go_simp
      refine hK.out _ _ (cell_up c2 _) (fun hHeld => ?_)
      clear hK K
      try simp only [Act.put, List.setIfInBounds_toArray, List.set_cons_zero, List.set_cons_succ, List.getElem_toArray, List.getElem_cons_succ, List.getElem_cons_zero]
      refine wpAnyH_ready (rs := [7]) (by kernel_rfl) (by simp) (AllReadyH.cons rfl (fun K hK => ?_) AllReadyH.nil)
      go_simp
      refine hK.out _ _ (cell_up c2 _) (fun hHeld => ?_)
      clear hK K hHeld
      refine wpAnyH_done (by kernel_rfl) ?_ _
      go_wp2_with fail
      refine Calls.mono (qis1g HG3.out (w3.heap.size + 1) (by simp) ⟨#[61]⟩ (lit_sign (by decide))) ?_
      rintro e w5 ⟨rfl, hb5⟩
      have hg5 := HG3.out.below hb5
      have HG5 := Hid.out (p := Hid _) hg5
      clear HG3 hb5 hg5
      cases hq1 : isTok [61] r2 with
      | false =>
        rw [if_neg (by rw [hq1]; decide)] at hR
        clear hq1
        go_wp2_with fail
        refine Calls.mono (qword1g HG5.out w5.heap.size rfl ⟨#[59]⟩ (lit_sign (by decide)) (fun h => absurd h (by decide)) _ (words_one (by decide) (by decide))) ?_
        intro e w4 hq
        change WdQ C _ _ _ _ (liftD (takeT C.E [59] r2) d) e w4 at hq
        cases ht3 : takeT C.E [59] r2 with
        | error f =>
          rw [ht3] at hq hR
          obtain ⟨rfl, hf⟩ := hq
          subst hR
          exact ⟨rfl, rfl, hf⟩
        | ok p =>
          rw [ht3] at hq hR
          obtain ⟨rfl, hg, -⟩ := hq
          have k3 := take_len ht3
          obtain ⟨hb6, -, hbl6⟩ := hg.bxc
          obtain ⟨d0, d1, d2, d3, d4, df⟩ := box5 hb6
          have HG6 := Hid.out (p := Hid _) hg
          have HR := Hid.out (p := Hid _) hR
          have hfe : rows.length + 1 + p.length ≤ C.T.length := by
            have := hfw.1
            simp only [List.length_cons] at this k2
            omega
          clear hg hR hb6
          go_wp2_with fail
          refine Calls.mono (qadd HG6.out 2 0 t.pos t2.text [] none 0 0 (Or.inr ⟨rfl, rfl⟩) hfe) ?_
          rintro e w7 ⟨rfl, hg7⟩
          have HG7 := Hid.out (p := Hid _) hg7.drop
          clear hg7
          go_wp2_with fail
          go_ret
          rw [HR.out]
          refine ⟨by rw [size_none]; simp, ?_⟩
          simpa [flat, flats, idxs] using HG7.out
      | true =>
        rw [if_pos hq1] at hR
        have HQ := Hid.out (p := Hid _) hq1
        have k4 : r2.tail.length + 1 = r2.length := by
          cases r2 with
          | nil => cases hq1
          | cons a b => rfl
        go_wp2_with fail
        refine Calls.mono (qfirst HG5.out HQ.out _ rfl) ?_
        intro e w6 hq
        unfold fnT at hq
        cases hv : tnumT C.E (if isTok [45] r2.tail = true then r2.tail.tail else r2.tail) with
        | error f =>
          rw [hv] at hq hR
          obtain ⟨rfl, hf⟩ := hq
          subst hR
          exact ⟨rfl, rfl, hf⟩
        | ok y =>
          obtain ⟨v, q⟩ := y
          have k5 := tnum_len hv
          have k6 : q.length < r2.tail.length := by
            split at k5
            · have := tail_le r2.tail; omega
            · exact k5
          rw [hv] at hq hR
          simp only at hR
          obtain ⟨N, hN⟩ : ∃ N, N = (if isTok [45] r2.tail = true then -v else v) := ⟨_, rfl⟩
          rw [← hN] at hR
          change (e = .returned (.int .i64 (if isTok [45] r2.tail = true then -v else v)) ∧ GoP C w6 d _ [] q rows) at hq
          rw [← hN] at hq
          obtain ⟨rfl, hg6⟩ := hq
          obtain ⟨hbx4, hbP, hbl⟩ := hg6.bxc
          have hbP2 : ¬ C.P = w3.heap.size := fun e => hbP e.symm
          obtain ⟨e0, e1, e2, e3, e4, ef⟩ := box5 hbx4
          have HG6 := Hid.out (p := Hid _) hg6
          clear hbx4 hg6 hv hN hq1 HG5 k5
          go_wp2_with fail
          refine Calls.mono (qword1g (HG6.out.set1 (.int .i64 N)) w6.heap.size (by rw [set_size]) ⟨#[59]⟩ (lit_sign (by decide)) (fun h => absurd h (by decide)) _ (words_one (by decide) (by decide))) ?_
          intro e w4 hq
          change WdQ C _ _ _ _ (liftD (takeT C.E [59] q) d) e w4 at hq
          cases ht3 : takeT C.E [59] q with
          | error f =>
            rw [ht3] at hq hR
            obtain ⟨rfl, hf⟩ := hq
            subst hR
            exact ⟨rfl, rfl, hf⟩
          | ok p =>
            rw [ht3] at hq hR
            obtain ⟨rfl, hg, -⟩ := hq
            have k3 := take_len ht3
            obtain ⟨hb6, -, hbl6⟩ := hg.bxc
            obtain ⟨d0, d1, d2, d3, d4, df⟩ := box5 hb6
            have HG6 := Hid.out (p := Hid _) hg
            have HR := Hid.out (p := Hid _) hR
            have hfe : rows.length + 1 + p.length ≤ C.T.length := by
              have := hfw.1
              simp only [List.length_cons] at this k2
              omega
            clear hg hR hb6
            go_wp2_with fail
            refine Calls.mono (qadd HG6.out 2 N t.pos t2.text [] none 0 0 (Or.inr ⟨rfl, rfl⟩) hfe) ?_
            rintro e w7 ⟨rfl, hg7⟩
            have HG7 := Hid.out (p := Hid _) hg7.drop
            clear hg7
            go_wp2_with fail
            go_ret
            rw [HR.out]
            refine ⟨by rw [size_none]; simp, ?_⟩
            simpa [flat, flats, idxs] using HG7.out

    · go_simp
      refine hK.out _ _ (cell_drw (cell_up b2 _)) (fun hHeld => ?_)
      clear hK K
      try simp only [Act.put, List.setIfInBounds_toArray, List.set_cons_zero, List.set_cons_succ, List.getElem_toArray, List.getElem_cons_succ, List.getElem_cons_zero]
      refine wpAnyH_ready (rs := [3]) (by kernel_rfl) (by simp) (AllReadyH.cons rfl (fun K hK => ?_) AllReadyH.nil)
      go_simp
      refine Calls.mono (qkind_yes ((HG2.out.box (.cells #[.int .i64 0, .int .i64 0, .int .i64 0, .string ⟨#[]⟩, nilV] 60)).below (Below.refl _ _).drew) 1 HKT.out (Or.inl rfl)) ?_
      rintro e w3 ⟨rfl, hg3, ho3⟩
      have hbx3 := (ho3.block w1.heap.size (by show w1.heap.size < _; simp; omega) (by omega)).trans ((Below.heap_alloc _ _ _ (by omega)).trans HBX.out)
      obtain ⟨c0, c1, c2, c3, cf⟩ := box4 hbx3
      have hl3 := lt_of_cell c0
      rw [hWs] at hg3
      obtain ⟨hbz, hbzP, hbzl⟩ := hg3.bxc
      obtain ⟨z0, z1, z2, z3, z4, zf⟩ := box5 hbz
      have hbzP2 : ¬ C.P = w1.heap.size + 1 := fun e => hbzP e.symm
      have HG3 := Hid.out (p := Hid _) (((((hg3.set0 (.int .i64 2)).set1 (.int .i64 0)).set2 (.int .i64 t.pos)).set3 (.string ⟨⟨t2.text⟩⟩)).set4 nilV)
      clear hg3 ho3 hbx3 hbz
      refine hK.out _ _ c2 (fun hHeld => ?_)
      clear hK K
      try simp only [Act.put, List.setIfInBounds_toArray, List.set_cons_zero, List.set_cons_succ, List.getElem_toArray, List.getElem_cons_succ, List.getElem_cons_zero]
      refine wpAnyH_take (i := 4) (v := .string ⟨⟨t2.text⟩⟩) rfl (by kernel_rfl) (by kernel_rfl) (by kernel_rfl) (fun _ _ _ h => h) (Or.inl ⟨by rfl, by intro w hSw; first | (go_simp; done) | (go_simp; with_reducible rfl)⟩) (by assumption) ?_
      try simp only [Act.put, List.setIfInBounds_toArray, List.set_cons_zero, List.set_cons_succ, List.getElem_toArray, List.getElem_cons_succ, List.getElem_cons_zero]
      refine wpAnyH_take (i := 5) (v := .agg #[.int .i64 2, .int .i64 0, .int .i64 t.pos, .string ⟨⟨t2.text⟩⟩, nilV]) rfl (by kernel_rfl) (by kernel_rfl) (by kernel_rfl) (fun _ _ _ h => h) (Or.inl ⟨by rfl, by intro w hSw; first | (go_simp; done) | (go_simp; with_reducible rfl)⟩) (by assumption) ?_
      try simp only [Act.put, List.setIfInBounds_toArray, List.set_cons_zero, List.set_cons_succ, List.getElem_toArray, List.getElem_cons_succ, List.getElem_cons_zero]
      refine wpAnyH_ready (rs := [7]) (by kernel_rfl) (by simp) (AllReadyH.cons rfl (fun K hK => ?_) AllReadyH.nil)
      go_simp
      have hqq : w1.heap.size + 1 ≠ w1.heap.size := Nat.succ_ne_self _
      refine hK.out _ _ ?_ (fun hHeld => ?_)
      · exact (World.cell?_setCell_far _ _ _ _ hqq).trans ((World.cell?_setCell_far _ _ _ _ hqq).trans ((World.cell?_setCell_far _ _ _ _ hqq).trans ((World.cell?_setCell_far _ _ _ _ hqq).trans ((World.cell?_setCell_far _ _ _ _ hqq).trans c2))))
      clear hK K hHeld
      refine wpAnyH_done (by kernel_rfl) ?_ _
      go_wp2_with fail
      refine Calls.mono (qis1g HG3.out (w3.heap.size) (by simp only [set_size]) ⟨#[61]⟩ (lit_sign (by decide))) ?_
      rintro e w5 ⟨rfl, hb5⟩
      have hg5 := HG3.out.below hb5
      have HG5 := Hid.out (p := Hid _) hg5
      clear HG3 hb5 hg5
      cases hq1 : isTok [61] r2 with
      | false =>
        rw [if_neg (by rw [hq1]; decide)] at hR
        clear hq1
        go_wp2_with fail
        refine Calls.mono (qword1g HG5.out w5.heap.size rfl ⟨#[59]⟩ (lit_sign (by decide)) (fun h => absurd h (by decide)) _ (words_one (by decide) (by decide))) ?_
        intro e w4 hq
        change WdQ C _ _ _ _ (liftD (takeT C.E [59] r2) d) e w4 at hq
        cases ht3 : takeT C.E [59] r2 with
        | error f =>
          rw [ht3] at hq hR
          obtain ⟨rfl, hf⟩ := hq
          subst hR
          exact ⟨rfl, rfl, hf⟩
        | ok p =>
          rw [ht3] at hq hR
          obtain ⟨rfl, hg, -⟩ := hq
          have k3 := take_len ht3
          obtain ⟨hb6, -, hbl6⟩ := hg.bxc
          obtain ⟨d0, d1, d2, d3, d4, df⟩ := box5 hb6
          have HG6 := Hid.out (p := Hid _) hg
          have HR := Hid.out (p := Hid _) hR
          have hfe : rows.length + 1 + p.length ≤ C.T.length := by
            have := hfw.1
            simp only [List.length_cons] at this k2
            omega
          clear hg hR hb6
          go_wp2_with fail
          refine Calls.mono (qadd HG6.out 2 0 t.pos t2.text [] none 0 0 (Or.inr ⟨rfl, rfl⟩) hfe) ?_
          rintro e w7 ⟨rfl, hg7⟩
          have HG7 := Hid.out (p := Hid _) hg7.drop
          clear hg7
          go_wp2_with fail
          go_ret
          rw [HR.out]
          refine ⟨by rw [size_none]; simp, ?_⟩
          simpa [flat, flats, idxs] using HG7.out
      | true =>
        rw [if_pos hq1] at hR
        have HQ := Hid.out (p := Hid _) hq1
        have k4 : r2.tail.length + 1 = r2.length := by
          cases r2 with
          | nil => cases hq1
          | cons a b => rfl
        go_wp2_with fail
        refine Calls.mono (qfirst HG5.out HQ.out _ rfl) ?_
        intro e w6 hq
        unfold fnT at hq
        cases hv : tnumT C.E (if isTok [45] r2.tail = true then r2.tail.tail else r2.tail) with
        | error f =>
          rw [hv] at hq hR
          obtain ⟨rfl, hf⟩ := hq
          subst hR
          exact ⟨rfl, rfl, hf⟩
        | ok y =>
          obtain ⟨v, q⟩ := y
          have k5 := tnum_len hv
          have k6 : q.length < r2.tail.length := by
            split at k5
            · have := tail_le r2.tail; omega
            · exact k5
          rw [hv] at hq hR
          simp only at hR
          obtain ⟨N, hN⟩ : ∃ N, N = (if isTok [45] r2.tail = true then -v else v) := ⟨_, rfl⟩
          rw [← hN] at hR
          change (e = .returned (.int .i64 (if isTok [45] r2.tail = true then -v else v)) ∧ GoP C w6 d _ [] q rows) at hq
          rw [← hN] at hq
          obtain ⟨rfl, hg6⟩ := hq
          obtain ⟨hbx4, hbP, hbl⟩ := hg6.bxc
          have hbP2 : ¬ C.P = w1.heap.size + 1 := fun e => hbP e.symm
          obtain ⟨e0, e1, e2, e3, e4, ef⟩ := box5 hbx4
          have HG6 := Hid.out (p := Hid _) hg6
          clear hbx4 hg6 hv hN hq1 HG5 k5
          go_wp2_with fail
          refine Calls.mono (qword1g (HG6.out.set1 (.int .i64 N)) w6.heap.size (by rw [set_size]) ⟨#[59]⟩ (lit_sign (by decide)) (fun h => absurd h (by decide)) _ (words_one (by decide) (by decide))) ?_
          intro e w4 hq
          change WdQ C _ _ _ _ (liftD (takeT C.E [59] q) d) e w4 at hq
          cases ht3 : takeT C.E [59] q with
          | error f =>
            rw [ht3] at hq hR
            obtain ⟨rfl, hf⟩ := hq
            subst hR
            exact ⟨rfl, rfl, hf⟩
          | ok p =>
            rw [ht3] at hq hR
            obtain ⟨rfl, hg, -⟩ := hq
            have k3 := take_len ht3
            obtain ⟨hb6, -, hbl6⟩ := hg.bxc
            obtain ⟨d0, d1, d2, d3, d4, df⟩ := box5 hb6
            have HG6 := Hid.out (p := Hid _) hg
            have HR := Hid.out (p := Hid _) hR
            have hfe : rows.length + 1 + p.length ≤ C.T.length := by
              have := hfw.1
              simp only [List.length_cons] at this k2
              omega
            clear hg hR hb6
            go_wp2_with fail
            refine Calls.mono (qadd HG6.out 2 N t.pos t2.text [] none 0 0 (Or.inr ⟨rfl, rfl⟩) hfe) ?_
            rintro e w7 ⟨rfl, hg7⟩
            have HG7 := Hid.out (p := Hid _) hg7.drop
            clear hg7
            go_wp2_with fail
            go_ret
            rw [HR.out]
            refine ⟨by rw [size_none]; simp, ?_⟩
            simpa [flat, flats, idxs] using HG7.out

theorem qglobal (hi : isTok wInt l = true ∨ isTok wLock l = true) : Cpr 82 [] E d l (globalT E l) := by
  cases l with
  | nil => rcases hi with h | h <;> cases h
  | cons t r =>
    rcases hi with h | h
    · refine qglobal_int h ?_
      simp only [isTok, Bool.and_eq_true, decide_eq_true_eq] at h
      rw [h.2]; decide
    · refine qglobal_lock h ?_
      simp only [isTok, Bool.and_eq_true, decide_eq_true_eq] at h
      rw [h.2]; decide
end

end Go.Proofs.YtggfbfjdiikaeaaGreatDoor
