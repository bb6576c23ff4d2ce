/-
  The document's parser: the levels of expressions.
  The document's parser: every expression.
  The document's parser: a statement ahead of its node; what is assigned.
  The document's signs.
-/
import Derived.Test.YtggfbfjdiikaeaaGreatDoorSynF2
import Derived.Deep.LoopGhost
import Derived.Test.YtggfbfjdiikaeaaGreatDoorBase
namespace Go.Proofs.YtggfbfjdiikaeaaGreatDoor
section
open Go.RowKit

section
variable {E : Int} {d : Nat} {l : List Tok}
theorem sign_kind {k : Nat} {t : Tok} {r : List Tok} (h : t.kind ≠ 4) : signAt k (t :: r) = none := by rw [signAt, if_neg (fun e => h e.1)]
theorem sign_lvl {k : Nat} {t : Tok} {r : List Tok} (h : lvl t.text ≠ (k : Int)) : signAt k (t :: r) = none := by rw [signAt, if_neg (fun e => h e.2)]
theorem sign_yes {k : Nat} {t : Tok} {r : List Tok} (h : t.kind = 4) (h2 : lvl t.text = (k : Int)) : signAt k (t :: r) = some (t, r) := by rw [signAt, if_pos ⟨h, h2⟩]
/-- Over a token. -/
theorem GoS.adv {C : Cx9} {w : World} {d M : Nat} {bx : Option (Nat × Obj)} {ps : List (List Int × Value)} {t : Tok} {r : List Tok} {rows : List Row} (h : GoS C w d M bx ps (.ok (t :: r)) rows) {i : Nat} {d1 : Int} {tv lv : Value} {c a : Int} (hp : Ps w C.P C.T C.E i d1 tv lv c a) : GoS C (w.setCell ⟨C.P, 2, none⟩ (.int .i64 ((i : Int) + 1))) d M bx ps (.ok r) rows := by
  obtain ⟨lv', h⟩ := h
  have ho : Only C.P w (w.setCell ⟨C.P, 2, none⟩ (.int .i64 ((i : Int) + 1))) := (Only.refl _ _).set _ _
  refine ⟨lv', h.fr.trans (FrN.of ho), fun z hz => (h.bx z hz).fr (FrN.of ho), fun p hp => ⟨(h.ps p hp).kd.fr (FrN.of ho), (h.ps p hp).new⟩, ?_⟩
  obtain ⟨ys, hok, hr, hkb⟩ := h.st
  obtain ⟨i2, hi2, hp2⟩ := hok.aft
  have e := hp.c2.symm.trans hp2.c2
  simp only [Option.some.injEq, Value.int.injEq, true_and] at e
  have e2 : i = i2 := by omega
  subst e2
  have hlt : i < C.T.length := by
    rcases Nat.lt_or_ge i C.T.length with h1 | h1
    · exact h1
    · rw [List.drop_eq_nil_of_le h1] at hi2; cases hi2
  have hd2 := getD_drop hlt
  rw [hi2] at hd2
  simp only [List.cons.injEq] at hd2
  exact ⟨ys, hok.only ho ⟨i + 1, hd2.2.symm, hp2.next ho hlt (heap_set9 hp2.box)⟩ (by simp), hr, hkb⟩
/-- A round of a level. -/
inductive LvI (C : Cx9) (d k : Nat) (rows : List Row) (len M : Nat) (R : TRes Nd) (g : Nat) (v : Int) (wr : World) : Prop where
  | ok (x : Nd) (q : List Tok) (hv : v = ((rows.length + ndSize x : Nat) : Int) - 1) (hg : GoS C wr d M none [] (.ok q) (rows ++ flat rows.length x)) (hR : loopT C.E k d x q = R) (hs : ndSize x + q.length ≤ len) (hm : q.length + 1 ≤ g)
  | err (q : Int × Int) (hg : GoS C wr d M none [] (.error q) []) (hR : R = .error q)
theorem rexpr_five (H : Ctr 92 [] E d l (unaryT E d l) (ubD d)) : Ctr 73 [.int .i64 5] E d l (exprT E 5 d l) (ubD d) := by
  refine ctr_of fun C w rows hE hw hg => ?_
  rw [exprT_five]
  have HC := Hid.out (p := Hid _) (H C w 4000 none [] rows hE (hg 4000))
  clear H hg
  go_enter Tryz.func73, Tryz.ntmps73
  go_wp2_with (go_at_call 92; refine Calls.mono HC.out ?_; rintro e w1 ⟨v, rfl, hr⟩)
  go_ret
  exact ⟨_, rfl, hr⟩
set_option maxRecDepth 100000 in
set_option maxHeartbeats 3200000 in
theorem rexpr_low {k : Nat} (hk : k < 5) (H : Ctr 73 [.int .i64 ((k + 1 : Nat) : Int)] E d l (exprT E (k + 1) d l) (ubD d + (4 - k)))
    (IH : ∀ r, r.length < l.length → Ctr 73 [.int .i64 ((k + 1 : Nat) : Int)] E d r (exprT E (k + 1) d r) (ubD d + (4 - k))) : Ctr 73 [.int .i64 (k : Int)] E d l (exprT E k d l) (ubD d + (5 - k)) := by
  refine ctr_of fun C w rows hE hw hg => ?_
  subst hE
  have hk' : ((k : Int) == 5) = false := by simp; omega
  have hk2 : k ≤ 4 := by omega
  have hfw := (hg 4000).fewR
  have hT := (hg 4000).few
  obtain ⟨R, hR⟩ : ∃ R, R = exprT C.E k d l := ⟨_, rfl⟩
  rw [← hR]
  have HR := Hid.out (p := Hid _) (hR.trans (exprT_low hk d l))
  have HC := Hid.out (p := Hid _) (H C w 4000 none [] rows rfl (hg 4000))
  have HSZ : Hid (∀ r x q, exprT C.E (k + 1) d r = .ok (x, q) → ndSize x + q.length ≤ r.length) := fun r x q hx => by
    obtain ⟨n, y, hy⟩ := ex_tot (e := C.E) (k + 1) d r (by omega)
    have h3 := tld_is (ex_up (k + 1) r) hy
    exact (expr_size n).1 _ _ _ _ _ (hy.trans (congrArg some (h3.symm.trans hx)))
  obtain ⟨M, hM⟩ : ∃ M, M = ubD d + (5 - k) := ⟨_, rfl⟩
  rw [← hM]
  have hM2 : 4000 ≤ M ∧ M ≤ 5000 ∧ ubD d + (4 - k) + 1 = M := by rw [hM]; unfold ubD; omega
  have HM := Hid.out (p := Hid _) hM2
  have HI := Hid.out (p := Hid _) IH
  clear hg hR H IH hM hM2
  go_enter Tryz.func73, Tryz.ntmps73
  go_wp2_with (go_at_call 73; refine Calls.mono HC.out ?_; rintro e w1 ⟨v, rfl, hr⟩)
  have HL : Hid (LvI C d k rows l.length M R (l.length + 1) v w1) := by
    show LvI C d k rows l.length M R (l.length + 1) v w1
    have hRR := HR.out
    have hz := HSZ.out l
    have hm := HM.out
    generalize exprT C.E (k + 1) d l = U at hr hRR hz
    match U, hr, hRR, hz with
    | .error q, hr, hRR, _ => exact .err q (GoS.more hr (by omega)) hRR
    | .ok (x, q), hr, hRR, hz =>
      have := hz x q rfl
      exact .ok x q hr.1 (hr.2.any _) hRR.symm this (by omega)
  clear hr
  go_loopg [5] (l.length + 1) (fun g lf wr => ∃ u, lf = .int .i64 u ∧ Hid (LvI C d k rows l.length M R g u wr))
  case atStart => exact ⟨v, rfl, HL⟩
  case round =>
    obtain ⟨u, rfl, HL2⟩ := hrel
    clear HL
    rcases HL2.out with ⟨x, q, hv, hg, hR, hs, hm⟩ | ⟨q, hg, hR⟩
    · obtain ⟨i, d1, lv, a, hps, hil, _⟩ := hg.ps9
      obtain ⟨hi, hd1⟩ := hil q rfl
      have hfew := hps.few
      have hle := hps.le
      have hP := hps.lt
      have c0 := hps.c0
      have c2 := hps.c2
      have c5 : wr.cell? ⟨C.P, 5, none⟩ = some (.int .i64 0) := hps.c5
      have kf := hps.free
      obtain ⟨ta, tc, htv⟩ := hps.toks.form
      have htk := hps.toks
      have hap := hps.apart
      rw [htv] at c0 htk hap
      have HG := Hid.out (p := Hid _) hg
      have HP := Hid.out (p := Hid _) hps
      have HRR := Hid.out (p := Hid _) hR
      have HB : Hid (v = v ∧ u = ((rows.length + ndSize x : Nat) : Int) - 1 ∧ ndSize x + q.length ≤ l.length ∧ q.length + 1 ≤ gk ∧ C.T.drop i = q) := ⟨rfl, hv, hs, hm, hi⟩
      clear hil hg hps hR hv hs hm hd1
      by_cases hlt : i < C.T.length
      · obtain ⟨g, rfl, t0, t1, t2, t3⟩ := htk.cells hlt
        have hlt' : (i : Int) < (C.T.length : Int) := by omega
        have hgd := getD_drop hlt
        obtain ⟨⟨kk, vv, pp, tt⟩, ht⟩ : ∃ x, C.T.getD i tok0 = x := ⟨_, rfl⟩
        rw [ht] at t0 t1 t2 t3 hgd
        rw [hi] at hgd
        simp only at t0 t1 t2 t3
        have hgl : g < wr.heap.size := lt_of_cell t0
        have hgP : g ≠ C.P := fun e => hap (by rw [← e]; rfl)
        have HGD := Hid.out (p := Hid _) hgd
        clear ht hgd htk hap hi
        by_cases hk4 : kk = 4
        · have e4 : (kk == 4) = true := by simpa using hk4
          by_cases hlv : lvl tt = (k : Int)
          · have hne : ((k : Int) != (k : Int)) = false := by simp
            go_wp2_with fail
            go_region
            go_wp2_with fail
            go_region
            go_wp2_with (go_at_call 93; refine Calls.mono (rlevel_any _ _) ?_; rintro e w' ⟨rfl, rfl⟩; rw [show lvl (ByteArray.mk ⟨tt⟩).data.toList = (k : Int) from hlv])
            subst hk4
            obtain ⟨r, hr⟩ : ∃ r, r = C.T.drop (i + 1) := ⟨_, rfl⟩
            have hq := HGD.out
            rw [← hr] at hq
            have hgo := HG.out
            rw [hq] at hgo
            have hg1 := (hgo.adv HP.out).box (.cells #[.int .i64 4, .int .i64 vv, .int .i64 pp, .string ⟨⟨tt⟩⟩] 98)
            rw [set_size] at hg1
            have hg2 := hg1.below (Below.refl _ _).drew.drew
            have hrl : r.length < l.length := by have h1 := HB.out.2.2.1; rw [hq] at h1; simp only [List.length_cons] at h1; omega
            refine Calls.mono (HI.out r hrl C _ M _ [] _ rfl hg2) ?_
            rintro e w3 ⟨v3, rfl, hq3⟩
            have hg3 := hq3.go
            obtain ⟨hb3, hbP⟩ := hg3.bxc
            have b2 := box_cell (i := 2) (u := .int .i64 pp) hb3 rfl
            have b3 := box_cell (i := 3) (u := .string ⟨⟨tt⟩⟩) hb3 rfl
            have hbl := lt_of_cell b2
            have HRD : Hid (bindT (exprT C.E (k + 1) d r) (fun y q => loopT C.E k d (.mk 19 0 pp tt [x, y]) q) = R) := by
              show _ = _
              rw [← HRR.out, loopT_is, hq, sign_yes rfl hlv]
            have hFW : ∀ q2, resE (exprT C.E (k + 1) d r) = .ok q2 → (rowsE (rows ++ flat rows.length x) (exprT C.E (k + 1) d r)).length + 1 + q2.length ≤ C.T.length := fun q2 h2 => by
              have hz := HSZ.out r
              have h1 := HB.out.2.2.1
              rw [hq] at h1
              simp only [List.length_cons] at h1
              cases hu : exprT C.E (k + 1) d r with
              | error z => rw [hu] at h2; cases h2
              | ok y =>
                obtain ⟨y, q3⟩ := y
                rw [hu] at h2
                cases h2
                have := hz y q2 hu
                rw [rowsE, List.length_append, List.length_append, flat_len, flat_len]
                omega
            have HNO := Hid.out (p := Hid _) (gnode (hg3.kids [u, v3] 2 rfl (by decide) #[.int .i64 u, .int .i64 v3] rfl (by decide) w3.heap.size rfl) (by have := HM.out; omega) 19 0 pp tt [u, v3] _ _ _ (fun _ _ => Or.inl (List.mem_cons_self ..)) hFW)
            have HQ := Hid.out (p := Hid _) hq3
            have HQ2 := Hid.out (p := Hid _) hq
            clear hq hgo hg1 hg2 hq3 hg3 hb3 hFW hr t0 t1 t2 t3 c0 c2 c5 kf
            go_wp2_with (go_at_call 31; refine Calls.mono HNO.out ?_; rintro e w4 ⟨v4, rfl, hv4, hg4⟩)
            have HN : Hid (LvI C d k rows l.length M R (gk - 1) v4 w4) := by
              show LvI C d k rows l.length M R (gk - 1) v4 w4
              have h1 := HB.out.2.2
              rw [HQ2.out] at h1
              simp only [List.length_cons] at h1
              have hm := HM.out
              have hrd := HRD.out
              have hz := HSZ.out r
              have hq3 := HQ.out
              have hu := HB.out.2.1
              generalize exprT C.E (k + 1) d r = U at hrd hz hv4 hg4 hq3
              match U, hrd, hz, hv4, hg4, hq3 with
              | .error f, hrd, _, _, hg4, _ => exact .err f ((hg4.drop.more (M' := M) (by omega)).err _ _) hrd.symm
              | .ok (y, q2), hrd, hz, hv4, hg4, hq3 =>
                have hy := hq3.1
                have h5 := hv4 q2 rfl
                have h6 := hz y q2 rfl
                subst hy hu
                refine .ok (.mk 19 0 pp tt [x, y]) q2 ?_ ?_ hrd ?_ ?_
                · rw [h5, size_two, rowsE, List.length_append, List.length_append, flat_len, flat_len]
                  omega
                · have h7 := hg4.drop.any M
                  have h8 : rows ++ flat rows.length (.mk 19 0 pp tt [x, y]) = rowsE (rows ++ flat rows.length x) (.ok (y, q2)) ++ [⟨19, 0, pp, tt, [((rows.length + ndSize x : Nat) : Int) - 1, (((rows ++ flat rows.length x).length + ndSize y : Nat) : Int) - 1]⟩] := by
                    simp [rowsE, flat, flats, idxs, flat_len]
                  rw [h8]
                  exact h7
                · rw [size_two]; omega
                · omega
            have hgk : 1 ≤ gk := by have := HB.out.2.2.2.1; omega
            clear hv4 hg4
            go_wp2_with fail
            go_roundg (gk - 1)
            case rel => exact ⟨v4, rfl, HN⟩
            case measure => omega
          · have hne : (lvl tt != (k : Int)) = true := by simpa using hlv
            have hRx : R = .ok (x, q) := by
              rw [← HRR.out, loopT_is, HGD.out, sign_lvl hlv]
            clear hk4 hlv
            go_wp2_with fail
            go_region
            go_wp2_with fail
            go_region
            go_wp2_with (go_at_call 93; refine Calls.mono (rlevel_any _ _) ?_; rintro e w' ⟨rfl, rfl⟩; rw [show lvl (ByteArray.mk ⟨tt⟩).data.toList = lvl tt from rfl])
            go_ret
            refine ⟨u, rfl, ?_⟩
            rw [hRx]
            exact ⟨HB.out.2.1, (HG.out.below ((Below.refl _ _).alloc (Nat.le_refl _) _).drew.drew).any _⟩
        · have e4 : (kk == 4) = false := by simpa using hk4
          have hRx : R = .ok (x, q) := by
            rw [← HRR.out, loopT_is, HGD.out, sign_kind hk4]
          clear hk4
          go_wp2_with fail
          go_region
          go_wp2_with fail
          go_ret
          refine ⟨u, rfl, ?_⟩
          rw [hRx]
          exact ⟨HB.out.2.1, (HG.out.below (Below.refl _ _).drew).any _⟩
      · have hlt' : ¬ (i : Int) < (C.T.length : Int) := by omega
        have hq0 : q = [] := by rw [← hi]; exact List.drop_eq_nil_of_le (by omega)
        have hRx : R = .ok (x, q) := by
          rw [← HRR.out, loopT_is, hq0]; rfl
        clear hi hq0
        go_wp2_with fail
        go_region
        go_wp2_with fail
        go_ret
        refine ⟨u, rfl, ?_⟩
        rw [hRx]
        exact ⟨HB.out.2.1, (HG.out.below (Below.refl _ _).drew).any _⟩
    · obtain ⟨i, d1, lv, a, hps, _, hq0⟩ := hg.ps9
      have c5 : wr.cell? ⟨C.P, 5, none⟩ = some (.int .i64 q.1) := hps.c5
      have hq : (q.1 == 0) = false := by simpa using hq0 q rfl
      have HG := Hid.out (p := Hid _) hg
      clear hg hps hq0
      go_wp2_with fail
      go_region
      go_wp2_with fail
      go_ret
      refine ⟨_, rfl, ?_⟩
      rw [hR]
      exact (HG.out.below (Below.refl _ _).drew).err _ _
end
end

section
open Go.RowKit

section
variable {E : Int}
theorem prim_is (l : List Tok) (t : Tok) (r : List Tok) (hl : l = t :: r) (hk : t.kind = 3) : primT E l = .ok (.mk 15 t.num t.pos [] [], r) := by
  subst hl
  unfold primT
  rw [tnumT, if_pos hk]
  rfl
/-- Every expression, what a sign stands ahead of, what stands in brackets: the document's parser reads it. -/
theorem rexpr_all : ∀ (N : Nat) (l : List Tok), l.length ≤ N → ∀ d, d ≤ 20 → Ctr 92 [] E d l (unaryT E d l) (ubD d) ∧ Ctr 74 [] E d l (heldT E d l) (ubD d) ∧ ∀ j k : Nat, k + j = 5 → Ctr 73 [.int .i64 (k : Int)] E d l (exprT E k d l) (ubD d + (5 - k)) := by
  intro N
  induction N using Nat.strongRecOn with
  | _ N ih =>
    intro l hl d hd
    have IH : ∀ r : List Tok, r.length < l.length → ∀ d, d ≤ 20 → Ctr 92 [] E d r (unaryT E d r) (ubD d) ∧ Ctr 74 [] E d r (heldT E d r) (ubD d) ∧ ∀ j k : Nat, k + j = 5 → Ctr 73 [.int .i64 (k : Int)] E d r (exprT E k d r) (ubD d + (5 - k)) := fun r hr d hd => ih r.length (by omega) r (Nat.le_refl _) d hd
    have hheld := rheld_ctr (E := E) (l := l) hd fun r hr hd1 => (IH r hr (d + 1) hd1).2.2 5 0 rfl
    have hun : Ctr 92 [] E d l (unaryT E d l) (ubD d) := by
      by_cases h1 : isTok [45] l = true
      · exact runary_min hd h1 fun hd1 => (IH l.tail (is_len h1) (d + 1) hd1).1
      · by_cases h2 : isTok [33] l = true
        · exact runary_not hd h2 fun hd1 => (IH l.tail (is_len h2) (d + 1) hd1).1
        · by_cases h3 : isTok [40] l = true
          · rw [unaryT_is, if_neg h1, if_neg h2, if_pos h3]
            exact runary_held h3 hheld
          · rw [unaryT_is, if_neg h1, if_neg h2, if_neg h3]
            by_cases hk : ∃ t r, l = t :: r ∧ t.kind = 3
            · obtain ⟨t, r, rfl, hk⟩ := hk
              rw [prim_is _ t r rfl hk]
              exact runary_num9 t r hk _
            · exact runary_nam9 (by simpa using h1) (by simpa using h2) (by simpa using h3) fun t r hl hk2 => hk ⟨t, r, hl, hk2⟩
    refine ⟨hun, hheld, fun j => ?_⟩
    induction j with
    | zero =>
      intro k hk
      obtain rfl : k = 5 := by omega
      exact rexpr_five hun
    | succ j ihj =>
      intro k hk
      have hk5 : k < 5 := by omega
      have h4 : 5 - (k + 1) = 4 - k := by omega
      have e1 := ihj (k + 1) (by omega)
      rw [h4] at e1
      refine rexpr_low hk5 e1 fun r hr => ?_
      have e2 := (IH r hr d hd).2.2 j (k + 1) (by omega)
      rw [h4] at e2
      exact e2
theorem rexpr_ctr (l : List Tok) (d : Nat) (hd : d ≤ 20) : Ctr 73 [.int .i64 0] E d l (exprT E 0 d l) (ubD d + 5) := (rexpr_all l.length l (Nat.le_refl _) d hd).2.2 5 0 rfl
theorem rheld9 (l : List Tok) (d : Nat) (hd : d ≤ 20) : Ctr 74 [] E d l (heldT E d l) (ubD d) := (rexpr_all l.length l (Nat.le_refl _) d hd).2.1
end
end

section
open Go.RowKit

/-- What a tree leaves, whether it was read or not. -/
structure TrS (C : Cx9) (w : World) (d M : Nat) (bx : Option (Nat × Obj)) (ps : List (List Int × Value)) (rows : List Row) (r : TRes Nd) (v : Int) : Prop where
  go : GoS C w d M bx ps (resE r) (rowsE rows r)
  val : ∀ x q, r = .ok (x, q) → v = ((rows.length + ndSize x : Nat) : Int) - 1
theorem TrQ.st {C : Cx9} {w : World} {d M : Nat} {bx : Option (Nat × Obj)} {ps : List (List Int × Value)} {rows : List Row} {r : TRes Nd} {v : Int} (h : TrQ C w d M bx ps rows r v) : TrS C w d M bx ps rows r v :=
  ⟨h.go, fun x q hx => by subst hx; exact h.1⟩
/-- How all but a statement's own node stands to what is told. -/
def MatN (rows : List Row) (R : TRes Nd) (k p : Int) (t : List UInt8) (kv : Value) (ps : List (List Int × Value)) (s : Except (Int × Int) (List Tok)) (rows' : List Row) : Prop :=
  match R with
  | .ok (x, q) => s = .ok q ∧ ∃ xs, x = .mk k 0 p t xs ∧ rows' = rows ++ flats rows.length xs ∧ ((idxs rows.length xs, kv) ∈ ps ∨ (xs = [] ∧ kv = nilV))
  | .error q => s = .error q
/-- All but a statement's own node is there. -/
def PreN (C : Cx9) (w : World) (d M b : Nat) (p : Int) (rows : List Row) (R : TRes Nd) : Prop := ∃ (k : Int) (t : List UInt8) (ka : Option Addr) (kn kc : Nat) (ps : List (List Int × Value)) (s : Except (Int × Int) (List Tok)) (rows' : List Row), GoS C w d M (some (b, .cells #[.int .i64 k, .int .i64 0, .int .i64 p, .string ⟨⟨t⟩⟩, .slice ka kn kc] 60)) ps s rows' ∧ MatN rows R k p t (.slice ka kn kc) ps s rows'

section
variable {C : Cx9} {w : World} {d M b : Nat} {p : Int} {rows : List Row} {R : TRes Nd}
/-- What node makes of it. -/
theorem pre_node {bx : Option (Nat × Obj)} {k : Int} {t : List UInt8} {ka : Option Addr} {kn kc : Nat} {ps : List (List Int × Value)} {s : Except (Int × Int) (List Tok)} {rows' : List Row} (hg : GoS C w d M bx ps s rows') (hm : MatN rows R k p t (.slice ka kn kc) ps s rows') (hM : M ≤ 100000) (hfew : ∀ x q, R = .ok (x, q) → rows.length + ndSize x + q.length ≤ C.T.length) :
    Calls Tryz.prog 31 #[.pointer (some ⟨C.P, 0, none⟩), .agg #[.int .i64 k, .int .i64 0, .int .i64 p, .string ⟨⟨t⟩⟩, .slice ka kn kc]] w fun e w' => ∃ v, e = .returned (.int .i64 v) ∧ TrQ C w' d (M + 1) none [] rows R v := by
  match R, hm, hfew with
  | .ok (x, q), hm, hfew =>
    obtain ⟨rfl, xs, rfl, rfl, hk⟩ := hm
    have hf := hfew _ q rfl
    have hsz : ndSize (.mk k 0 p t xs) = ndsSize xs + 1 := rfl
    refine (gnode hg hM k 0 p t (idxs rows.length xs) ka kn kc (fun l hl => ?_) fun l hl => ?_).mono ?_
    · rcases hk with hk | ⟨rfl, hk⟩
      · exact Or.inl hk
      · exact Or.inr ⟨rfl, hk⟩
    · cases hl
      rw [List.length_append, flats_len]
      omega
    · rintro e w' ⟨v, rfl, hv, hg2⟩
      refine ⟨v, rfl, ?_, ?_⟩
      · rw [hv q rfl, hsz, List.length_append, flats_len]
        omega
      · rw [flat, ← List.append_assoc]
        exact hg2.drop.any _
  | .error q, hm, _ =>
    obtain rfl : s = .error q := hm
    refine (gnode hg hM k 0 p t [] ka kn kc (fun l hl => by cases hl) fun l hl => by cases hl).mono ?_
    rintro e w' ⟨v, rfl, hv, hg2⟩
    exact ⟨v, rfl, hg2.drop.err _ _⟩
theorem TrQ.more {r : TRes Nd} {v : Int} {bx : Option (Nat × Obj)} {ps : List (List Int × Value)} (h : TrQ C w d M bx ps rows r v) {M' : Nat} (hM : M ≤ M') : TrQ C w d M' bx ps rows r v := by
  match r, h with
  | .ok (x, q), h => exact ⟨h.1, h.2.more hM⟩
  | .error q, h => exact GoS.more h hM
end
end

section
open Go.RowKit

theorem ext_list (s : ByteArray) (i j : Nat) : (s.extract i j).data.toList = (s.data.toList.drop i).take (j - i) := by
  rw [ByteArray.data_extract, Array.toList_extract, List.extract_eq_take_drop]

theorem two_cases (s : ByteArray) (i : Nat) : (∃ l ∈ twoL, ((s.extract i (i + 2)).toList = l)) ∨ ¬ (s.data.toList.drop i).take 2 ∈ twoL := by
  by_cases h : (s.data.toList.drop i).take 2 ∈ twoL
  · refine Or.inl ⟨_, h, ?_⟩
    rw [Lib.toList_data, ext_list, Nat.add_sub_cancel_left]
  · exact Or.inr h
theorem signN_two {l : List UInt8} (h : l.take 2 ∈ twoL) : signN l = 2 := by unfold signN; rw [if_pos h]
theorem two_ne {s : ByteArray} {i : Nat} (h : ¬ (s.data.toList.drop i).take 2 ∈ twoL) {l : List UInt8} (hl : l ∈ twoL) : ((s.extract i (i + 2)).toList == l) = false := by
  rw [Lib.toList_data, ext_list, Nat.add_sub_cancel_left, beq_eq_false_iff_ne]
  intro e
  rw [e] at h
  exact h hl
theorem signN_one {s : ByteArray} {i : Nat} (hi : i < s.size) (h : ¬ (s.data.toList.drop i).take 2 ∈ twoL) : signN (s.data.toList.drop i) = if s[i] ∈ oneS then 1 else 0 := by
  unfold signN
  rw [if_neg h]
  simp only [drop_at s i hi]
theorem short_two {s : ByteArray} {i : Nat} (h : s.size ≤ i + 1) : ¬ (s.data.toList.drop i).take 2 ∈ twoL := by
  intro e
  have hl : ((s.data.toList.drop i).take 2).length = 2 := by
    simp only [twoL, List.mem_cons, List.not_mem_nil, or_false] at e
    rcases e with e | e | e | e | e | e <;> rw [e] <;> rfl
  rw [List.length_take, List.length_drop] at hl
  have h2 : s.data.toList.length = s.size := by simp
  omega
theorem oneS_mem (c : UInt8) : (c ∈ oneS) ↔ (c.toNat = 43 ∨ c.toNat = 45 ∨ c.toNat = 42 ∨ c.toNat = 60 ∨ c.toNat = 62 ∨ c.toNat = 33 ∨ c.toNat = 40 ∨ c.toNat = 41 ∨ c.toNat = 123 ∨ c.toNat = 125 ∨ c.toNat = 59 ∨ c.toNat = 44 ∨ c.toNat = 61) := by
  have e : ∀ n : UInt8, (c = n) ↔ c.toNat = n.toNat := fun n => ⟨fun h => by rw [h], fun h => UInt8.toNat_inj.1 h⟩
  simp only [oneS, List.mem_cons, List.not_mem_nil, or_false, e]
  rfl

set_option maxRecDepth 100000 in
set_option maxHeartbeats 1600000 in
theorem rsign_byte (s : ByteArray) (hs : s.size ≤ 4000) (i : Nat) (hi : i < s.size) (h : ¬ (s.data.toList.drop i).take 2 ∈ twoL) (w : World) :
    Calls Tryz.prog 72 #[.string s, .int .i64 (i : Int)] w fun e w' => e = .returned (.int .i64 (signN (s.data.toList.drop i) : Nat)) ∧ w' = w := by
  obtain ⟨r, hr⟩ : ∃ r, r = signN (s.data.toList.drop i) := ⟨_, rfl⟩
  rw [← hr]
  have HR : Hid (r = if s[i] ∈ oneS then 1 else 0) := hr.trans (signN_one hi h)
  clear hr
  by_cases h2 : (i : Int) + 1 < (s.size : Int)
  · have h1 := two_ne h (l := [60, 61]) (by simp [twoL])
    have h2 := two_ne h (l := [62, 61]) (by simp [twoL])
    have h3 := two_ne h (l := [61, 61]) (by simp [twoL])
    have h4 := two_ne h (l := [33, 61]) (by simp [twoL])
    have h5 := two_ne h (l := [38, 38]) (by simp [twoL])
    have h6 := two_ne h (l := [124, 124]) (by simp [twoL])
    clear h
    go_enter Tryz.func72, Tryz.ntmps72
    go_wp2
    all_goals go_ret
    all_goals refine ⟨ret_int ?_, rfl⟩
    all_goals (have e := HR.out; simp only [oneS_mem] at e; simp only [beq_iff_eq, beq_eq_false_iff_ne] at *; split at e <;> omega)
  · clear h
    go_enter Tryz.func72, Tryz.ntmps72
    go_wp2
    all_goals go_ret
    all_goals refine ⟨ret_int ?_, rfl⟩
    all_goals (have e := HR.out; simp only [oneS_mem] at e; simp only [beq_iff_eq, beq_eq_false_iff_ne] at *; split at e <;> omega)

set_option maxRecDepth 100000 in
set_option maxHeartbeats 1600000 in
theorem rsign_any (s : ByteArray) (hs : s.size ≤ 4000) (i : Nat) (hi : i < s.size) (w : World) :
    Calls Tryz.prog 72 #[.string s, .int .i64 (i : Int)] w fun e w' => e = .returned (.int .i64 (signN (s.data.toList.drop i) : Nat)) ∧ w' = w := by
  rcases two_cases s i with ⟨l, hl, he⟩ | h
  · have h2 : (i : Int) + 1 < (s.size : Int) := by
      rcases Nat.lt_or_ge (i + 1) s.size with h2 | h2
      · omega
      · exact absurd (by rw [← he, Lib.toList_data, ext_list, Nat.add_sub_cancel_left] at hl; exact hl) (short_two h2)
    have h3 : signN (s.data.toList.drop i) = 2 := signN_two (by rw [← he, Lib.toList_data, ext_list, Nat.add_sub_cancel_left] at hl; exact hl)
    rw [h3]
    clear h3
    simp only [twoL, List.mem_cons, List.not_mem_nil, or_false] at hl
    rcases hl with rfl | rfl | rfl | rfl | rfl | rfl
    all_goals
      first | have e1 : ((s.extract i (i + 2)).toList == [60, 61]) = true := (by rw [he]; rfl) | have e1 : ((s.extract i (i + 2)).toList == [60, 61]) = false := (by rw [he]; rfl)
      first | have e2 : ((s.extract i (i + 2)).toList == [62, 61]) = true := (by rw [he]; rfl) | have e2 : ((s.extract i (i + 2)).toList == [62, 61]) = false := (by rw [he]; rfl)
      first | have e3 : ((s.extract i (i + 2)).toList == [61, 61]) = true := (by rw [he]; rfl) | have e3 : ((s.extract i (i + 2)).toList == [61, 61]) = false := (by rw [he]; rfl)
      first | have e4 : ((s.extract i (i + 2)).toList == [33, 61]) = true := (by rw [he]; rfl) | have e4 : ((s.extract i (i + 2)).toList == [33, 61]) = false := (by rw [he]; rfl)
      first | have e5 : ((s.extract i (i + 2)).toList == [38, 38]) = true := (by rw [he]; rfl) | have e5 : ((s.extract i (i + 2)).toList == [38, 38]) = false := (by rw [he]; rfl)
      first | have e6 : ((s.extract i (i + 2)).toList == [124, 124]) = true := (by rw [he]; rfl) | have e6 : ((s.extract i (i + 2)).toList == [124, 124]) = false := (by rw [he]; rfl)
      clear he
      go_enter Tryz.func72, Tryz.ntmps72
      go_wp2
      go_ret
      exact ⟨rfl, rfl⟩
  · exact rsign_byte s hs i hi h w
end

end Go.Proofs.YtggfbfjdiikaeaaGreatDoor
