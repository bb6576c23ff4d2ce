/-
  The document's parser: blocks.
-/
import Derived.Test.YtclnjhffcfkihaeGreatDoorSynH1
import Derived.Deep.LoopGhost
namespace Go.Proofs.YtclnjhffcfkihaeGreatDoor
open Go.RowKit

attribute [local go_sem ↓] appS_eq

section
variable {E : Int} {d : Nat} {l : List Tok}
theorem GoS.pend0 {C : Cx9} {w : World} {M : Nat} {bx : Option (Nat × Obj)} {ps : List (List Int × Value)} {s : Except (Int × Int) (List Tok)} {rows : List Row} (h : GoS C w d M bx ps s rows) : GoS C w d M bx (([], nilV) :: ps) s rows := by
  obtain ⟨lv, h⟩ := h
  refine ⟨lv, h.fr, h.bx, fun p hp => ?_, ?_⟩
  · rcases List.mem_cons.1 hp with rfl | hp
    · exact ⟨kd_none _ _ _ _ _ _ _, fun g hg => by simp [Value.ownBlock] at hg⟩
    · exact h.ps p hp
  · match s, h.st with
    | .ok l, ⟨ys, h1, h2, h3⟩ =>
      refine ⟨ys, h1, h2, fun y hy g hg => ⟨(h3 y hy g hg).1, fun p hp => ?_⟩⟩
      rcases List.mem_cons.1 hp with rfl | hp
      · simp [Value.ownBlock]
      · exact (h3 y hy g hg).2 p hp
    | .error q, k => exact k
/-- A round of a block. -/
inductive BlI (C : Cx9) (d : Nat) (rows : List Row) (L : List Tok) (M : Nat) (S : TRes (List Nd)) (g : Nat) (kv : Value) (wr : World) : Prop where
  | ok (xs : List Nd) (q : List Tok) (hg : GoS C wr (d + 1) M none [(idxs rows.length xs, kv)] (.ok q) (rows ++ flats rows.length xs)) (hS : stmtsT C.E (d + 1) xs q = S) (hs : ndsSize xs + q.length < L.length) (hm : q.length + 2 ≤ g) (hO : ∃ q0, openT C.E [123] d L = .ok q0)
  | err (q : Int × Int) (ks : List Int) (hg : GoS C wr (d + 1) M none [(ks, kv)] (.error q) []) (hS : S = .error q) (hm : 1 ≤ g)
theorem idxs_len : ∀ (xs : List Nd) (b : Nat), (idxs b xs).length ≤ ndsSize xs
  | [], b => by simp [idxs, ndsSize]
  | .mk k n p t ks :: r, b => by
    have := idxs_len r (b + ndSize (.mk k n p t ks))
    simp only [idxs, ndsSize, List.length_cons, ndSize] at this ⊢
    omega

set_option maxRecDepth 100000 in
set_option maxHeartbeats 3200000 in
theorem rblock_ctr (hd : d ≤ 20) (IH : ∀ q, q.length < l.length → d + 1 ≤ 20 → Ctr 38 [] E (d + 1) q (stmtT E (d + 1) q) (ubD (d + 1) + 9)) : Ctr 22 [] E d l (blockT E d l) (ubD d) := by
  refine ctr_of fun C w rows hE _ hg => ?_
  subst hE
  obtain ⟨M, hM1, hM2, hM3, hM4⟩ : ∃ M, 4000 ≤ M ∧ M ≤ 4600 ∧ (∀ q, openT C.E [123] d l = .ok q → ubD (d + 1) + 9 ≤ M ∧ d + 1 ≤ 20) ∧ M + 1 ≤ ubD d := by
    by_cases h : d = 20
    · refine ⟨4000, by omega, by omega, fun q hq => absurd h (open_ok hq).2.1, by unfold ubD; omega⟩
    · exact ⟨ubD (d + 1) + 9, by unfold ubD; omega, by unfold ubD; omega, fun _ _ => ⟨Nat.le_refl _, by omega⟩, by unfold ubD; omega⟩
  have hfw := (hg M).fewR
  have hT := (hg M).few
  have HC := Hid.out (p := Hid _) (hg M)
  obtain ⟨R, hR⟩ : ∃ R, R = blockT C.E d l := ⟨_, rfl⟩
  rw [← hR]
  have HRS : Hid (∀ x q, R = .ok (x, q) → rows.length + ndSize x + q.length ≤ C.T.length) := fun x q hx => by
    obtain ⟨n, y, hy⟩ := (tl_block (e := C.E) d l).tot
    have h3 := tld_is (bl_up d l) hy
    have h4 := (stmt_size n).2.1 _ _ _ _ (hy.trans (congrArg some (h3.symm.trans (hR.symm.trans hx))))
    omega
  have HSZ : Hid (∀ q x q2, stmtT C.E (d + 1) q = .ok (x, q2) → ndSize x + q2.length ≤ q.length) := fun q x q2 hx => by
    obtain ⟨n, y, hy⟩ := (tl_stmt (e := C.E) (d + 1) q).tot
    have h3 := tld_is (st_up (d + 1) q) hy
    exact (stmt_size n).1 _ _ _ _ (hy.trans (congrArg some (h3.symm.trans hx)))
  have HSL : Hid (∀ q x q2, stmtT C.E (d + 1) q = .ok (x, q2) → q2.length < q.length) := fun q x q2 hx => by
    obtain ⟨n, y, hy⟩ := (tl_stmt (e := C.E) (d + 1) q).tot
    have h3 := tld_is (st_up (d + 1) q) hy
    exact (stmt_len n).1 _ _ _ _ (hy.trans (congrArg some (h3.symm.trans hx)))
  have HM : Hid (4000 ≤ M ∧ M ≤ 4600 ∧ M + 1 ≤ ubD d) := ⟨hM1, hM2, hM4⟩
  -- what all statements tell
  obtain ⟨S, hS⟩ : ∃ S : TRes (List Nd), S = bindL (openT C.E [123] d l) (stmtsT C.E (d + 1) []) := ⟨_, rfl⟩
  have HR : Hid (R = bindT S fun ks q => bindL (takeT C.E [125] q) fun p => .ok (.mk 5 0 (posOf C.E l) [] ks, p)) := by
    show R = _
    rw [hR, hS, blockT_is]
    cases openT C.E [123] d l <;> rfl
  have HIH : Hid (∀ (q0 : List Tok), openT C.E [123] d l = .ok q0 → ∀ q, q.length < l.length → Ctr 38 [] C.E (d + 1) q (stmtT C.E (d + 1) q) M) := fun q0 h0 q hq => (IH q hq (hM3 q0 h0).2).more (hM3 q0 h0).1
  have HS := Hid.out (p := Hid _) hS
  clear hg hR hS IH hM1 hM2 hM3 hM4
  go_enter Tryz.func22, Tryz.ntmps22
  go_wp2_with (first
    | (go_at_call 20; refine Calls.mono (gat HC.out) ?_; rintro e w1 ⟨rfl, hg⟩; replace HC := Hid.out (p := Hid _) hg; clear hg)
    | (go_at_call 37; refine Calls.mono (gopen HC.out HM.out.1 hd _) ?_; rintro e w2 ⟨rfl, hg⟩; replace hg : GoS C w2 (d + 1) M none [] (openT C.E [123] d l) rows := hg; have HC2 := Hid.out (p := Hid _) hg; clear hg HC))
  rw [show posE C.E (.ok l) = posOf C.E l from rfl]
  have HL : Hid (BlI C d rows l M S (l.length + 2) nilV w2) := by
    show BlI C d rows l M S (l.length + 2) nilV w2
    have hg := HC2.out
    have hS := HS.out
    cases ho : openT C.E [123] d l with
    | error f =>
      rw [ho] at hg hS
      exact .err f [] (hg.pend0.err _ _) hS (by omega)
    | ok q =>
      rw [ho] at hg hS
      have := open_len ho
      refine .ok [] q ?_ hS.symm (by simp [ndsSize]; omega) (by omega) ⟨q, ho⟩
      simpa [flats, idxs] using hg.pend0
  have HOK : Hid (∀ f, S = .error f → True) := fun _ _ => trivial
  clear HC2 HOK
  go_loopg [4] (l.length + 2) (fun g kv wr => (∃ ka kn kc, kv = .slice ka kn kc) ∧ Hid (BlI C d rows l M S g kv wr))
  case atStart => exact ⟨⟨none, 0, 0, rfl⟩, HL⟩
  case round =>
    obtain ⟨⟨ka, kn, kc, rfl⟩, HL2⟩ := hrel
    clear HL
    rcases HL2.out with ⟨xs, q, hg, hSS, hs, hm, hO⟩ | ⟨f, ks, hg, hSS, hm⟩
    · obtain ⟨i, d1, lv, a, hps, hil, _⟩ := hg.ps9
      have c5 : wr.cell? ⟨C.P, 5, none⟩ = some (.int .i64 0) := hps.c5
      have HG := Hid.out (p := Hid _) hg
      have HSS := Hid.out (p := Hid _) hSS
      have HB : Hid (ndsSize xs + q.length < l.length ∧ q.length + 2 ≤ gk) := ⟨hs, hm⟩
      clear hg hps hil hSS hs hm
      cases hc : isTok [125] q with
      | true =>
        have HI : Hid (isTok [125] q = true) := hc
        have HMA : Hid (MatN rows R 5 (posOf C.E l) [] (.slice ka kn kc) [(idxs rows.length xs, .slice ka kn kc)] (takeT C.E [125] q) (rows ++ flats rows.length xs)) := by
          show MatN rows R 5 (posOf C.E l) [] (.slice ka kn kc) [(idxs rows.length xs, .slice ka kn kc)] (takeT C.E [125] q) (rows ++ flats rows.length xs)
          have hS2 := HSS.out
          rw [stmtsT_is, if_pos hc] at hS2
          rw [HR.out, ← hS2]
          simp only [bindT]
          cases ht : takeT C.E [125] q with
          | error f => rfl
          | ok p => exact ⟨rfl, xs, rfl, rfl, Or.inl (List.mem_cons_self ..)⟩
        clear hc
        go_wp2_with (first
          | (go_at_call 18; refine Calls.mono (gis HG.out _) ?_; rintro e w3 ⟨rfl, hg⟩; rw [show isE (⟨#[125]⟩ : ByteArray).data.toList (.ok q) = true from HI.out]; have HC3 := Hid.out (p := Hid _) hg; clear hg)
          | (go_at_call 39; refine Calls.mono (gshut HC3.out HM.out.1 hd _) ?_; rintro e w4 ⟨rfl, hg⟩; have HC4 := Hid.out (p := Hid _) hg; clear hg)
          | (go_at_call 23; refine Calls.mono (pre_node HC4.out HMA.out (by have := HM.out; omega) HRS.out) ?_; rintro e w5 ⟨v5, rfl, hq5⟩))
        go_ret
        exact ⟨v5, rfl, hq5.more (by have := HM.out; omega)⟩
      | false =>
        have HI : Hid (isTok [125] q = false) := hc
        have HST : Hid (bindT (stmtT C.E (d + 1) q) (fun x r => stmtsT C.E (d + 1) (xs ++ [x]) r) = S) := by
          show _ = S
          rw [← HSS.out, stmtsT_is (d + 1) xs q, if_neg (by rw [hc]; decide)]
        obtain ⟨q0, hO⟩ := hO
        have HCT := Hid.out (p := Hid _) (HIH.out q0 hO q (by have := HB.out; omega))
        have HO := Hid.out (p := Hid _) hO
        have hil : (idxs rows.length xs).length ≤ 100000 := by have := idxs_len xs rows.length; have := HB.out; omega
        clear hc hO
        go_wp2_with (first
          | (go_at_call 18; refine Calls.mono (gis HG.out _) ?_; rintro e w3 ⟨rfl, hg⟩; rw [show isE (⟨#[125]⟩ : ByteArray).data.toList (.ok q) = false from HI.out]; have HC3 := Hid.out (p := Hid _) hg; clear hg)
          | (go_at_call 38; refine Calls.mono (HCT.out C _ _ _ _ _ rfl HC3.out) ?_; rintro e w4 ⟨v4, rfl, hq⟩; have hq := hq.st; obtain ⟨g5, cap5, w5, r1, hg5, -⟩ := hq.go.app (fun z hz => (by cases hz)) (fun p hp => (by simp at hp)) v4 hil _ rfl; have HC5 := Hid.out (p := Hid _) hg5; have HV4 := Hid.out (p := Hid _) hq.val; clear hq hg5 HC3))
        have HN : Hid (BlI C d rows l M S (gk - 1) (.slice (some ⟨g5, 0, none⟩) ((idxs rows.length xs).length + 1) cap5) w5) := by
          show BlI C d rows l M S (gk - 1) _ w5
          have hst := HST.out
          have hb := HB.out
          have hg5 := HC5.out
          have hv4 := HV4.out
          have hz := HSZ.out q
          have hz2 := HSL.out q
          generalize stmtT C.E (d + 1) q = U at hst hg5 hv4 hz hz2
          match U, hst, hg5, hv4, hz, hz2 with
          | .error f, hst, hg5, _, _, _ => exact .err f _ hg5 hst.symm (by omega)
          | .ok (x, q2), hst, hg5, hv4, hz, hz2 =>
            have e1 := hv4 x q2 rfl
            have e2 := hz x q2 rfl
            have e3 := hz2 x q2 rfl
            refine .ok (xs ++ [x]) q2 ?_ hst ?_ (by omega) ⟨q0, HO.out⟩
            · have h7 : rows ++ flats rows.length (xs ++ [x]) = rowsE (rows ++ flats rows.length xs) (.ok (x, q2)) := by
                rw [flats_snoc, rowsE, List.length_append, flats_len, List.append_assoc]
              have h8 : idxs rows.length (xs ++ [x]) = idxs rows.length xs ++ [v4] := by
                rw [idxs_snoc, e1, List.length_append, flats_len]
              rw [h7, h8]
              exact hg5
            · rw [sizes_snoc]
              omega
        have hgk : 1 ≤ gk := by have := HB.out; omega
        clear HC5
        go_wp2_with fail
        go_roundg (gk - 1)
        case rel => exact ⟨⟨_, _, _, rfl⟩, HN⟩
        case measure => omega
    · obtain ⟨i, d1, lv, a, hps, _, hq0⟩ := hg.ps9
      have c5 : wr.cell? ⟨C.P, 5, none⟩ = some (.int .i64 f.1) := hps.c5
      have hf0 : (f.1 == 0) = false := by simpa using hq0 f rfl
      have HG := Hid.out (p := Hid _) hg
      have HMA : Hid (MatN rows R 5 (posOf C.E l) [] (.slice ka kn kc) [(ks, .slice ka kn kc)] (.error f) []) := by
        show MatN rows R 5 (posOf C.E l) [] (.slice ka kn kc) [(ks, .slice ka kn kc)] (.error f) []
        rw [HR.out, hSS]
        rfl
      clear hg hps hq0 hSS
      go_wp2_with (first
        | (go_at_call 39; refine Calls.mono (gshut HG.out HM.out.1 hd _) ?_; rintro e w4 ⟨rfl, hg⟩; have HC4 := Hid.out (p := Hid _) hg; clear hg)
        | (go_at_call 23; refine Calls.mono (pre_node HC4.out HMA.out (by have := HM.out; omega) HRS.out) ?_; rintro e w5 ⟨v5, rfl, hq5⟩))
      go_ret
      exact ⟨v5, rfl, hq5.more (by have := HM.out; omega)⟩
end

end Go.Proofs.YtclnjhffcfkihaeGreatDoor
