/-
  The program's parser: if.
  The program's parser: blocks.
-/
import Derived.Test.YtggfbfjdiikaeaaGreatDoorSqO
import Derived.Deep.RegionWith
import Derived.Deep.LoopGhost
namespace Go.Proofs.YtggfbfjdiikaeaaGreatDoor
section
open Go.RowKit

attribute [local go_sem ↓] appS_eq

section
variable {E : Int} {d : Nat} {l : List Tok}
set_option maxRecDepth 100000 in
set_option maxHeartbeats 1600000 in
theorem qchoice (IH : ∀ q, q.length + 1 < l.length → Cpr 115 [] E d q (blockT E d q)) : Cpr 150 [] E d l (bindT (grdT E d wIf l) fun xs r => if isTok wElse r = true then bindT (blockT E d r.tail) fun c q => .ok (.mk 9 0 (posOf E l) [] (xs ++ [c]), q) else .ok (.mk 9 0 (posOf E l) [] xs, r)) := by
  refine cpr_of fun C w rows hE hg => ?_
  subst hE
  have hfw := hg.fewR
  have HN := Hid.out (p := Hid _) (qnext hg)
  have HG := Hid.out (p := Hid _) hg
  have hfd := fld2
  obtain ⟨R, hR⟩ : ∃ R : TRes Nd, R = bindT (grdT C.E d wIf l) fun xs r => if isTok wElse r = true then bindT (blockT C.E d r.tail) fun c q => .ok (.mk 9 0 (posOf C.E l) [] (xs ++ [c]), q) else .ok (.mk 9 0 (posOf C.E l) [] xs, r) := ⟨_, rfl⟩
  rw [← hR]
  have HP : Hid ((tokE C.E l).pos = posOf C.E l) := tokE_pos _ _
  have HIH := Hid.out (p := Hid _) IH
  clear hg
  go_enter Tryz.func150, Tryz.ntmps150
  go_wp2_with (go_at_call 84; refine Calls.mono HN.out ?_; rintro e w1 ⟨rfl, hb⟩; rw [HP.out]; have HG1 := Hid.out (p := Hid _) (HG.out.below hb); clear hb)
  refine Calls.mono (qguarded ⟨#[105, 102]⟩ (by decide) IH rfl (HG1.out.box (.cells #[.int .i64 9, .int .i64 0, .int .i64 (posOf C.E l), .string ⟨#[]⟩, nilV] 60)) (grdT C.E d wIf l) rfl) ?_
  intro e w2 hq
  clear IH
  cases hx : grdT C.E d wIf l with
  | error f =>
    rw [hx] at hq hR
    obtain ⟨rfl, hf⟩ := hq
    subst hR
    exact ⟨rfl, rfl, hf⟩
  | ok y =>
    obtain ⟨xs, q⟩ := y
    obtain ⟨k1, k2⟩ := grd_len hx
    rw [hx] at hq hR
    obtain ⟨g2, n2, rfl, hg2⟩ := hq
    simp only [bindT] at hR
    obtain ⟨hb2, hbP, hbl⟩ := hg2.bxc
    have hbP2 : ¬ C.P = w1.heap.size := fun e => hbP e.symm
    obtain ⟨b0, b1, b2, b3, b4, bf⟩ := box5 hb2
    have HG2 := Hid.out (p := Hid _) hg2
    have hfw1 := hfw.1
    clear hg2 hx hb2
    go_wp2_with fail
    refine Calls.mono (qis1g (HG2.out.set4 _) w2.heap.size (by rw [set_size]) ⟨#[101, 108, 115, 101]⟩ (lit_word (by decide))) ?_
    rintro e w3 ⟨rfl, hb3⟩
    have hg3 := (HG2.out.set4 (.slice (some ⟨g2, 0, none⟩) n2 n2)).below hb3
    obtain ⟨hbx3, -, hbl3⟩ := hg3.bxc
    obtain ⟨c0, c1, c2, c3, c4, cf⟩ := box5 hbx3
    have HG3 := Hid.out (p := Hid _) hg3
    clear hg3 hb3 hbx3 b0 b1 b2 b3 b4 bf HG2
    cases hc : isTok wElse q with
    | false =>
      rw [if_neg (by rw [hc]; decide)] at hR
      have HR := Hid.out (p := Hid _) hR
      have hfe : (rows ++ flats rows.length xs).length + 1 + q.length ≤ C.T.length := by
        rw [List.length_append, flats_len]
        omega
      clear hR hc
      go_wp2_with fail
      refine Calls.mono (qadd HG3.out 9 0 (posOf C.E l) [] (idxs rows.length xs) _ _ _ (Or.inl (List.mem_cons_self ..)) hfe) ?_
      rintro e w7 ⟨rfl, hg7⟩
      have HG7 := Hid.out (p := Hid _) hg7.drop
      clear hg7
      go_wp2_with fail
      go_ret
      rw [HR.out]
      refine ⟨?_, ?_⟩
      · exact ret_int (by first | (rw [List.length_append, flats_len, kids_size]; omega) | (rw [flats_len, kids_size]; omega))
      · rw [flat, ← List.append_assoc]
        exact HG7.out
    | true =>
      rw [if_pos hc] at hR
      have htk : takeT C.E wElse q = .ok q.tail := by unfold takeT; rw [if_pos hc]
      have k3 := is_len hc
      go_wp2_with fail
      refine Calls.mono (qword1g HG3.out w3.heap.size rfl ⟨#[101, 108, 115, 101]⟩ (lit_word (by decide)) (fun h => absurd h (by decide)) _ (words_one (by decide) (by decide))) ?_
      intro e w4 hq
      change WdQ C _ _ _ _ (liftD (takeT C.E wElse q) d) e w4 at hq
      rw [htk] at hq
      obtain ⟨rfl, hg4, -⟩ := hq
      obtain ⟨hbx4, -, hbl4⟩ := hg4.bxc
      obtain ⟨d0, d1, d2, d3, d4, df⟩ := box5 hbx4
      have HB := Hid.out (p := Hid _) (HIH.out q.tail (by omega))
      have HG4 := Hid.out (p := Hid _) hg4
      have hdr : GoP C w4.drew d (some (w1.heap.size, .cells #[.int .i64 9, .int .i64 0, .int .i64 (posOf C.E l), .string ⟨#[]⟩, .slice (some ⟨g2, 0, none⟩) n2 n2] 60)) [(idxs rows.length xs, .slice (some ⟨g2, 0, none⟩) n2 n2)] q.tail (rows ++ flats rows.length xs) := hg4.below (Below.refl _ _).drew
      have HD := Hid.out (p := Hid _) hdr
      have d4d : w4.drew.cell? ⟨w1.heap.size, 4, none⟩ = some (.slice (some ⟨g2, 0, none⟩) n2 n2) := d4
      clear hg4 hbx4 htk hc c0 c1 c2 c3 c4 cf hdr
      go_wp2_with fail
      cases hy : blockT C.E d q.tail with
      | error f =>
        rw [hy] at hR
        refine wp_region_any (by kernel_rfl) ?_
        change wpAny _ _ _ _ _ _ _ (World.drew _)
        refine wpAny_ready (rs := [0, 2]) (by kernel_rfl) (by simp) ?_
        refine AllReady.cons rfl (fun K hK => ?_) (AllReady.cons rfl (fun K hK => ?_) AllReady.nil)
        · go_simp
          refine hK _ _ ?_
          clear hK K
          refine wpAny_ready (rs := [1, 2]) (by kernel_rfl) (by simp) ?_
          refine AllReady.cons rfl (fun K hK => ?_) (AllReady.cons rfl (fun K hK => ?_) AllReady.nil)
          · go_simp
            refine hK _ _ ?_
            clear hK K
            refine wpAny_ready (rs := [2]) (by kernel_rfl) (by simp) ?_
            refine AllReady.cons rfl (fun K hK => ?_) AllReady.nil
            · go_simp
              refine hK _ _ ?_
              clear hK K
              refine wpAny_ready (rs := [3]) (by kernel_rfl) (by simp) ?_
              refine AllReady.cons rfl (fun K hK => ?_) AllReady.nil
              · go_simp
                refine Calls.mono (HB.out C _ _ _ _ rfl HD.out) ?_
                intro e w5 hq
                rw [hy] at hq
                obtain ⟨rfl, hf⟩ := hq
                subst hR
                exact ⟨rfl, rfl, hf⟩
          · go_simp
            refine hK _ _ ?_
            clear hK K
            refine wpAny_ready (rs := [1, 3]) (by kernel_rfl) (by simp) ?_
            refine AllReady.cons rfl (fun K hK => ?_) (AllReady.cons rfl (fun K hK => ?_) AllReady.nil)
            · go_simp
              refine hK _ _ ?_
              clear hK K
              refine wpAny_ready (rs := [3]) (by kernel_rfl) (by simp) ?_
              refine AllReady.cons rfl (fun K hK => ?_) AllReady.nil
              · go_simp
                refine Calls.mono (HB.out C _ _ _ _ rfl HD.out) ?_
                intro e w5 hq
                rw [hy] at hq
                obtain ⟨rfl, hf⟩ := hq
                subst hR
                exact ⟨rfl, rfl, hf⟩
            · go_simp
              refine Calls.mono (HB.out C _ _ _ _ rfl HD.out) ?_
              intro e w5 hq
              rw [hy] at hq
              obtain ⟨rfl, hf⟩ := hq
              subst hR
              exact ⟨rfl, rfl, hf⟩
        · go_simp
          refine hK _ _ ?_
          clear hK K
          refine wpAny_ready (rs := [0, 3]) (by kernel_rfl) (by simp) ?_
          refine AllReady.cons rfl (fun K hK => ?_) (AllReady.cons rfl (fun K hK => ?_) AllReady.nil)
          · go_simp
            refine hK _ _ ?_
            clear hK K
            refine wpAny_ready (rs := [1, 3]) (by kernel_rfl) (by simp) ?_
            refine AllReady.cons rfl (fun K hK => ?_) (AllReady.cons rfl (fun K hK => ?_) AllReady.nil)
            · go_simp
              refine hK _ _ ?_
              clear hK K
              refine wpAny_ready (rs := [3]) (by kernel_rfl) (by simp) ?_
              refine AllReady.cons rfl (fun K hK => ?_) AllReady.nil
              · go_simp
                refine Calls.mono (HB.out C _ _ _ _ rfl HD.out) ?_
                intro e w5 hq
                rw [hy] at hq
                obtain ⟨rfl, hf⟩ := hq
                subst hR
                exact ⟨rfl, rfl, hf⟩
            · go_simp
              refine Calls.mono (HB.out C _ _ _ _ rfl HD.out) ?_
              intro e w5 hq
              rw [hy] at hq
              obtain ⟨rfl, hf⟩ := hq
              subst hR
              exact ⟨rfl, rfl, hf⟩
          · go_simp
            refine Calls.mono (HB.out C _ _ _ _ rfl HD.out) ?_
            intro e w5 hq
            rw [hy] at hq
            obtain ⟨rfl, hf⟩ := hq
            subst hR
            exact ⟨rfl, rfl, hf⟩
      | ok y =>
        obtain ⟨c, q5⟩ := y
        rw [hy] at hR
        simp only at hR
        have HY := Hid.out (p := Hid _) hy
        have HR := Hid.out (p := Hid _) hR
        have k5 := block_len hy
        have hil : (idxs rows.length xs).length ≤ 100000 := by have := idxs_len xs rows.length; have := hfw.2.1; omega
        clear hy hR d0 d1 d2 d3
        go_region_with (go_at_call 115; refine Calls.mono (HB.out C _ _ _ _ rfl HD.out) ?_; intro e w5 hq; rw [HY.out] at hq; obtain ⟨rfl, hg5⟩ := hq; obtain ⟨v5, hv5⟩ : ∃ v, v = (((rows ++ flats rows.length xs).length + ndSize c : Nat) : Int) - 1 := ⟨_, rfl⟩; rw [← hv5]; obtain ⟨hbx5, -, hbl5⟩ := hg5.bxc; obtain ⟨e0, e1, e2, e3, e4, ef⟩ := box5 hbx5; obtain ⟨g6, cap6, w6, r1, hg6, -⟩ := hg5.app (fun z hz => (by cases hz; exact ⟨_, rfl⟩)) (fun p hp => (by simp at hp)) v5 hil _ rfl; obtain ⟨hbx6, -, hbl6⟩ := hg6.bxc; obtain ⟨f0, f1, f2, f3, f4, ff⟩ := box5 hbx6; have HG6 := Hid.out (p := Hid _) hg6; have HV5 := Hid.out (p := Hid _) hv5; clear hg5 hbx5 hg6 hbx6 hv5)
        all_goals go_wp2_with fail
        all_goals
          refine Calls.mono (qadd (HG6.out.set4 _) 9 0 (posOf C.E l) [] (idxs rows.length xs ++ [v5]) _ _ _ (Or.inl (List.mem_cons_self ..)) (by rw [List.length_append, List.length_append, flats_len, flat_len]; omega)) ?_
          rintro e w7 ⟨rfl, hg7⟩
          have HG7 := Hid.out (p := Hid _) hg7.drop
          clear hg7
          go_wp2_with fail
          go_ret
          rw [HR.out]
          refine ⟨?_, ?_⟩
          · exact ret_int (by rw [kids_size, sizes_snoc]; first | (rw [List.length_append, List.length_append, flats_len, flat_len]; omega) | (rw [flats_len, flat_len]; omega))
          · have h7 : rows ++ flat rows.length (.mk 9 0 (posOf C.E l) [] (xs ++ [c])) = ((rows ++ flats rows.length xs) ++ flat (rows ++ flats rows.length xs).length c) ++ [⟨9, 0, posOf C.E l, [], idxs rows.length xs ++ [v5]⟩] := by
              rw [flat, flats_snoc, idxs_snoc, HV5.out, List.length_append, flats_len]
              simp only [List.append_assoc]
            rw [h7]
            exact HG7.out
end
end

section
open Go.RowKit

attribute [local go_sem ↓] appS_eq

/-- A round of a block. -/
structure BkI (C : Cx9) (d b : Nat) (p : Int) (rows : List Row) (len : Nat) (S : TRes (List Nd)) (g : Nat) (ka : Option Addr) (kn kc : Nat) (xs : List Nd) (q : List Tok) (wr : World) : Prop where
  go : GoP C wr (d + 1) (some (b, .cells #[.int .i64 5, .int .i64 0, .int .i64 p, .string ⟨#[]⟩, .slice ka kn kc] 60)) [(idxs rows.length xs, .slice ka kn kc)] q (rows ++ flats rows.length xs)
  is : stmtsT C.E (d + 1) xs q = S
  sz : ndsSize xs + q.length < len
  ms : q.length + 1 ≤ g
theorem stmt_len9 {e : Int} {d : Nat} {r q : List Tok} {x : Nd} (h : stmtT e d r = .ok (x, q)) : q.length < r.length ∧ ndSize x + q.length ≤ r.length := by
  obtain ⟨n, y, hy⟩ := (tl_stmt (e := e) d r).tot
  have h3 := tld_is (st_up d r) hy
  have h4 := hy.trans (congrArg some (h3.symm.trans h))
  exact ⟨(stmt_len n).1 _ _ _ _ h4, (stmt_size n).1 _ _ _ _ h4⟩
section
variable {E : Int} {d : Nat} {l : List Tok}
set_option maxRecDepth 100000 in
set_option maxHeartbeats 1600000 in
theorem qblock (IH : ∀ q, q.length < l.length → Cpr 139 [] E (d + 1) q (stmtT E (d + 1) q)) : Cpr 115 [] E d l (blockT E d l) := by
  refine cpr_of fun C w rows hE hg => ?_
  subst hE
  have hfw := hg.fewR
  have HN := Hid.out (p := Hid _) (qnext hg)
  have HG := Hid.out (p := Hid _) hg
  have hfd := fld2
  obtain ⟨R, hR⟩ : ∃ R : TRes Nd, R = blockT C.E d l := ⟨_, rfl⟩
  rw [← hR]
  rw [blockT_is] at hR
  have HP : Hid ((tokE C.E l).pos = posOf C.E l) := tokE_pos _ _
  have HIH := Hid.out (p := Hid _) IH
  clear hg IH
  go_enter Tryz.func115, Tryz.ntmps115
  go_wp2_with (go_at_call 84; refine Calls.mono HN.out ?_; rintro e w1 ⟨rfl, hb⟩; rw [HP.out]; have HG1 := Hid.out (p := Hid _) (HG.out.below hb); clear hb)
  have hg1 := HG1.out.box (.cells #[.int .i64 5, .int .i64 0, .int .i64 (posOf C.E l), .string ⟨#[]⟩, nilV] 60)
  refine Calls.mono (qword1g hg1 (w1.heap.size + 1) (by simp) ⟨#[123]⟩ (lit_sign (by decide)) (fun h => absurd h (by decide)) _ (words_open (Or.inr rfl))) ?_
  intro e w2 hq
  change WdQ C _ _ _ _ (liftD (openT C.E [123] d l) (d + 1)) e w2 at hq
  cases ht1 : openT C.E [123] d l with
  | error f =>
    rw [ht1] at hq hR
    obtain ⟨rfl, hf⟩ := hq
    subst hR
    exact ⟨rfl, rfl, hf⟩
  | ok r0 =>
    rw [ht1] at hq hR
    obtain ⟨rfl, hg, -⟩ := hq
    simp only [bindL] at hR
    have k1 := open_len ht1
    obtain ⟨S, hS⟩ : ∃ S, S = stmtsT C.E (d + 1) [] r0 := ⟨_, rfl⟩
    rw [← hS] at hR
    obtain ⟨hbx2, hbP, hbl⟩ := hg.bxc
    have hbP2 : ¬ C.P = w1.heap.size := fun e => hbP e.symm
    have HI : Hid (BkI C d w1.heap.size (posOf C.E l) rows l.length S (l.length + 1) none 0 0 [] r0 w2) := ⟨by simpa [flats, idxs] using hg.pend0, hS.symm, by simp [ndsSize]; omega, by omega⟩
    clear hg hg1 hS hbx2 ht1
    go_wp2_with fail
    go_loopg [] (l.length + 1) (fun gh wr => ∃ ka kn kc xs q, Hid (BkI C d w1.heap.size (posOf C.E l) rows l.length S gh ka kn kc xs q wr))
    case atStart => exact ⟨none, 0, 0, [], r0, HI⟩
    case round =>
      obtain ⟨ka, kn, kc, xs, q, HJ⟩ := hrel
      clear HI
      have hfw1 := hfw.1
      have hszz := HJ.out.sz
      obtain ⟨hbx, -, hbl3⟩ := HJ.out.go.bxc
      obtain ⟨c0, c1, c2, c3, c4, cf⟩ := box5 hbx
      clear hbx
      go_wp2_with fail
      refine Calls.mono (qis1g HJ.out.go wr.heap.size rfl ⟨#[125]⟩ (lit_sign (by decide))) ?_
      rintro e w3 ⟨rfl, hb3⟩
      have hg3 := HJ.out.go.below hb3
      obtain ⟨hbx3, -, hbl4⟩ := hg3.bxc
      obtain ⟨d0, d1, d2, d3, d4, df⟩ := box5 hbx3
      have HG3 := Hid.out (p := Hid _) hg3
      have hst := HJ.out.is
      rw [stmtsT_is] at hst
      clear hg3 hb3 hbx3 c0 c1 c2 c3 c4 cf
      cases hc : isTok [125] q with
      | true =>
        rw [if_pos hc] at hst
        rw [← hst] at hR
        simp only [bindT] at hR
        have htk : takeT C.E [125] q = .ok q.tail := by unfold takeT; rw [if_pos hc]
        have k3 := is_len hc
        rw [htk] at hR
        have HR := Hid.out (p := Hid _) hR
        clear hc hst hR
        go_wp2_with fail
        refine Calls.mono (qword1g HG3.out w3.heap.size rfl ⟨#[125]⟩ (lit_sign (by decide)) (fun _ => Nat.le_add_left 1 d) _ (words_shut (Or.inr rfl))) ?_
        intro e w4 hq
        change WdQ C _ _ _ _ (liftD (takeT C.E [125] q) d) e w4 at hq
        rw [htk] at hq
        obtain ⟨rfl, hg4, -⟩ := hq
        obtain ⟨hbx4, -, hbl5⟩ := hg4.bxc
        obtain ⟨e0, e1, e2, e3, e4, ef⟩ := box5 hbx4
        have HG4 := Hid.out (p := Hid _) hg4
        have hfe : (rows ++ flats rows.length xs).length + 1 + q.tail.length ≤ C.T.length := by
          rw [List.length_append, flats_len]
          omega
        clear hg4 hbx4 htk d0 d1 d2 d3 d4 df
        go_wp2_with fail
        refine Calls.mono (qadd HG4.out 5 0 (posOf C.E l) [] (idxs rows.length xs) _ _ _ (Or.inl (List.mem_cons_self ..)) hfe) ?_
        rintro e w7 ⟨rfl, hg7⟩
        have HG7 := Hid.out (p := Hid _) hg7.drop
        clear hg7
        go_wp2_with fail
        go_ret
        rw [HR.out]
        refine ⟨?_, ?_⟩
        · exact ret_int (by first | (rw [List.length_append, flats_len, kids_size]; omega) | (rw [flats_len, kids_size]; omega))
        · rw [flat, ← List.append_assoc]
          exact HG7.out
      | false =>
        rw [if_neg (by rw [hc]; decide)] at hst
        have HB := Hid.out (p := Hid _) (HIH.out q (by omega))
        have hdr := HG3.out.below (Below.refl _ _).drew
        have HD := Hid.out (p := Hid _) hdr
        have d4d : w3.drew.cell? ⟨w1.heap.size, 4, none⟩ = some (.slice ka kn kc) := d4
        clear hdr hc
        go_wp2_with fail
        cases hy : stmtT C.E (d + 1) q with
        | error f =>
          rw [hy] at hst
          rw [← hst] at hR
          refine wp_region_any (by kernel_rfl) ?_
          change wpAny _ _ _ _ _ _ _ (World.drew _)
          refine wpAny_ready (rs := [0, 2]) (by kernel_rfl) (by simp) ?_
          refine AllReady.cons rfl (fun K hK => ?_) (AllReady.cons rfl (fun K hK => ?_) AllReady.nil)
          · go_simp
            refine hK _ _ ?_
            clear hK K
            refine wpAny_ready (rs := [1, 2]) (by kernel_rfl) (by simp) ?_
            refine AllReady.cons rfl (fun K hK => ?_) (AllReady.cons rfl (fun K hK => ?_) AllReady.nil)
            · go_simp
              refine hK _ _ ?_
              clear hK K
              refine wpAny_ready (rs := [2]) (by kernel_rfl) (by simp) ?_
              refine AllReady.cons rfl (fun K hK => ?_) AllReady.nil
              · go_simp
                refine hK _ _ ?_
                clear hK K
                refine wpAny_ready (rs := [3]) (by kernel_rfl) (by simp) ?_
                refine AllReady.cons rfl (fun K hK => ?_) AllReady.nil
                · go_simp
                  refine Calls.mono (HB.out C _ _ _ _ rfl HD.out) ?_
                  intro e w5 hq
                  rw [hy] at hq
                  obtain ⟨rfl, hf⟩ := hq
                  subst hR
                  exact ⟨rfl, rfl, hf⟩
            · go_simp
              refine hK _ _ ?_
              clear hK K
              refine wpAny_ready (rs := [1, 3]) (by kernel_rfl) (by simp) ?_
              refine AllReady.cons rfl (fun K hK => ?_) (AllReady.cons rfl (fun K hK => ?_) AllReady.nil)
              · go_simp
                refine hK _ _ ?_
                clear hK K
                refine wpAny_ready (rs := [3]) (by kernel_rfl) (by simp) ?_
                refine AllReady.cons rfl (fun K hK => ?_) AllReady.nil
                · go_simp
                  refine Calls.mono (HB.out C _ _ _ _ rfl HD.out) ?_
                  intro e w5 hq
                  rw [hy] at hq
                  obtain ⟨rfl, hf⟩ := hq
                  subst hR
                  exact ⟨rfl, rfl, hf⟩
              · go_simp
                refine Calls.mono (HB.out C _ _ _ _ rfl HD.out) ?_
                intro e w5 hq
                rw [hy] at hq
                obtain ⟨rfl, hf⟩ := hq
                subst hR
                exact ⟨rfl, rfl, hf⟩
          · go_simp
            refine hK _ _ ?_
            clear hK K
            refine wpAny_ready (rs := [0, 3]) (by kernel_rfl) (by simp) ?_
            refine AllReady.cons rfl (fun K hK => ?_) (AllReady.cons rfl (fun K hK => ?_) AllReady.nil)
            · go_simp
              refine hK _ _ ?_
              clear hK K
              refine wpAny_ready (rs := [1, 3]) (by kernel_rfl) (by simp) ?_
              refine AllReady.cons rfl (fun K hK => ?_) (AllReady.cons rfl (fun K hK => ?_) AllReady.nil)
              · go_simp
                refine hK _ _ ?_
                clear hK K
                refine wpAny_ready (rs := [3]) (by kernel_rfl) (by simp) ?_
                refine AllReady.cons rfl (fun K hK => ?_) AllReady.nil
                · go_simp
                  refine Calls.mono (HB.out C _ _ _ _ rfl HD.out) ?_
                  intro e w5 hq
                  rw [hy] at hq
                  obtain ⟨rfl, hf⟩ := hq
                  subst hR
                  exact ⟨rfl, rfl, hf⟩
              · go_simp
                refine Calls.mono (HB.out C _ _ _ _ rfl HD.out) ?_
                intro e w5 hq
                rw [hy] at hq
                obtain ⟨rfl, hf⟩ := hq
                subst hR
                exact ⟨rfl, rfl, hf⟩
            · go_simp
              refine Calls.mono (HB.out C _ _ _ _ rfl HD.out) ?_
              intro e w5 hq
              rw [hy] at hq
              obtain ⟨rfl, hf⟩ := hq
              subst hR
              exact ⟨rfl, rfl, hf⟩
        | ok y =>
          obtain ⟨c, q5⟩ := y
          rw [hy] at hst
          simp only [bindT] at hst
          have HY := Hid.out (p := Hid _) hy
          have HST := Hid.out (p := Hid _) hst
          have HR := Hid.out (p := Hid _) hR
          have k5 := stmt_len9 hy
          have hms := HJ.out.ms
          have hil : (idxs rows.length xs).length ≤ 100000 := by have := idxs_len xs rows.length; have := hfw.2.1; omega
          clear hy hst hR d0 d1 d2 d3
          go_region_with (go_at_call 139; refine Calls.mono (HB.out C _ _ _ _ rfl HD.out) ?_; intro e w5 hq; rw [HY.out] at hq; obtain ⟨rfl, hg5⟩ := hq; obtain ⟨v5, hv5⟩ : ∃ v, v = (((rows ++ flats rows.length xs).length + ndSize c : Nat) : Int) - 1 := ⟨_, rfl⟩; rw [← hv5]; obtain ⟨hbx5, -, hbl5⟩ := hg5.bxc; obtain ⟨e0, e1, e2, e3, e4, ef⟩ := box5 hbx5; obtain ⟨g6, cap6, w6, r1, hg6, -⟩ := hg5.app (fun z hz => (by cases hz; exact ⟨_, rfl⟩)) (fun p hp => (by simp at hp)) v5 hil _ rfl; obtain ⟨hbx6, -, hbl6⟩ := hg6.bxc; obtain ⟨f0, f1, f2, f3, f4, ff⟩ := box5 hbx6; have HN6 : Hid (BkI C d w1.heap.size (posOf C.E l) rows l.length S (gk - 1) (some ⟨g6, 0, none⟩) ((idxs rows.length xs).length + 1) cap6 (xs ++ [c]) q5 (w6.setCell ⟨w1.heap.size, 4, none⟩ (.slice (some ⟨g6, 0, none⟩) ((idxs rows.length xs).length + 1) cap6))) := (by refine ⟨?_, HST.out, by rw [sizes_snoc]; omega, by omega⟩; have h8 := hg6.set4 (.slice (some ⟨g6, 0, none⟩) ((idxs rows.length xs).length + 1) cap6); rw [flats_snoc, idxs_snoc, ← List.append_assoc]; rw [hv5, List.length_append, flats_len] at h8; exact h8); clear hg5 hbx5 hg6 hbx6 hv5)
          all_goals go_wp2_with fail
          all_goals go_roundg (gk - 1)
          all_goals first | exact ⟨_, _, _, _, _, HN6⟩ | omega
end
end

end Go.Proofs.YtggfbfjdiikaeaaGreatDoor
