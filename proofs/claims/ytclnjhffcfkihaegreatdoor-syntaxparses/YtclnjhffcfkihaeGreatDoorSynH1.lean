/-
  The document's parser: one more kid.
  The document's parser: if with else.
-/
import Derived.Test.YtclnjhffcfkihaeGreatDoorSynF9
namespace Go.Proofs.YtclnjhffcfkihaeGreatDoor
section
open Go.RowKit

theorem infoInt9 : (Tryz.prog.info? 3).map (fun i => (i.zero, i.size, i.bytes)) = some (some (.int .i64 0), 1, 8) := by kernel_rfl

section
variable {C : Cx9} {w w' : World} {d M : Nat} {lv : Value} {bx : Option (Nat × Obj)} {ps : List (List Int × Value)} {s : Except (Int × Int) (List Tok)} {rows : List Row}
/-- No block has changed but one. -/
structure But (kb : Option Nat) (w w' : World) : Prop where
  os : w'.os = w.os
  tape : w'.tape = w.tape
  output : w'.output = w.output
  size : w.heap.size ≤ w'.heap.size
  block : ∀ k, k < w.heap.size → some k ≠ kb → w'.heap[k]? = w.heap[k]?
theorem own_but {B : Nat} {e : TypeId} {size : Nat} {v : Value} {n : Nat} {xs : List Value} {kb : Option Nat} (h : w.ownsRow B e size v n xs) (ho : But kb w w') (hne : ∀ g, v.ownBlock = some g → some g ≠ kb) : w'.ownsRow B e size v n xs :=
  fam_keeps h fun g hg => ho.block g (h.lt g hg).2 (hne g hg)
theorem aft_but {P : Nat} {T : List Tok} {E d : Int} {tv lv : Value} {kb : Option Nat} (h : Aft w P T E d tv lv s) (ho : But kb w w') (hP : some P ≠ kb) (ht : ∀ g, tv.ownBlock = some g → some g ≠ kb) : Aft w' P T E d tv lv s := by
  have key : ∀ {i : Nat} {c a : Int}, Ps w P T E i d tv lv c a → Ps w' P T E i d tv lv c a := fun q =>
    ⟨(ho.block P q.lt hP).trans q.box, own_but q.toks ho ht, q.apart, q.le, q.few⟩
  match s, h with
  | .ok l, ⟨i, hi, h⟩ => exact ⟨i, hi, key h⟩
  | .error q, ⟨hq, h⟩ => exact ⟨hq, key h⟩
theorem kd_but {P : Nat} {x : Row × Value} {kb : Option Nat} (h : KdAt w P lv x) (ho : But kb w w') (hne : ∀ g, x.2.ownBlock = some g → some g ≠ kb) : KdAt w' P lv x := ⟨own_but h.own ho hne, h.apart, h.far⟩
theorem lst_but {P B : Nat} {tv : Value} {xs : List (Row × Value)} {kb : Option Nat} (h : Lst w B P tv lv xs) (ho : But kb w w') (hne : ∀ g, lv.ownBlock = some g → some g ≠ kb) : Lst w' B P tv lv xs := ⟨own_but h.own ho hne, Nat.le_trans h.low ho.size, h.apart, h.far⟩
/-- One more kid. -/
theorem GoS.app {ks : List Int} {ka : Option Addr} {kn kc : Nat} (h : GoS C w d M bx ((ks, .slice ka kn kc) :: ps) s rows) (hbx : ∀ z, bx = some z → ∃ cs, z.2 = .cells cs 53) (hap : ∀ p, p ∈ ps → ∀ g, (Value.slice ka kn kc).ownBlock = some g → p.2.ownBlock ≠ some g) (v : Int) (hn : ks.length ≤ 100000) (n : Nat) (hks : n = ks.length) :
    ∃ g cap w3, (AppS #[33, 33] 33 #[.slice ka kn kc, .slice (some ⟨w.heap.size, 0, none⟩) 1 1]).run Tryz.prog (w.alloc (.cells #[.int .i64 v] 3)) = .ok (.slice (some ⟨g, 0, none⟩) (n + 1) cap) w3 ∧ GoS C w3 d M bx ((ks ++ [v], .slice (some ⟨g, 0, none⟩) (n + 1) cap) :: ps) s rows ∧ ∀ p, p ∈ ps → p.2.ownBlock ≠ some g := by
  subst hks
  obtain ⟨lv, h⟩ := h
  have hk := h.ps _ (List.mem_cons_self ..)
  have hown := hk.kd.own
  simp only at hown
  obtain ⟨g, cap, w3, r1, r2, r3, r4⟩ := app_row (T := 33) Tryz.underlying33 infoInt9 rfl (by omega) hown (Below.refl _ _) (Nat.zero_le _) 1 #[.int .i64 v] rfl (by simp [Value.oneCell']) (by omega) (by omega) (by omega)
  have hsz3 : w.heap.size + 1 ≤ w3.heap.size := by have := r3.size; simpa using this
  have ho : But (Value.slice ka kn kc).ownBlock w w3 := by
    refine ⟨r3.os, r3.tape, r3.output, by omega, fun k hk1 hk2 => ?_⟩
    exact (r3.block k (by simp; omega) hk2).trans (((Below.refl w.heap.size w).alloc (Nat.le_refl _) _).block k hk1)
  obtain ⟨hP, hl⟩ := h.lts
  have hg1 : ∀ k, k < w.heap.size → some k ≠ (Value.slice ka kn kc).ownBlock → k ≠ g := fun k hk1 hk2 e => by
    rcases r4 with r4 | r4
    · exact hk2 (by rw [r4, e])
    · omega
  have hPk : some C.P ≠ (Value.slice ka kn kc).ownBlock := fun e => hk.kd.apart e.symm
  have hlk : ∀ j, lv.ownBlock = some j → some j ≠ (Value.slice ka kn kc).ownBlock := fun j hj e => hk.kd.far j e.symm hj
  have hps2 : ∀ p, p ∈ ps → ∀ j, p.2.ownBlock = some j → some j ≠ (Value.slice ka kn kc).ownBlock := fun p hp j hj e => hap p hp j e.symm hj
  have hps3 : ∀ p, p ∈ ps → p.2.ownBlock ≠ some g := fun p hp e => by
    have h1 := ((h.ps p (List.mem_cons_of_mem _ hp)).kd.own.lt g e).2
    exact hg1 g h1 (hps2 p hp g e) rfl
  refine ⟨g, cap, w3, r1, ⟨lv, ⟨ho.os.trans h.fr.os, ho.tape.trans h.fr.tape, ho.output.trans h.fr.output, Nat.le_trans h.fr.size ho.size, fun k h1 h2 h3 => ?_, h.fr.own⟩, fun z hz => ?_, fun p hp => ?_, ?_⟩, hps3⟩
  · refine (ho.block k (Nat.lt_of_lt_of_le h1 h.fr.size) fun e => ?_).trans (h.fr.block k h1 h2 h3)
    have := hk.new k e.symm
    omega
  · have hz2 := h.bx z hz
    obtain ⟨cs, hcs⟩ := hbx z hz
    refine ⟨(ho.block z.1 hz2.lt fun e => ?_).trans hz2.is, hz2.ne, hz2.far, hz2.new⟩
    exact own_apart hown (by rw [hz2.is, hcs]) (by decide) e.symm
  · rcases List.mem_cons.1 hp with rfl | hp
    · refine ⟨⟨?_, fun e => ?_, fun j hj e => ?_⟩, fun j hj => ?_⟩
      · simpa using r2
      · have : g = C.P := by simpa [Value.ownBlock] using e
        exact hg1 C.P hP hPk this.symm
      · have : g = j := by simpa [Value.ownBlock] using hj
        exact hg1 j (hl j e) (hlk j e) this.symm
      · have : g = j := by simpa [Value.ownBlock] using hj
        subst this
        rcases r4 with r4 | r4
        · exact hk.new g r4
        · have := h.fr.size
          omega
    · have h1 := h.ps p (List.mem_cons_of_mem _ hp)
      exact ⟨kd_but h1.kd ho (hps2 p hp), h1.new⟩
  · match s, h.st with
    | .ok l, ⟨ys, hok, hr, hkb⟩ =>
      have hyk : ∀ y, y ∈ ys → ∀ j, y.2.ownBlock = some j → some j ≠ (Value.slice ka kn kc).ownBlock := fun y hy j hj e => (hkb y hy j hj).2 _ (List.mem_cons_self ..) e.symm
      obtain ⟨i, c, a, hpz⟩ := hok.aft.ps
      refine ⟨ys, ⟨aft_but hok.aft ho hPk (fun j hj e => ?_), lst_but hok.lst ho hlk, fun x hx => kd_but (hok.kid x hx) ho (hyk x hx), hok.few⟩, hr, fun y hy j hj => ⟨(hkb y hy j hj).1, fun p hp e => ?_⟩⟩
      · obtain ⟨cur, hc⟩ := own_cells hpz.toks hj
        exact own_apart hown hc (by decide) e.symm
      · rcases List.mem_cons.1 hp with rfl | hp
        · have h1 : g = j := by simpa [Value.ownBlock] using e
          exact hg1 j ((hok.kid y hy).own.lt j hj).2 (hyk y hy j hj) h1.symm
        · exact (hkb y hy j hj).2 p (List.mem_cons_of_mem _ hp) e
    | .error q, ⟨d1, ys, h1, h2, h3⟩ =>
      obtain ⟨i, c, a, hpz⟩ := h1.ps
      refine ⟨d1, ys, aft_but h1 ho hPk (fun j hj e => ?_), lst_but h2 ho hlk, h3⟩
      obtain ⟨cur, hc⟩ := own_cells hpz.toks hj
      exact own_apart hown hc (by decide) e.symm
end
end

section
open Go.RowKit

attribute [local go_sem ↓] appS_eq

section
variable {E : Int} {d : Nat}
set_option maxRecDepth 100000 in
set_option maxHeartbeats 3200000 in
theorem rstmt_else (hd : d ≤ 20) {t : Tok} {r : List Tok} (hk : t.kind = 2) (hw : t.text = wIf) (IH : ∀ q, q.length < r.length → Ctr 22 [] E d q (blockT E d q) (ubD d)) {x z : Nd} {q3 q4 : List Tok} (hh : heldT E d r = .ok (x, q3)) (hb1 : blockT E d q3 = .ok (z, q4)) (hel : isTok wElse q4 = true) : Ctr 38 [] E d (t :: r) (stmtT E d (t :: r)) (ubD d + 9) := by
  refine ctr_of fun C w rows hE _ hg => ?_
  subst hE
  obtain ⟨M, hM⟩ : ∃ M, M = ubD d + 4 := ⟨_, rfl⟩
  have hM4 : 4000 ≤ M ∧ M ≤ 5000 := by rw [hM]; unfold ubD; omega
  have hfw := (hg M).fewR
  have hT := (hg M).few
  have HC := Hid.out (p := Hid _) (hg M)
  have HK := Hid.out (p := Hid _) hM4
  have HM := Hid.out (p := Hid _) hM
  have HTK : Hid (takeT C.E wIf (t :: r) = .ok r) := by
    show _ = _
    unfold takeT
    rw [if_pos (by simp [isTok, hk, hw])]
    rfl
  have HWO : Hid (wordOf (t :: r) = wIf) := by show _ = _; rw [wordOf, if_pos hk, hw]
  obtain ⟨R, hR⟩ : ∃ R, R = stmtT C.E d (t :: r) := ⟨_, rfl⟩
  rw [← hR]
  have HRS : Hid (∀ x q, R = .ok (x, q) → rows.length + ndSize x + q.length ≤ C.T.length) := fun x q hx => by
    obtain ⟨n, y, hy⟩ := (tl_stmt (e := C.E) d (t :: r)).tot
    have h3 := tld_is (st_up d (t :: r)) hy
    have h4 := (stmt_size n).1 _ _ _ _ (hy.trans (congrArg some (h3.symm.trans (hR.symm.trans hx))))
    omega
  have HR := Hid.out (p := Hid _) hR
  have HX := Hid.out (p := Hid _) (rheld9 (E := C.E) r d hd)
  have hl3 : q3.length < r.length := by
    obtain ⟨n, y, hy⟩ := he_tot (e := C.E) d r
    have h3 := tld_is (he_up r) hy
    exact (expr_len n).2.2.2 _ _ _ _ (hy.trans (congrArg some (h3.symm.trans hh)))
  have hl4 : q4.length < q3.length := by
    obtain ⟨n, y, hy⟩ := (tl_block (e := C.E) d q3).tot
    have h3 := tld_is (bl_up d q3) hy
    exact (stmt_len n).2.1 _ _ _ _ (hy.trans (congrArg some (h3.symm.trans hb1)))
  have hl5 : q4.tail.length < q4.length := is_len hel
  have HB3 := Hid.out (p := Hid _) (IH q3 hl3)
  obtain ⟨q5, hq5⟩ : ∃ q5, q5 = q4.tail := ⟨_, rfl⟩
  have HB5 := Hid.out (p := Hid _) (IH q4.tail (by omega))
  have HT5 : Hid (takeT C.E wElse q4 = .ok q5) := by show _ = _; unfold takeT; rw [if_pos hel, hq5]
  rw [← hq5] at HB5
  have HH := Hid.out (p := Hid _) hh
  have HB1 := Hid.out (p := Hid _) hb1
  have HEL := Hid.out (p := Hid _) hel
  have HMA : Hid (∀ (v5 v6 v8 : Int) (kv : Value), v5 = ((rows.length + ndSize x : Nat) : Int) - 1 → v6 = (((rows ++ flat rows.length x).length + ndSize z : Nat) : Int) - 1 → (∀ y q, blockT C.E d q5 = .ok (y, q) → v8 = (((rows ++ flat rows.length x ++ flat (rows ++ flat rows.length x).length z).length + ndSize y : Nat) : Int) - 1) → MatN rows R 9 t.pos [] kv [([v5, v6] ++ [v8], kv)] (resE (blockT C.E d q5)) (rowsE (rows ++ flat rows.length x ++ flat (rows ++ flat rows.length x).length z) (blockT C.E d q5))) := fun v5 v6 v8 kv hv5 hv6 hv8 => by
    rw [hR, stmtT_is, HWO.out, if_pos rfl, List.tail_cons, hh]
    simp only [bindT]
    rw [hb1]
    simp only
    rw [if_pos hel, ← hq5]
    cases hc : blockT C.E d q5 with
    | error f => rfl
    | ok y =>
      obtain ⟨u, q6⟩ := y
      have hv := hv8 u q6 hc
      refine ⟨rfl, [x, z, u], rfl, by simp [rowsE, flats, flat_len, Nat.add_assoc], Or.inl ?_⟩
      rw [hv5, hv6, hv]
      refine List.mem_cons.2 (Or.inl ?_)
      simp [idxs, flat_len, Nat.add_assoc]
  clear hq5 hl3 hl4 hl5 hh hb1 hel IH
  clear hg hR hM hM4
  go_enter Tryz.func38, Tryz.ntmps38
  go_wp2_with (go_at_call 20; refine Calls.mono (gat HC.out) ?_; rintro e w1 ⟨rfl, hg⟩; replace HC := Hid.out (p := Hid _) hg; clear hg)
  rw [show posE C.E (.ok (t :: r)) = t.pos from rfl]
  obtain ⟨i, d1, lv, a, hps, hil, _⟩ := HC.out.ps9
  obtain ⟨hi, -⟩ := hil _ rfl
  have hle := hps.le
  have hP := hps.lt
  have c0 := hps.c0
  have c2 := hps.c2
  obtain ⟨ta, tc, htv⟩ := hps.toks.form
  have htk := hps.toks
  rw [htv] at c0 htk
  have hlt : i < C.T.length := by
    rcases Nat.lt_or_ge i C.T.length with h1 | h1
    · exact h1
    · rw [List.drop_eq_nil_of_le h1] at hi; cases hi
  have hgd := getD_drop hlt
  rw [hi] at hgd
  simp only [List.cons.injEq] at hgd
  obtain ⟨g, rfl, t0, t1, t2, t3⟩ := htk.cells hlt
  have hlt' : (i : Int) < (C.T.length : Int) := by omega
  rw [← hgd.1] at t0 t1 t2 t3
  rw [hk] at t0
  rw [hw] at t3
  have hgl : g < w1.heap.size := lt_of_cell t0
  replace HC : Hid (GoS C (w1.drew.drew.alloc (.cells #[.int .i64 0, .int .i64 0, .int .i64 t.pos, .string ⟨#[]⟩, nilV] 53)) d M (some (w1.heap.size, .cells #[.int .i64 0, .int .i64 0, .int .i64 t.pos, .string ⟨#[]⟩, nilV] 53)) [] (.ok (t :: r)) rows) := (HC.out.below (Below.refl _ _).drew.drew).box _
  clear hil hps htk hgd hi
  go_region
  go_wp2_with fail
  go_region
  go_wp2_with (first
    | (go_at_call 21; refine Calls.mono (gtake HC.out HK.out.1 _) ?_; rintro e w2 ⟨rfl, hg⟩; replace hg : GoS C w2 d M _ [] (takeT C.E wIf (t :: r)) rows := hg; rw [HTK.out] at hg; obtain ⟨hb, hbP⟩ := hg.bxc; have hbP2 : ¬ C.P = _ := (fun e => hbP e.symm); obtain ⟨b0, b1, b2, b3, b4, bf⟩ := box5 hb; have hbl := lt_of_cell b0; have HC2 := Hid.out (p := Hid _) hg; clear hg hb HC)
    | (go_at_call 67; refine Calls.mono (HX.out C _ _ _ _ _ rfl (HC2.out.set0 _)) ?_; rintro e w5 ⟨v5, rfl, hq⟩; rw [HH.out] at hq; have hg := hq.2; have HC5 := Hid.out (p := Hid _) hg; have HV5 := Hid.out (p := Hid _) hq.1; clear hg hq HC2)
    | (go_at_call 22; refine Calls.mono (HB3.out C _ _ _ _ _ rfl HC5.out) ?_; rintro e w6 ⟨v6, rfl, hq⟩; rw [HB1.out] at hq; have hg := hq.2; obtain ⟨hb, hbP⟩ := hg.bxc; have hbP2 : ¬ C.P = _ := (fun e => hbP e.symm); obtain ⟨b0, b1, b2, b3, b4, bf⟩ := box5 hb; have hbl := lt_of_cell b0; have HC6 := Hid.out (p := Hid _) hg; have HV6 := Hid.out (p := Hid _) hq.1; clear hg hb hq HC5)
    | (go_at_call 18; refine Calls.mono (gis ((HC6.out.set4 _).kids [v5, v6] 2 rfl (by decide) #[.int .i64 v5, .int .i64 v6] rfl (by decide) w6.heap.size (by rw [set_size])) _) ?_; rintro e w7 ⟨rfl, hg⟩; rw [show isE (⟨#[101, 108, 115, 101]⟩ : ByteArray).data.toList (.ok q4) = true from HEL.out]; have HC7 := Hid.out (p := Hid _) (hg.any M); clear hg HC6)
    | (go_at_call 21; refine Calls.mono (gtake HC7.out HK.out.1 _) ?_; rintro e w8 ⟨rfl, hg⟩; replace hg : GoS C w8 d M _ _ (takeT C.E wElse q4) _ := hg; rw [HT5.out] at hg; have HC8 := Hid.out (p := Hid _) hg; clear hg HC7)
    | (go_at_call 22; refine Calls.mono (HB5.out C _ _ _ _ _ rfl HC8.out) ?_; rintro e w9 ⟨v9, rfl, hq⟩; have hq := (hq.more (show ubD d ≤ M by have := HM.out; omega)).st; have hg := hq.go; obtain ⟨hb, hbP⟩ := hg.bxc; have hbP2 : ¬ C.P = _ := (fun e => hbP e.symm); obtain ⟨b0, b1, b2, b3, b4, bf⟩ := box5 hb; have hbl := lt_of_cell b0; obtain ⟨g9, cap9, w10, r1, hg10, -⟩ := hg.app (fun z hz => (by cases hz; exact ⟨_, rfl⟩)) (fun p hp => (by simp at hp)) v9 (by simp) 2 rfl; obtain ⟨hb10, -⟩ := hg10.bxc; obtain ⟨d0, d1b, d2, d3, d4, df⟩ := box5 hb10; have HC10 := Hid.out (p := Hid _) hg10; have HV9 := Hid.out (p := Hid _) hq.val; clear hg hb hq HC8 hg10 hb10)
    | (go_at_call 23; refine Calls.mono (pre_node (HC10.out.set4 _) (HMA.out _ _ _ _ HV5.out HV6.out HV9.out) (by have := HK.out; omega) HRS.out) ?_; rintro e w11 ⟨v11, rfl, hq11⟩; skip))
  go_ret
  exact ⟨v11, rfl, hq11.more (by have := HM.out; omega)⟩
end
end

end Go.Proofs.YtclnjhffcfkihaeGreatDoor
