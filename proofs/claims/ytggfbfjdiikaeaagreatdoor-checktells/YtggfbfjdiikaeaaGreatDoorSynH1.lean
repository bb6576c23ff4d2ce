/-
  The document's parser: one more kid.
  The document's parser: if with else.
  The document's parser: blocks.
-/
import Derived.Test.YtggfbfjdiikaeaaGreatDoorSynF9
import Derived.Deep.LoopGhost
namespace Go.Proofs.YtggfbfjdiikaeaaGreatDoor
section
open Go.RowKit

theorem infoInt9 : (Tryz.prog.info? 3).map (fun i => (i.zero, i.size, i.bytes)) = some (some (.int .i64 0), 1, 8) := by kernel_rfl

section
variable {C : Cx9} {w w' : World} {d M : Nat} {lv : Value} {bx : Option (Nat × Obj)} {ps : List (List Int × Value)} {s : Except (Int × Int) (List Tok)} {rows : List Row}
/-- No block has changed but one. -/
structure But (kb : Option Nat) (w w' : World) : Prop where
  os : w'.os = w.os
  tape : w'.tape = w.tape
  output : w'.output = w.output
  size : w.heap.size ≤ w'.heap.size
  block : ∀ k, k < w.heap.size → some k ≠ kb → w'.heap[k]? = w.heap[k]?
theorem own_but {B : Nat} {e : TypeId} {size : Nat} {v : Value} {n : Nat} {xs : List Value} {kb : Option Nat} (h : w.ownsRow B e size v n xs) (ho : But kb w w') (hne : ∀ g, v.ownBlock = some g → some g ≠ kb) : w'.ownsRow B e size v n xs :=
  fam_keeps h fun g hg => ho.block g (h.lt g hg).2 (hne g hg)
theorem aft_but {P : Nat} {T : List Tok} {E d : Int} {tv lv : Value} {kb : Option Nat} (h : Aft w P T E d tv lv s) (ho : But kb w w') (hP : some P ≠ kb) (ht : ∀ g, tv.ownBlock = some g → some g ≠ kb) : Aft w' P T E d tv lv s := by
  have key : ∀ {i : Nat} {c a : Int}, Ps w P T E i d tv lv c a → Ps w' P T E i d tv lv c a := fun q =>
    ⟨(ho.block P q.lt hP).trans q.box, own_but q.toks ho ht, q.apart, q.le, q.few⟩
  match s, h with
  | .ok l, ⟨i, hi, h⟩ => exact ⟨i, hi, key h⟩
  | .error q, ⟨hq, h⟩ => exact ⟨hq, key h⟩
theorem kd_but {P : Nat} {x : Row × Value} {kb : Option Nat} (h : KdAt w P lv x) (ho : But kb w w') (hne : ∀ g, x.2.ownBlock = some g → some g ≠ kb) : KdAt w' P lv x := ⟨own_but h.own ho hne, h.apart, h.far⟩
theorem lst_but {P B : Nat} {tv : Value} {xs : List (Row × Value)} {kb : Option Nat} (h : Lst w B P tv lv xs) (ho : But kb w w') (hne : ∀ g, lv.ownBlock = some g → some g ≠ kb) : Lst w' B P tv lv xs := ⟨own_but h.own ho hne, Nat.le_trans h.low ho.size, h.apart, h.far⟩
/-- One more kid. -/
theorem GoS.app {ks : List Int} {ka : Option Addr} {kn kc : Nat} (h : GoS C w d M bx ((ks, .slice ka kn kc) :: ps) s rows) (hbx : ∀ z, bx = some z → ∃ cs, z.2 = .cells cs 60) (hap : ∀ p, p ∈ ps → ∀ g, (Value.slice ka kn kc).ownBlock = some g → p.2.ownBlock ≠ some g) (v : Int) (hn : ks.length ≤ 100000) (n : Nat) (hks : n = ks.length) :
    ∃ g cap w3, (AppS #[22, 22] 22 #[.slice ka kn kc, .slice (some ⟨w.heap.size, 0, none⟩) 1 1]).run Tryz.prog (w.alloc (.cells #[.int .i64 v] 3)) = .ok (.slice (some ⟨g, 0, none⟩) (n + 1) cap) w3 ∧ GoS C w3 d M bx ((ks ++ [v], .slice (some ⟨g, 0, none⟩) (n + 1) cap) :: ps) s rows ∧ ∀ p, p ∈ ps → p.2.ownBlock ≠ some g := by
  subst hks
  obtain ⟨lv, h⟩ := h
  have hk := h.ps _ (List.mem_cons_self ..)
  have hown := hk.kd.own
  simp only at hown
  obtain ⟨g, cap, w3, r1, r2, r3, r4⟩ := app_row (T := 22) Tryz.underlying22 infoInt9 rfl (by omega) hown (Below.refl _ _) (Nat.zero_le _) 1 #[.int .i64 v] rfl (by simp [Value.oneCell']) (by omega) (by omega) (by omega)
  have hsz3 : w.heap.size + 1 ≤ w3.heap.size := by have := r3.size; simpa using this
  have ho : But (Value.slice ka kn kc).ownBlock w w3 := by
    refine ⟨r3.os, r3.tape, r3.output, by omega, fun k hk1 hk2 => ?_⟩
    exact (r3.block k (by simp; omega) hk2).trans (((Below.refl w.heap.size w).alloc (Nat.le_refl _) _).block k hk1)
  obtain ⟨hP, hl⟩ := h.lts
  have hg1 : ∀ k, k < w.heap.size → some k ≠ (Value.slice ka kn kc).ownBlock → k ≠ g := fun k hk1 hk2 e => by
    rcases r4 with r4 | r4
    · exact hk2 (by rw [r4, e])
    · omega
  have hPk : some C.P ≠ (Value.slice ka kn kc).ownBlock := fun e => hk.kd.apart e.symm
  have hlk : ∀ j, lv.ownBlock = some j → some j ≠ (Value.slice ka kn kc).ownBlock := fun j hj e => hk.kd.far j e.symm hj
  have hps2 : ∀ p, p ∈ ps → ∀ j, p.2.ownBlock = some j → some j ≠ (Value.slice ka kn kc).ownBlock := fun p hp j hj e => hap p hp j e.symm hj
  have hps3 : ∀ p, p ∈ ps → p.2.ownBlock ≠ some g := fun p hp e => by
    have h1 := ((h.ps p (List.mem_cons_of_mem _ hp)).kd.own.lt g e).2
    exact hg1 g h1 (hps2 p hp g e) rfl
  refine ⟨g, cap, w3, r1, ⟨lv, ⟨ho.os.trans h.fr.os, ho.tape.trans h.fr.tape, ho.output.trans h.fr.output, Nat.le_trans h.fr.size ho.size, fun k h1 h2 h3 => ?_, h.fr.own⟩, fun z hz => ?_, fun p hp => ?_, ?_⟩, hps3⟩
  · refine (ho.block k (Nat.lt_of_lt_of_le h1 h.fr.size) fun e => ?_).trans (h.fr.block k h1 h2 h3)
    have := hk.new k e.symm
    omega
  · have hz2 := h.bx z hz
    obtain ⟨cs, hcs⟩ := hbx z hz
    refine ⟨(ho.block z.1 hz2.lt fun e => ?_).trans hz2.is, hz2.ne, hz2.far, hz2.new⟩
    exact own_apart hown (by rw [hz2.is, hcs]) (by decide) e.symm
  · rcases List.mem_cons.1 hp with rfl | hp
    · refine ⟨⟨?_, fun e => ?_, fun j hj e => ?_⟩, fun j hj => ?_⟩
      · simpa using r2
      · have : g = C.P := by simpa [Value.ownBlock] using e
        exact hg1 C.P hP hPk this.symm
      · have : g = j := by simpa [Value.ownBlock] using hj
        exact hg1 j (hl j e) (hlk j e) this.symm
      · have : g = j := by simpa [Value.ownBlock] using hj
        subst this
        rcases r4 with r4 | r4
        · exact hk.new g r4
        · have := h.fr.size
          omega
    · have h1 := h.ps p (List.mem_cons_of_mem _ hp)
      exact ⟨kd_but h1.kd ho (hps2 p hp), h1.new⟩
  · match s, h.st with
    | .ok l, ⟨ys, hok, hr, hkb⟩ =>
      have hyk : ∀ y, y ∈ ys → ∀ j, y.2.ownBlock = some j → some j ≠ (Value.slice ka kn kc).ownBlock := fun y hy j hj e => (hkb y hy j hj).2 _ (List.mem_cons_self ..) e.symm
      obtain ⟨i, c, a, hpz⟩ := hok.aft.ps
      refine ⟨ys, ⟨aft_but hok.aft ho hPk (fun j hj e => ?_), lst_but hok.lst ho hlk, fun x hx => kd_but (hok.kid x hx) ho (hyk x hx), hok.few⟩, hr, fun y hy j hj => ⟨(hkb y hy j hj).1, fun p hp e => ?_⟩⟩
      · obtain ⟨cur, hc⟩ := own_cells hpz.toks hj
        exact own_apart hown hc (by decide) e.symm
      · rcases List.mem_cons.1 hp with rfl | hp
        · have h1 : g = j := by simpa [Value.ownBlock] using e
          exact hg1 j ((hok.kid y hy).own.lt j hj).2 (hyk y hy j hj) h1.symm
        · exact (hkb y hy j hj).2 p (List.mem_cons_of_mem _ hp) e
    | .error q, ⟨d1, ys, h1, h2, h3⟩ =>
      obtain ⟨i, c, a, hpz⟩ := h1.ps
      refine ⟨d1, ys, aft_but h1 ho hPk (fun j hj e => ?_), lst_but h2 ho hlk, h3⟩
      obtain ⟨cur, hc⟩ := own_cells hpz.toks hj
      exact own_apart hown hc (by decide) e.symm
end
end

section
open Go.RowKit

attribute [local go_sem ↓] appS_eq

section
variable {E : Int} {d : Nat}
set_option maxRecDepth 100000 in
set_option maxHeartbeats 3200000 in
theorem rstmt_else (hd : d ≤ 20) {t : Tok} {r : List Tok} (hk : t.kind = 2) (hw : t.text = wIf) (IH : ∀ q, q.length < r.length → Ctr 30 [] E d q (blockT E d q) (ubD d)) {x z : Nd} {q3 q4 : List Tok} (hh : heldT E d r = .ok (x, q3)) (hb1 : blockT E d q3 = .ok (z, q4)) (hel : isTok wElse q4 = true) : Ctr 54 [] E d (t :: r) (stmtT E d (t :: r)) (ubD d + 9) := by
  refine ctr_of fun C w rows hE _ hg => ?_
  subst hE
  obtain ⟨M, hM⟩ : ∃ M, M = ubD d + 4 := ⟨_, rfl⟩
  have hM4 : 4000 ≤ M ∧ M ≤ 5000 := by rw [hM]; unfold ubD; omega
  have hfw := (hg M).fewR
  have hT := (hg M).few
  have HC := Hid.out (p := Hid _) (hg M)
  have HK := Hid.out (p := Hid _) hM4
  have HM := Hid.out (p := Hid _) hM
  have HTK : Hid (takeT C.E wIf (t :: r) = .ok r) := by
    show _ = _
    unfold takeT
    rw [if_pos (by simp [isTok, hk, hw])]
    rfl
  have HWO : Hid (wordOf (t :: r) = wIf) := by show _ = _; rw [wordOf, if_pos hk, hw]
  obtain ⟨R, hR⟩ : ∃ R, R = stmtT C.E d (t :: r) := ⟨_, rfl⟩
  rw [← hR]
  have HRS : Hid (∀ x q, R = .ok (x, q) → rows.length + ndSize x + q.length ≤ C.T.length) := fun x q hx => by
    obtain ⟨n, y, hy⟩ := (tl_stmt (e := C.E) d (t :: r)).tot
    have h3 := tld_is (st_up d (t :: r)) hy
    have h4 := (stmt_size n).1 _ _ _ _ (hy.trans (congrArg some (h3.symm.trans (hR.symm.trans hx))))
    omega
  have HR := Hid.out (p := Hid _) hR
  have HX := Hid.out (p := Hid _) (rheld9 (E := C.E) r d hd)
  have hl3 : q3.length < r.length := by
    obtain ⟨n, y, hy⟩ := he_tot (e := C.E) d r
    have h3 := tld_is (he_up r) hy
    exact (expr_len n).2.2.2 _ _ _ _ (hy.trans (congrArg some (h3.symm.trans hh)))
  have hl4 : q4.length < q3.length := by
    obtain ⟨n, y, hy⟩ := (tl_block (e := C.E) d q3).tot
    have h3 := tld_is (bl_up d q3) hy
    exact (stmt_len n).2.1 _ _ _ _ (hy.trans (congrArg some (h3.symm.trans hb1)))
  have hl5 : q4.tail.length < q4.length := is_len hel
  have HB3 := Hid.out (p := Hid _) (IH q3 hl3)
  obtain ⟨q5, hq5⟩ : ∃ q5, q5 = q4.tail := ⟨_, rfl⟩
  have HB5 := Hid.out (p := Hid _) (IH q4.tail (by omega))
  have HT5 : Hid (takeT C.E wElse q4 = .ok q5) := by show _ = _; unfold takeT; rw [if_pos hel, hq5]
  rw [← hq5] at HB5
  have HH := Hid.out (p := Hid _) hh
  have HB1 := Hid.out (p := Hid _) hb1
  have HEL := Hid.out (p := Hid _) hel
  have HMA : Hid (∀ (v5 v6 v8 : Int) (kv : Value), v5 = ((rows.length + ndSize x : Nat) : Int) - 1 → v6 = (((rows ++ flat rows.length x).length + ndSize z : Nat) : Int) - 1 → (∀ y q, blockT C.E d q5 = .ok (y, q) → v8 = (((rows ++ flat rows.length x ++ flat (rows ++ flat rows.length x).length z).length + ndSize y : Nat) : Int) - 1) → MatN rows R 9 t.pos [] kv [([v5, v6] ++ [v8], kv)] (resE (blockT C.E d q5)) (rowsE (rows ++ flat rows.length x ++ flat (rows ++ flat rows.length x).length z) (blockT C.E d q5))) := fun v5 v6 v8 kv hv5 hv6 hv8 => by
    rw [hR, stmtT_is, HWO.out, if_pos rfl, List.tail_cons, hh]
    simp only [bindT]
    rw [hb1]
    simp only
    rw [if_pos hel, ← hq5]
    cases hc : blockT C.E d q5 with
    | error f => rfl
    | ok y =>
      obtain ⟨u, q6⟩ := y
      have hv := hv8 u q6 hc
      refine ⟨rfl, [x, z, u], rfl, by simp [rowsE, flats, flat_len, Nat.add_assoc], Or.inl ?_⟩
      rw [hv5, hv6, hv]
      refine List.mem_cons.2 (Or.inl ?_)
      simp [idxs, flat_len, Nat.add_assoc]
  clear hq5 hl3 hl4 hl5 hh hb1 hel IH
  clear hg hR hM hM4
  go_enter Tryz.func54, Tryz.ntmps54
  go_wp2_with (go_at_call 28; refine Calls.mono (gat HC.out) ?_; rintro e w1 ⟨rfl, hg⟩; replace HC := Hid.out (p := Hid _) hg; clear hg)
  rw [show posE C.E (.ok (t :: r)) = t.pos from rfl]
  obtain ⟨i, d1, lv, a, hps, hil, _⟩ := HC.out.ps9
  obtain ⟨hi, -⟩ := hil _ rfl
  have hle := hps.le
  have hP := hps.lt
  have c0 := hps.c0
  have c2 := hps.c2
  obtain ⟨ta, tc, htv⟩ := hps.toks.form
  have htk := hps.toks
  rw [htv] at c0 htk
  have hlt : i < C.T.length := by
    rcases Nat.lt_or_ge i C.T.length with h1 | h1
    · exact h1
    · rw [List.drop_eq_nil_of_le h1] at hi; cases hi
  have hgd := getD_drop hlt
  rw [hi] at hgd
  simp only [List.cons.injEq] at hgd
  obtain ⟨g, rfl, t0, t1, t2, t3⟩ := htk.cells hlt
  have hlt' : (i : Int) < (C.T.length : Int) := by omega
  rw [← hgd.1] at t0 t1 t2 t3
  rw [hk] at t0
  rw [hw] at t3
  have hgl : g < w1.heap.size := lt_of_cell t0
  replace HC : Hid (GoS C (w1.drew.drew.alloc (.cells #[.int .i64 0, .int .i64 0, .int .i64 t.pos, .string ⟨#[]⟩, nilV] 60)) d M (some (w1.heap.size, .cells #[.int .i64 0, .int .i64 0, .int .i64 t.pos, .string ⟨#[]⟩, nilV] 60)) [] (.ok (t :: r)) rows) := (HC.out.below (Below.refl _ _).drew.drew).box _
  clear hil hps htk hgd hi
  go_region
  go_wp2_with fail
  go_region
  go_wp2_with (first
    | (go_at_call 29; refine Calls.mono (gtake HC.out HK.out.1 _) ?_; rintro e w2 ⟨rfl, hg⟩; replace hg : GoS C w2 d M _ [] (takeT C.E wIf (t :: r)) rows := hg; rw [HTK.out] at hg; obtain ⟨hb, hbP⟩ := hg.bxc; have hbP2 : ¬ C.P = _ := (fun e => hbP e.symm); obtain ⟨b0, b1, b2, b3, b4, bf⟩ := box5 hb; have hbl := lt_of_cell b0; have HC2 := Hid.out (p := Hid _) hg; clear hg hb HC)
    | (go_at_call 74; refine Calls.mono (HX.out C _ _ _ _ _ rfl (HC2.out.set0 _)) ?_; rintro e w5 ⟨v5, rfl, hq⟩; rw [HH.out] at hq; have hg := hq.2; have HC5 := Hid.out (p := Hid _) hg; have HV5 := Hid.out (p := Hid _) hq.1; clear hg hq HC2)
    | (go_at_call 30; refine Calls.mono (HB3.out C _ _ _ _ _ rfl HC5.out) ?_; rintro e w6 ⟨v6, rfl, hq⟩; rw [HB1.out] at hq; have hg := hq.2; obtain ⟨hb, hbP⟩ := hg.bxc; have hbP2 : ¬ C.P = _ := (fun e => hbP e.symm); obtain ⟨b0, b1, b2, b3, b4, bf⟩ := box5 hb; have hbl := lt_of_cell b0; have HC6 := Hid.out (p := Hid _) hg; have HV6 := Hid.out (p := Hid _) hq.1; clear hg hb hq HC5)
    | (go_at_call 26; refine Calls.mono (gis ((HC6.out.set4 _).kids [v5, v6] 2 rfl (by decide) #[.int .i64 v5, .int .i64 v6] rfl (by decide) w6.heap.size (by rw [set_size])) _) ?_; rintro e w7 ⟨rfl, hg⟩; rw [show isE (⟨#[101, 108, 115, 101]⟩ : ByteArray).data.toList (.ok q4) = true from HEL.out]; have HC7 := Hid.out (p := Hid _) (hg.any M); clear hg HC6)
    | (go_at_call 29; refine Calls.mono (gtake HC7.out HK.out.1 _) ?_; rintro e w8 ⟨rfl, hg⟩; replace hg : GoS C w8 d M _ _ (takeT C.E wElse q4) _ := hg; rw [HT5.out] at hg; have HC8 := Hid.out (p := Hid _) hg; clear hg HC7)
    | (go_at_call 30; refine Calls.mono (HB5.out C _ _ _ _ _ rfl HC8.out) ?_; rintro e w9 ⟨v9, rfl, hq⟩; have hq := (hq.more (show ubD d ≤ M by have := HM.out; omega)).st; have hg := hq.go; obtain ⟨hb, hbP⟩ := hg.bxc; have hbP2 : ¬ C.P = _ := (fun e => hbP e.symm); obtain ⟨b0, b1, b2, b3, b4, bf⟩ := box5 hb; have hbl := lt_of_cell b0; obtain ⟨g9, cap9, w10, r1, hg10, -⟩ := hg.app (fun z hz => (by cases hz; exact ⟨_, rfl⟩)) (fun p hp => (by simp at hp)) v9 (by simp) 2 rfl; obtain ⟨hb10, -⟩ := hg10.bxc; obtain ⟨d0, d1b, d2, d3, d4, df⟩ := box5 hb10; have HC10 := Hid.out (p := Hid _) hg10; have HV9 := Hid.out (p := Hid _) hq.val; clear hg hb hq HC8 hg10 hb10)
    | (go_at_call 31; refine Calls.mono (pre_node (HC10.out.set4 _) (HMA.out _ _ _ _ HV5.out HV6.out HV9.out) (by have := HK.out; omega) HRS.out) ?_; rintro e w11 ⟨v11, rfl, hq11⟩; skip))
  go_ret
  exact ⟨v11, rfl, hq11.more (by have := HM.out; omega)⟩
end
end

section
open Go.RowKit

attribute [local go_sem ↓] appS_eq

section
variable {E : Int} {d : Nat} {l : List Tok}
theorem GoS.pend0 {C : Cx9} {w : World} {M : Nat} {bx : Option (Nat × Obj)} {ps : List (List Int × Value)} {s : Except (Int × Int) (List Tok)} {rows : List Row} (h : GoS C w d M bx ps s rows) : GoS C w d M bx (([], nilV) :: ps) s rows := by
  obtain ⟨lv, h⟩ := h
  refine ⟨lv, h.fr, h.bx, fun p hp => ?_, ?_⟩
  · rcases List.mem_cons.1 hp with rfl | hp
    · exact ⟨kd_none _ _ _ _ _ _ _, fun g hg => by simp [Value.ownBlock] at hg⟩
    · exact h.ps p hp
  · match s, h.st with
    | .ok l, ⟨ys, h1, h2, h3⟩ =>
      refine ⟨ys, h1, h2, fun y hy g hg => ⟨(h3 y hy g hg).1, fun p hp => ?_⟩⟩
      rcases List.mem_cons.1 hp with rfl | hp
      · simp [Value.ownBlock]
      · exact (h3 y hy g hg).2 p hp
    | .error q, k => exact k
/-- A round of a block. -/
inductive BlI (C : Cx9) (d : Nat) (rows : List Row) (L : List Tok) (M : Nat) (S : TRes (List Nd)) (g : Nat) (kv : Value) (wr : World) : Prop where
  | ok (xs : List Nd) (q : List Tok) (hg : GoS C wr (d + 1) M none [(idxs rows.length xs, kv)] (.ok q) (rows ++ flats rows.length xs)) (hS : stmtsT C.E (d + 1) xs q = S) (hs : ndsSize xs + q.length < L.length) (hm : q.length + 2 ≤ g) (hO : ∃ q0, openT C.E [123] d L = .ok q0)
  | err (q : Int × Int) (ks : List Int) (hg : GoS C wr (d + 1) M none [(ks, kv)] (.error q) []) (hS : S = .error q) (hm : 1 ≤ g)
theorem idxs_len : ∀ (xs : List Nd) (b : Nat), (idxs b xs).length ≤ ndsSize xs
  | [], b => by simp [idxs, ndsSize]
  | .mk k n p t ks :: r, b => by
    have := idxs_len r (b + ndSize (.mk k n p t ks))
    simp only [idxs, ndsSize, List.length_cons, ndSize] at this ⊢
    omega

set_option maxRecDepth 100000 in
set_option maxHeartbeats 3200000 in
theorem rblock_ctr (hd : d ≤ 20) (IH : ∀ q, q.length < l.length → d + 1 ≤ 20 → Ctr 54 [] E (d + 1) q (stmtT E (d + 1) q) (ubD (d + 1) + 9)) : Ctr 30 [] E d l (blockT E d l) (ubD d) := by
  refine ctr_of fun C w rows hE _ hg => ?_
  subst hE
  obtain ⟨M, hM1, hM2, hM3, hM4⟩ : ∃ M, 4000 ≤ M ∧ M ≤ 4600 ∧ (∀ q, openT C.E [123] d l = .ok q → ubD (d + 1) + 9 ≤ M ∧ d + 1 ≤ 20) ∧ M + 1 ≤ ubD d := by
    by_cases h : d = 20
    · refine ⟨4000, by omega, by omega, fun q hq => absurd h (open_ok hq).2.1, by unfold ubD; omega⟩
    · exact ⟨ubD (d + 1) + 9, by unfold ubD; omega, by unfold ubD; omega, fun _ _ => ⟨Nat.le_refl _, by omega⟩, by unfold ubD; omega⟩
  have hfw := (hg M).fewR
  have hT := (hg M).few
  have HC := Hid.out (p := Hid _) (hg M)
  obtain ⟨R, hR⟩ : ∃ R, R = blockT C.E d l := ⟨_, rfl⟩
  rw [← hR]
  have HRS : Hid (∀ x q, R = .ok (x, q) → rows.length + ndSize x + q.length ≤ C.T.length) := fun x q hx => by
    obtain ⟨n, y, hy⟩ := (tl_block (e := C.E) d l).tot
    have h3 := tld_is (bl_up d l) hy
    have h4 := (stmt_size n).2.1 _ _ _ _ (hy.trans (congrArg some (h3.symm.trans (hR.symm.trans hx))))
    omega
  have HSZ : Hid (∀ q x q2, stmtT C.E (d + 1) q = .ok (x, q2) → ndSize x + q2.length ≤ q.length) := fun q x q2 hx => by
    obtain ⟨n, y, hy⟩ := (tl_stmt (e := C.E) (d + 1) q).tot
    have h3 := tld_is (st_up (d + 1) q) hy
    exact (stmt_size n).1 _ _ _ _ (hy.trans (congrArg some (h3.symm.trans hx)))
  have HSL : Hid (∀ q x q2, stmtT C.E (d + 1) q = .ok (x, q2) → q2.length < q.length) := fun q x q2 hx => by
    obtain ⟨n, y, hy⟩ := (tl_stmt (e := C.E) (d + 1) q).tot
    have h3 := tld_is (st_up (d + 1) q) hy
    exact (stmt_len n).1 _ _ _ _ (hy.trans (congrArg some (h3.symm.trans hx)))
  have HM : Hid (4000 ≤ M ∧ M ≤ 4600 ∧ M + 1 ≤ ubD d) := ⟨hM1, hM2, hM4⟩
  -- what all statements tell
  obtain ⟨S, hS⟩ : ∃ S : TRes (List Nd), S = bindL (openT C.E [123] d l) (stmtsT C.E (d + 1) []) := ⟨_, rfl⟩
  have HR : Hid (R = bindT S fun ks q => bindL (takeT C.E [125] q) fun p => .ok (.mk 5 0 (posOf C.E l) [] ks, p)) := by
    show R = _
    rw [hR, hS, blockT_is]
    cases openT C.E [123] d l <;> rfl
  have HIH : Hid (∀ (q0 : List Tok), openT C.E [123] d l = .ok q0 → ∀ q, q.length < l.length → Ctr 54 [] C.E (d + 1) q (stmtT C.E (d + 1) q) M) := fun q0 h0 q hq => (IH q hq (hM3 q0 h0).2).more (hM3 q0 h0).1
  have HS := Hid.out (p := Hid _) hS
  clear hg hR hS IH hM1 hM2 hM3 hM4
  go_enter Tryz.func30, Tryz.ntmps30
  go_wp2_with (first
    | (go_at_call 28; refine Calls.mono (gat HC.out) ?_; rintro e w1 ⟨rfl, hg⟩; replace HC := Hid.out (p := Hid _) hg; clear hg)
    | (go_at_call 53; refine Calls.mono (gopen HC.out HM.out.1 hd _) ?_; rintro e w2 ⟨rfl, hg⟩; replace hg : GoS C w2 (d + 1) M none [] (openT C.E [123] d l) rows := hg; have HC2 := Hid.out (p := Hid _) hg; clear hg HC))
  rw [show posE C.E (.ok l) = posOf C.E l from rfl]
  have HL : Hid (BlI C d rows l M S (l.length + 2) nilV w2) := by
    show BlI C d rows l M S (l.length + 2) nilV w2
    have hg := HC2.out
    have hS := HS.out
    cases ho : openT C.E [123] d l with
    | error f =>
      rw [ho] at hg hS
      exact .err f [] (hg.pend0.err _ _) hS (by omega)
    | ok q =>
      rw [ho] at hg hS
      have := open_len ho
      refine .ok [] q ?_ hS.symm (by simp [ndsSize]; omega) (by omega) ⟨q, ho⟩
      simpa [flats, idxs] using hg.pend0
  have HOK : Hid (∀ f, S = .error f → True) := fun _ _ => trivial
  clear HC2 HOK
  go_loopg [4] (l.length + 2) (fun g kv wr => (∃ ka kn kc, kv = .slice ka kn kc) ∧ Hid (BlI C d rows l M S g kv wr))
  case atStart => exact ⟨⟨none, 0, 0, rfl⟩, HL⟩
  case round =>
    obtain ⟨⟨ka, kn, kc, rfl⟩, HL2⟩ := hrel
    clear HL
    rcases HL2.out with ⟨xs, q, hg, hSS, hs, hm, hO⟩ | ⟨f, ks, hg, hSS, hm⟩
    · obtain ⟨i, d1, lv, a, hps, hil, _⟩ := hg.ps9
      have c5 : wr.cell? ⟨C.P, 5, none⟩ = some (.int .i64 0) := hps.c5
      have HG := Hid.out (p := Hid _) hg
      have HSS := Hid.out (p := Hid _) hSS
      have HB : Hid (ndsSize xs + q.length < l.length ∧ q.length + 2 ≤ gk) := ⟨hs, hm⟩
      clear hg hps hil hSS hs hm
      cases hc : isTok [125] q with
      | true =>
        have HI : Hid (isTok [125] q = true) := hc
        have HMA : Hid (MatN rows R 5 (posOf C.E l) [] (.slice ka kn kc) [(idxs rows.length xs, .slice ka kn kc)] (takeT C.E [125] q) (rows ++ flats rows.length xs)) := by
          show MatN rows R 5 (posOf C.E l) [] (.slice ka kn kc) [(idxs rows.length xs, .slice ka kn kc)] (takeT C.E [125] q) (rows ++ flats rows.length xs)
          have hS2 := HSS.out
          rw [stmtsT_is, if_pos hc] at hS2
          rw [HR.out, ← hS2]
          simp only [bindT]
          cases ht : takeT C.E [125] q with
          | error f => rfl
          | ok p => exact ⟨rfl, xs, rfl, rfl, Or.inl (List.mem_cons_self ..)⟩
        clear hc
        go_wp2_with (first
          | (go_at_call 26; refine Calls.mono (gis HG.out _) ?_; rintro e w3 ⟨rfl, hg⟩; rw [show isE (⟨#[125]⟩ : ByteArray).data.toList (.ok q) = true from HI.out]; have HC3 := Hid.out (p := Hid _) hg; clear hg)
          | (go_at_call 55; refine Calls.mono (gshut HC3.out HM.out.1 hd _) ?_; rintro e w4 ⟨rfl, hg⟩; have HC4 := Hid.out (p := Hid _) hg; clear hg)
          | (go_at_call 31; refine Calls.mono (pre_node HC4.out HMA.out (by have := HM.out; omega) HRS.out) ?_; rintro e w5 ⟨v5, rfl, hq5⟩))
        go_ret
        exact ⟨v5, rfl, hq5.more (by have := HM.out; omega)⟩
      | false =>
        have HI : Hid (isTok [125] q = false) := hc
        have HST : Hid (bindT (stmtT C.E (d + 1) q) (fun x r => stmtsT C.E (d + 1) (xs ++ [x]) r) = S) := by
          show _ = S
          rw [← HSS.out, stmtsT_is (d + 1) xs q, if_neg (by rw [hc]; decide)]
        obtain ⟨q0, hO⟩ := hO
        have HCT := Hid.out (p := Hid _) (HIH.out q0 hO q (by have := HB.out; omega))
        have HO := Hid.out (p := Hid _) hO
        have hil : (idxs rows.length xs).length ≤ 100000 := by have := idxs_len xs rows.length; have := HB.out; omega
        clear hc hO
        go_wp2_with (first
          | (go_at_call 26; refine Calls.mono (gis HG.out _) ?_; rintro e w3 ⟨rfl, hg⟩; rw [show isE (⟨#[125]⟩ : ByteArray).data.toList (.ok q) = false from HI.out]; have HC3 := Hid.out (p := Hid _) hg; clear hg)
          | (go_at_call 54; refine Calls.mono (HCT.out C _ _ _ _ _ rfl HC3.out) ?_; rintro e w4 ⟨v4, rfl, hq⟩; have hq := hq.st; obtain ⟨g5, cap5, w5, r1, hg5, -⟩ := hq.go.app (fun z hz => (by cases hz)) (fun p hp => (by simp at hp)) v4 hil _ rfl; have HC5 := Hid.out (p := Hid _) hg5; have HV4 := Hid.out (p := Hid _) hq.val; clear hq hg5 HC3))
        have HN : Hid (BlI C d rows l M S (gk - 1) (.slice (some ⟨g5, 0, none⟩) ((idxs rows.length xs).length + 1) cap5) w5) := by
          show BlI C d rows l M S (gk - 1) _ w5
          have hst := HST.out
          have hb := HB.out
          have hg5 := HC5.out
          have hv4 := HV4.out
          have hz := HSZ.out q
          have hz2 := HSL.out q
          generalize stmtT C.E (d + 1) q = U at hst hg5 hv4 hz hz2
          match U, hst, hg5, hv4, hz, hz2 with
          | .error f, hst, hg5, _, _, _ => exact .err f _ hg5 hst.symm (by omega)
          | .ok (x, q2), hst, hg5, hv4, hz, hz2 =>
            have e1 := hv4 x q2 rfl
            have e2 := hz x q2 rfl
            have e3 := hz2 x q2 rfl
            refine .ok (xs ++ [x]) q2 ?_ hst ?_ (by omega) ⟨q0, HO.out⟩
            · have h7 : rows ++ flats rows.length (xs ++ [x]) = rowsE (rows ++ flats rows.length xs) (.ok (x, q2)) := by
                rw [flats_snoc, rowsE, List.length_append, flats_len, List.append_assoc]
              have h8 : idxs rows.length (xs ++ [x]) = idxs rows.length xs ++ [v4] := by
                rw [idxs_snoc, e1, List.length_append, flats_len]
              rw [h7, h8]
              exact hg5
            · rw [sizes_snoc]
              omega
        have hgk : 1 ≤ gk := by have := HB.out; omega
        clear HC5
        go_wp2_with fail
        go_roundg (gk - 1)
        case rel => exact ⟨⟨_, _, _, rfl⟩, HN⟩
        case measure => omega
    · obtain ⟨i, d1, lv, a, hps, _, hq0⟩ := hg.ps9
      have c5 : wr.cell? ⟨C.P, 5, none⟩ = some (.int .i64 f.1) := hps.c5
      have hf0 : (f.1 == 0) = false := by simpa using hq0 f rfl
      have HG := Hid.out (p := Hid _) hg
      have HMA : Hid (MatN rows R 5 (posOf C.E l) [] (.slice ka kn kc) [(ks, .slice ka kn kc)] (.error f) []) := by
        show MatN rows R 5 (posOf C.E l) [] (.slice ka kn kc) [(ks, .slice ka kn kc)] (.error f) []
        rw [HR.out, hSS]
        rfl
      clear hg hps hq0 hSS
      go_wp2_with (first
        | (go_at_call 55; refine Calls.mono (gshut HG.out HM.out.1 hd _) ?_; rintro e w4 ⟨rfl, hg⟩; have HC4 := Hid.out (p := Hid _) hg; clear hg)
        | (go_at_call 31; refine Calls.mono (pre_node HC4.out HMA.out (by have := HM.out; omega) HRS.out) ?_; rintro e w5 ⟨v5, rfl, hq5⟩))
      go_ret
      exact ⟨v5, rfl, hq5.more (by have := HM.out; omega)⟩
end
end

end Go.Proofs.YtggfbfjdiikaeaaGreatDoor
