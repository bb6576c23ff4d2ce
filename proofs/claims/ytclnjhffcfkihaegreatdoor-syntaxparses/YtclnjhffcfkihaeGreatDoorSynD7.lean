/-
  The document's parser where it failed: blocks.
  The document's parser where it goes well: nodes with their kids in memory, what an expression leaves.
  The document's parser where it goes well: a number.
-/
import Derived.Test.YtclnjhffcfkihaeGreatDoorSynD4
import Derived.Deep.RegionWith
namespace Go.Proofs.YtclnjhffcfkihaeGreatDoor
section
open Go.RowKit

set_option maxRecDepth 100000 in
set_option maxHeartbeats 1600000 in
theorem rblock_err {w : World} {B P : Nat} {T : List Tok} {E d : Int} {tv lv : Value} {xs : List (Row × Value)} {q : Int × Int} (h : Aft w P T E d tv lv (.error q)) (hl : Lst w B P tv lv xs) (hn : xs.length ≤ 500000) :
    Calls Tryz.prog 22 #[.pointer (some ⟨P, 0, none⟩)] w fun e w' => ∃ v, e = .returned (.int .i64 v) ∧ ErrQ B P T E tv q w lv (xs.length + 1) w' := by
  have HC : Hid (Aft w P T E d tv lv (.error q) ∧ Lst w B P tv lv xs ∧ FrN P w lv w lv) := ⟨h, hl, FrN.of (Only.refl _ _)⟩
  have hq : (q.1 == 0) = false := by simpa using h.1
  clear h hl
  go_enter Tryz.func22, Tryz.ntmps22
  go_wp2_with (first
    | (go_at_call 20; refine Calls.mono (rat_err HC.out.1) ?_; rintro e w1 ⟨rfl, hb⟩; replace HC := Hid.out (p := Hid _) (And.intro (HC.out.1.below hb) (And.intro (HC.out.2.1.below hb) (HC.out.2.2.trans (FrN.of (Only.of hb))))); clear hb)
    | (go_at_call 37; refine Calls.mono (ropen_any HC.out.1 _ 0 (fun l hl => by cases hl)) ?_; rintro e w1 ⟨rfl, ⟨d1, ha, _⟩, ho⟩; replace HC := Hid.out (p := Hid _) (And.intro (show Aft w1 P T E d1 tv lv (.error q) from ha) (And.intro (HC.out.2.1.only ho) (HC.out.2.2.trans (FrN.of ho)))); clear ha ho))
  have c5 := HC.out.1.2.c5
  go_loopw [4] (fun l wr => l = nilV ∧ wr = w1) (fun _ _ => 0)
  case atStart => exact ⟨rfl, rfl⟩
  case round =>
    obtain ⟨rfl, rfl⟩ := hrel
    go_wp2_with (first
      | (go_at_call 39; refine Calls.mono (rshut_any HC.out.1 _) ?_; rintro e w3 ⟨rfl, ha, ho⟩; replace HC := Hid.out (p := Hid _) (And.intro (show Aft w3 P T E _ tv lv (.error q) from ha) (And.intro (HC.out.2.1.only ho) (HC.out.2.2.trans (FrN.of ho)))); clear ha ho)
      | (go_at_call 23; refine Calls.mono (rnode_lst HC.out.1 HC.out.2.1 hn _ _ _ [] [] _ _ _) ?_; rintro e w3 ⟨rfl, lv', ha, hl2, hf⟩; replace HC := Hid.out (p := Hid _) (And.intro ha (And.intro hl2 (HC.out.2.2.trans hf))); clear ha hl2 hf))
    go_ret
    exact ⟨_, rfl, _, _, _, HC.out.1, HC.out.2.1, by simp, HC.out.2.2⟩
end

section
open Go.RowKit

/-- A node's kids lie where its slice says, apart from the parser and its list. -/
structure KdAt (w : World) (P : Nat) (lv : Value) (x : Row × Value) : Prop where
  own : w.ownsRow 0 3 1 x.2 x.1.kids.length (x.1.kids.map fun k => .int .i64 k)
  apart : x.2.ownBlock ≠ some P
  far : ∀ g, x.2.ownBlock = some g → lv.ownBlock ≠ some g
theorem KdAt.fr {w w' : World} {P : Nat} {lv lv' : Value} {x : Row × Value} (h : KdAt w P lv x) (hf : FrN P w lv w' lv') : KdAt w' P lv' x := by
  have hlt : ∀ g, x.2.ownBlock = some g → g < w.heap.size := fun g hg => (h.own.lt g hg).2
  refine ⟨fam_keeps h.own fun g hg => hf.block g (hlt g hg) (fun e => h.apart (by rw [hg, e])) fun e => h.far g hg e.symm, h.apart, fun g hg e => ?_⟩
  rcases hf.own with h1 | h1
  · exact h.far g hg (h1 ▸ e)
  · have := h1 g e
    have := hlt g hg
    omega
/-- The parser that goes well: its state, its nodes with their kids. -/
structure OkS (w : World) (B P : Nat) (T : List Tok) (E : Int) (d : Nat) (tv lv : Value) (l : List Tok) (xs : List (Row × Value)) : Prop where
  aft : Aft w P T E (d : Int) tv lv (.ok l)
  lst : Lst w B P tv lv xs
  kid : ∀ x, x ∈ xs → KdAt w P lv x
  few : xs.length + l.length ≤ T.length
theorem OkS.only {w w' : World} {B P : Nat} {T : List Tok} {E : Int} {d d' : Nat} {tv lv : Value} {l l' : List Tok} {xs : List (Row × Value)} (h : OkS w B P T E d tv lv l xs) (ho : Only P w w') (ha : Aft w' P T E (d' : Int) tv lv (.ok l')) (hl : l'.length ≤ l.length) : OkS w' B P T E d' tv lv l' xs :=
  ⟨ha, h.lst.only ho, fun x hx => (h.kid x hx).fr (FrN.of ho), by have := h.few; omega⟩
/-- What an expression (a statement, a block) leaves, xs being the nodes ahead of it; M: the most nodes where it failed. -/
def TreeQ (B P : Nat) (T : List Tok) (E : Int) (d : Nat) (tv : Value) (w : World) (lv : Value) (M : Nat) (xs : List (Row × Value)) (r : TRes Nd) (e : Ending) (w' : World) : Prop :=
  match r with
  | .ok (x, q) => e = .returned (.int .i64 ((xs.length + ndSize x : Nat) - 1 : Int)) ∧ ∃ lv' ys, OkS w' B P T E d tv lv' q (xs ++ ys) ∧ ys.map Prod.fst = flat xs.length x ∧ FrN P w lv w' lv' ∧ ∀ y, y ∈ ys → y.2 = nilV
  | .error q => ∃ v, e = .returned (.int .i64 v) ∧ ErrQ B P T E tv q w lv M w'
theorem OkS.node {w w' : World} {B P : Nat} {T : List Tok} {E : Int} {d : Nat} {tv lv lv' : Value} {l : List Tok} {xs : List (Row × Value)} {x : Row × Value} (h : OkS w B P T E d tv lv l xs) (ha : Aft w' P T E (d : Int) tv lv' (.ok l)) (hl : Lst w' B P tv lv' (xs ++ [x])) (hf : FrN P w lv w' lv') (hx : KdAt w P lv x) (hfew : xs.length + 1 + l.length ≤ T.length) : OkS w' B P T E d tv lv' l (xs ++ [x]) := by
  refine ⟨ha, hl, fun y hy => ?_, by simp only [List.length_append, List.length_cons, List.length_nil]; omega⟩
  rcases List.mem_append.1 hy with hy | hy
  · exact (h.kid y hy).fr hf
  · obtain rfl : y = x := by simpa using hy
    exact hx.fr hf
/-- No kids. -/
theorem kd_none (w : World) (P : Nat) (lv : Value) (k n p : Int) (t : List UInt8) : KdAt w P lv (⟨k, n, p, t, []⟩, nilV) :=
  ⟨World.ownsRow_nil _ _ _ _, by simp [Value.ownBlock], fun g hg => by simp [Value.ownBlock] at hg⟩
end

section
open Go.RowKit

theorem is_false (S : List UInt8) (t : Tok) (r : List Tok) (h : t.kind = 3 ∨ t.kind = 1) : isTok S (t :: r) = false := by
  unfold isTok
  rcases h with h | h <;> simp [h]
set_option maxRecDepth 100000 in
set_option maxHeartbeats 1600000 in
theorem runary_num {w : World} {B P : Nat} {T : List Tok} {E : Int} {d : Nat} {tv lv : Value} {k v p : Int} {t : List UInt8} {r : List Tok} {xs : List (Row × Value)} (h : OkS w B P T E d tv lv (⟨k, v, p, t⟩ :: r) xs) (hk : k = 3) (M : Nat) :
    Calls Tryz.prog 93 #[.pointer (some ⟨P, 0, none⟩)] w fun e w' => TreeQ B P T E d tv w lv M xs (.ok (.mk 15 v p [] [], r)) e w' := by
  subst hk
  have hfew := h.few
  obtain ⟨i, hi, hps⟩ := h.aft
  have hlt : i < T.length := by
    rcases Nat.lt_or_ge i T.length with h1 | h1
    · exact h1
    · rw [List.drop_eq_nil_of_le h1] at hi; cases hi
  have hgd := getD_drop hlt
  rw [hi] at hgd
  simp only [List.cons.injEq] at hgd
  obtain ⟨hg1, hg2⟩ := hgd
  have hT := hps.few
  obtain ⟨ta, tc, rfl⟩ := hps.toks.form
  have HP : Hid (Ps w P T E i d (.slice ta T.length tc) lv 0 0) := hps
  have HI : Hid (∀ S : ByteArray, isTok S.data.toList (T.drop i) = false) := fun S => by rw [hi]; exact is_false _ _ _ (Or.inl rfl)
  have HPO : Hid (posOf E (T.drop i) = p) := by show _ = _; rw [hi]; rfl
  have HOK := Hid.out (p := Hid _) h
  have HFR : Hid (Below w.heap.size w w) := Below.refl _ _
  clear h hps
  go_enter Tryz.func93, Tryz.ntmps93
  go_wp2_with (first
    | (go_at_call 20; refine Calls.mono (rat_any HP.out) ?_; rintro e w1 ⟨rfl, hb⟩; rw [HPO.out]; replace HP := Hid.out (p := Hid _) (HP.out.below hb); replace HFR := Hid.out (p := Hid _) (HFR.out.trans (hb.mono HFR.out.size)); clear hb)
    | (go_at_call 18; refine Calls.mono (ris_any HP.out _) ?_; rintro e w1 ⟨rfl, hb⟩; rw [HI.out]; replace HP := Hid.out (p := Hid _) (HP.out.below hb); replace HFR := Hid.out (p := Hid _) (HFR.out.trans (hb.mono HFR.out.size)); clear hb))
  have hP := HP.out.lt
  have c0 := HP.out.c0
  have c2 := HP.out.c2
  have kf := HP.out.free
  obtain ⟨g, rfl, t0, t1, t2, t3⟩ := HP.out.toks.cells hlt
  have hg : g < _ := lt_of_cell t0
  have hgP : g ≠ P := fun e => HP.out.apart (by rw [← e]; rfl)
  rw [← hg1] at t0 t1 t2 t3
  simp only at t0 t1 t2 t3 hg
  have hlt' : (i : Int) < (T.length : Int) := by omega
  go_region
  go_wp2_with fail
  have ho2 : Only P w1 ((w1.setCell ⟨P, 2, none⟩ (.int .i64 ((i : Int) + 1))).drew.drew) := (((Only.refl _ _).set _ _).drew).drew
  have hps2 : Ps ((w1.setCell ⟨P, 2, none⟩ (.int .i64 ((i : Int) + 1))).drew.drew) P T E (i + 1) d (.slice (some ⟨g, 0, none⟩) T.length tc) lv 0 0 := HP.out.next ho2 hlt (heap_set9 HP.out.box)
  have HOK2 : Hid (OkS ((w1.setCell ⟨P, 2, none⟩ (.int .i64 ((i : Int) + 1))).drew.drew) B P T E d (.slice (some ⟨g, 0, none⟩) T.length tc) lv r xs) := HOK.out.only ((Only.of HFR.out).trans ho2) ⟨i + 1, hg2.symm, hps2⟩ (by simp)
  have HF2 : Hid (FrN P w lv ((w1.setCell ⟨P, 2, none⟩ (.int .i64 ((i : Int) + 1))).drew.drew) lv) := FrN.of ((Only.of HFR.out).trans ho2)
  have hn : xs.length ≤ 500000 := by omega
  have HFW : Hid (xs.length + 1 + r.length ≤ T.length) := by show _ ≤ _; simp only [List.length_cons] at hfew; omega
  clear ho2 hps2
  have hs1 : (i : Int) + 1 - 1 = (i : Int) := by omega
  have hfew2 : T.length ≤ 4000 := hT
  clear hfew hi hg1 hg2
  have d0 : (w1.setCell ⟨P, 2, none⟩ (.int .i64 ((i : Int) + 1))).drew.cell? ⟨P, 0, none⟩ = some (.slice (some ⟨g, 0, none⟩) T.length tc) := box_cell (heap_set9 HP.out.box) rfl
  have d2 : (w1.setCell ⟨P, 2, none⟩ (.int .i64 ((i : Int) + 1))).drew.cell? ⟨P, 2, none⟩ = some (.int .i64 ((i : Int) + 1)) := box_cell (heap_set9 HP.out.box) rfl
  have d3 : (w1.setCell ⟨P, 2, none⟩ (.int .i64 ((i : Int) + 1))).drew.cell? ⟨g, i * 4 + 1, none⟩ = some (.int .i64 v) := cell_far9 t1 hgP
  generalize hV : (w1.setCell ⟨P, 2, none⟩ (.int .i64 ((i : Int) + 1))).drew = V at d0 d2 d3 HOK2 HF2 ⊢
  clear c0 c2 t0 t1 t2 t3 kf hg hV
  refine region_tail 15 (by kernel_rfl) (by kernel_rfl) ?_
  simp only [List.take_succ_cons, List.take_zero, List.drop_succ_cons, List.drop_zero]
  have hw : IntKind.i64.wrap (i : Int) = (i : Int) := by first | (simp [IntKind.wrap, IntKind.bits, IntKind.signed]; omega) | (simp [IntKind.wrap]; omega) | go_num
  iterate 11 still_step
  still_step
  iterate 3 still_step
  refine wpStill_nil ?_
  go_wp2_with (go_at_call 23; refine Calls.mono (rnode_lst HOK2.out.aft HOK2.out.lst hn 15 v p [] [] none 0 0) ?_; rintro e w3 ⟨rfl, lv', ha, hl2, hf⟩; have HQ := Hid.out (p := Hid _) (And.intro ha (And.intro hl2 hf)); clear ha hl2 hf)
  go_ret
  refine ⟨by simp [ndSize, ndsSize], lv', [(⟨15, v, p, [], []⟩, nilV)], HOK2.out.node HQ.out.1 HQ.out.2.1 HQ.out.2.2 (kd_none _ _ _ _ _ _ _) HFW.out, rfl, HF2.out.trans HQ.out.2.2, fun y hy => (by simp at hy; rw [hy])⟩
end

end Go.Proofs.YtclnjhffcfkihaeGreatDoor
