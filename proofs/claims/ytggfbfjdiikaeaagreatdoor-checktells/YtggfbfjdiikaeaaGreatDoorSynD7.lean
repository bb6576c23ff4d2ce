/-
  The document's parser where it failed: blocks.
  The document's parser where it goes well: nodes with their kids in memory, what an expression leaves.
  The document's parser where it goes well: a number.
  The document's parser, going well or having failed, and what a function has of its own beside it.
-/
import Derived.Test.YtggfbfjdiikaeaaGreatDoorSynD2
import Derived.Deep.RegionWith
import Derived.Test.YtggfbfjdiikaeaaGreatDoorSynO
namespace Go.Proofs.YtggfbfjdiikaeaaGreatDoor
section
open Go.RowKit

set_option maxRecDepth 100000 in
set_option maxHeartbeats 1600000 in
theorem rblock_err {w : World} {B P : Nat} {T : List Tok} {E d : Int} {tv lv : Value} {xs : List (Row × Value)} {q : Int × Int} (h : Aft w P T E d tv lv (.error q)) (hl : Lst w B P tv lv xs) (hn : xs.length ≤ 500000) :
    Calls Tryz.prog 30 #[.pointer (some ⟨P, 0, none⟩)] w fun e w' => ∃ v, e = .returned (.int .i64 v) ∧ ErrQ B P T E tv q w lv (xs.length + 1) w' := by
  have HC : Hid (Aft w P T E d tv lv (.error q) ∧ Lst w B P tv lv xs ∧ FrN P w lv w lv) := ⟨h, hl, FrN.of (Only.refl _ _)⟩
  have hq : (q.1 == 0) = false := by simpa using h.1
  clear h hl
  go_enter Tryz.func30, Tryz.ntmps30
  go_wp2_with (first
    | (go_at_call 28; refine Calls.mono (rat_err HC.out.1) ?_; rintro e w1 ⟨rfl, hb⟩; replace HC := Hid.out (p := Hid _) (And.intro (HC.out.1.below hb) (And.intro (HC.out.2.1.below hb) (HC.out.2.2.trans (FrN.of (Only.of hb))))); clear hb)
    | (go_at_call 53; refine Calls.mono (ropen_any HC.out.1 _ 0 (fun l hl => by cases hl)) ?_; rintro e w1 ⟨rfl, ⟨d1, ha, _⟩, ho⟩; replace HC := Hid.out (p := Hid _) (And.intro (show Aft w1 P T E d1 tv lv (.error q) from ha) (And.intro (HC.out.2.1.only ho) (HC.out.2.2.trans (FrN.of ho)))); clear ha ho))
  have c5 := HC.out.1.2.c5
  go_loopw [4] (fun l wr => l = nilV ∧ wr = w1) (fun _ _ => 0)
  case atStart => exact ⟨rfl, rfl⟩
  case round =>
    obtain ⟨rfl, rfl⟩ := hrel
    go_wp2_with (first
      | (go_at_call 55; refine Calls.mono (rshut_any HC.out.1 _) ?_; rintro e w3 ⟨rfl, ha, ho⟩; replace HC := Hid.out (p := Hid _) (And.intro (show Aft w3 P T E _ tv lv (.error q) from ha) (And.intro (HC.out.2.1.only ho) (HC.out.2.2.trans (FrN.of ho)))); clear ha ho)
      | (go_at_call 31; refine Calls.mono (rnode_lst HC.out.1 HC.out.2.1 hn _ _ _ [] [] _ _ _) ?_; rintro e w3 ⟨rfl, lv', ha, hl2, hf⟩; replace HC := Hid.out (p := Hid _) (And.intro ha (And.intro hl2 (HC.out.2.2.trans hf))); clear ha hl2 hf))
    go_ret
    exact ⟨_, rfl, _, _, _, HC.out.1, HC.out.2.1, by simp, HC.out.2.2⟩
end

section
open Go.RowKit

/-- A node's kids lie where its slice says, apart from the parser and its list. -/
structure KdAt (w : World) (P : Nat) (lv : Value) (x : Row × Value) : Prop where
  own : w.ownsRow 0 3 1 x.2 x.1.kids.length (x.1.kids.map fun k => .int .i64 k)
  apart : x.2.ownBlock ≠ some P
  far : ∀ g, x.2.ownBlock = some g → lv.ownBlock ≠ some g
theorem KdAt.fr {w w' : World} {P : Nat} {lv lv' : Value} {x : Row × Value} (h : KdAt w P lv x) (hf : FrN P w lv w' lv') : KdAt w' P lv' x := by
  have hlt : ∀ g, x.2.ownBlock = some g → g < w.heap.size := fun g hg => (h.own.lt g hg).2
  refine ⟨fam_keeps h.own fun g hg => hf.block g (hlt g hg) (fun e => h.apart (by rw [hg, e])) fun e => h.far g hg e.symm, h.apart, fun g hg e => ?_⟩
  rcases hf.own with h1 | h1
  · exact h.far g hg (h1 ▸ e)
  · have := h1 g e
    have := hlt g hg
    omega
/-- The parser that goes well: its state, its nodes with their kids. -/
structure OkS (w : World) (B P : Nat) (T : List Tok) (E : Int) (d : Nat) (tv lv : Value) (l : List Tok) (xs : List (Row × Value)) : Prop where
  aft : Aft w P T E (d : Int) tv lv (.ok l)
  lst : Lst w B P tv lv xs
  kid : ∀ x, x ∈ xs → KdAt w P lv x
  few : xs.length + l.length ≤ T.length
theorem OkS.only {w w' : World} {B P : Nat} {T : List Tok} {E : Int} {d d' : Nat} {tv lv : Value} {l l' : List Tok} {xs : List (Row × Value)} (h : OkS w B P T E d tv lv l xs) (ho : Only P w w') (ha : Aft w' P T E (d' : Int) tv lv (.ok l')) (hl : l'.length ≤ l.length) : OkS w' B P T E d' tv lv l' xs :=
  ⟨ha, h.lst.only ho, fun x hx => (h.kid x hx).fr (FrN.of ho), by have := h.few; omega⟩
/-- What an expression (a statement, a block) leaves, xs being the nodes ahead of it; M: the most nodes where it failed. -/
def TreeQ (B P : Nat) (T : List Tok) (E : Int) (d : Nat) (tv : Value) (w : World) (lv : Value) (M : Nat) (xs : List (Row × Value)) (r : TRes Nd) (e : Ending) (w' : World) : Prop :=
  match r with
  | .ok (x, q) => e = .returned (.int .i64 ((xs.length + ndSize x : Nat) - 1 : Int)) ∧ ∃ lv' ys, OkS w' B P T E d tv lv' q (xs ++ ys) ∧ ys.map Prod.fst = flat xs.length x ∧ FrN P w lv w' lv' ∧ ∀ y, y ∈ ys → y.2 = nilV
  | .error q => ∃ v, e = .returned (.int .i64 v) ∧ ErrQ B P T E tv q w lv M w'
theorem OkS.node {w w' : World} {B P : Nat} {T : List Tok} {E : Int} {d : Nat} {tv lv lv' : Value} {l : List Tok} {xs : List (Row × Value)} {x : Row × Value} (h : OkS w B P T E d tv lv l xs) (ha : Aft w' P T E (d : Int) tv lv' (.ok l)) (hl : Lst w' B P tv lv' (xs ++ [x])) (hf : FrN P w lv w' lv') (hx : KdAt w P lv x) (hfew : xs.length + 1 + l.length ≤ T.length) : OkS w' B P T E d tv lv' l (xs ++ [x]) := by
  refine ⟨ha, hl, fun y hy => ?_, by simp only [List.length_append, List.length_cons, List.length_nil]; omega⟩
  rcases List.mem_append.1 hy with hy | hy
  · exact (h.kid y hy).fr hf
  · obtain rfl : y = x := by simpa using hy
    exact hx.fr hf
/-- No kids. -/
theorem kd_none (w : World) (P : Nat) (lv : Value) (k n p : Int) (t : List UInt8) : KdAt w P lv (⟨k, n, p, t, []⟩, nilV) :=
  ⟨World.ownsRow_nil _ _ _ _, by simp [Value.ownBlock], fun g hg => by simp [Value.ownBlock] at hg⟩
end

section
open Go.RowKit

theorem is_false (S : List UInt8) (t : Tok) (r : List Tok) (h : t.kind = 3 ∨ t.kind = 1) : isTok S (t :: r) = false := by
  unfold isTok
  rcases h with h | h <;> simp [h]
set_option maxRecDepth 100000 in
set_option maxHeartbeats 1600000 in
theorem runary_num {w : World} {B P : Nat} {T : List Tok} {E : Int} {d : Nat} {tv lv : Value} {k v p : Int} {t : List UInt8} {r : List Tok} {xs : List (Row × Value)} (h : OkS w B P T E d tv lv (⟨k, v, p, t⟩ :: r) xs) (hk : k = 3) (M : Nat) :
    Calls Tryz.prog 92 #[.pointer (some ⟨P, 0, none⟩)] w fun e w' => TreeQ B P T E d tv w lv M xs (.ok (.mk 15 v p [] [], r)) e w' := by
  subst hk
  have hfew := h.few
  obtain ⟨i, hi, hps⟩ := h.aft
  have hlt : i < T.length := by
    rcases Nat.lt_or_ge i T.length with h1 | h1
    · exact h1
    · rw [List.drop_eq_nil_of_le h1] at hi; cases hi
  have hgd := getD_drop hlt
  rw [hi] at hgd
  simp only [List.cons.injEq] at hgd
  obtain ⟨hg1, hg2⟩ := hgd
  have hT := hps.few
  obtain ⟨ta, tc, rfl⟩ := hps.toks.form
  have HP : Hid (Ps w P T E i d (.slice ta T.length tc) lv 0 0) := hps
  have HI : Hid (∀ S : ByteArray, isTok S.data.toList (T.drop i) = false) := fun S => by rw [hi]; exact is_false _ _ _ (Or.inl rfl)
  have HPO : Hid (posOf E (T.drop i) = p) := by show _ = _; rw [hi]; rfl
  have HOK := Hid.out (p := Hid _) h
  have HFR : Hid (Below w.heap.size w w) := Below.refl _ _
  clear h hps
  go_enter Tryz.func92, Tryz.ntmps92
  go_wp2_with (first
    | (go_at_call 28; refine Calls.mono (rat_any HP.out) ?_; rintro e w1 ⟨rfl, hb⟩; rw [HPO.out]; replace HP := Hid.out (p := Hid _) (HP.out.below hb); replace HFR := Hid.out (p := Hid _) (HFR.out.trans (hb.mono HFR.out.size)); clear hb)
    | (go_at_call 26; refine Calls.mono (ris_any HP.out _) ?_; rintro e w1 ⟨rfl, hb⟩; rw [HI.out]; replace HP := Hid.out (p := Hid _) (HP.out.below hb); replace HFR := Hid.out (p := Hid _) (HFR.out.trans (hb.mono HFR.out.size)); clear hb))
  have hP := HP.out.lt
  have c0 := HP.out.c0
  have c2 := HP.out.c2
  have kf := HP.out.free
  obtain ⟨g, rfl, t0, t1, t2, t3⟩ := HP.out.toks.cells hlt
  have hg : g < _ := lt_of_cell t0
  have hgP : g ≠ P := fun e => HP.out.apart (by rw [← e]; rfl)
  rw [← hg1] at t0 t1 t2 t3
  simp only at t0 t1 t2 t3 hg
  have hlt' : (i : Int) < (T.length : Int) := by omega
  go_region
  go_wp2_with fail
  have ho2 : Only P w1 ((w1.setCell ⟨P, 2, none⟩ (.int .i64 ((i : Int) + 1))).drew.drew) := (((Only.refl _ _).set _ _).drew).drew
  have hps2 : Ps ((w1.setCell ⟨P, 2, none⟩ (.int .i64 ((i : Int) + 1))).drew.drew) P T E (i + 1) d (.slice (some ⟨g, 0, none⟩) T.length tc) lv 0 0 := HP.out.next ho2 hlt (heap_set9 HP.out.box)
  have HOK2 : Hid (OkS ((w1.setCell ⟨P, 2, none⟩ (.int .i64 ((i : Int) + 1))).drew.drew) B P T E d (.slice (some ⟨g, 0, none⟩) T.length tc) lv r xs) := HOK.out.only ((Only.of HFR.out).trans ho2) ⟨i + 1, hg2.symm, hps2⟩ (by simp)
  have HF2 : Hid (FrN P w lv ((w1.setCell ⟨P, 2, none⟩ (.int .i64 ((i : Int) + 1))).drew.drew) lv) := FrN.of ((Only.of HFR.out).trans ho2)
  have hn : xs.length ≤ 500000 := by omega
  have HFW : Hid (xs.length + 1 + r.length ≤ T.length) := by show _ ≤ _; simp only [List.length_cons] at hfew; omega
  clear ho2 hps2
  have hs1 : (i : Int) + 1 - 1 = (i : Int) := by omega
  have hfew2 : T.length ≤ 4000 := hT
  clear hfew hi hg1 hg2
  have d0 : (w1.setCell ⟨P, 2, none⟩ (.int .i64 ((i : Int) + 1))).drew.cell? ⟨P, 0, none⟩ = some (.slice (some ⟨g, 0, none⟩) T.length tc) := box_cell (heap_set9 HP.out.box) rfl
  have d2 : (w1.setCell ⟨P, 2, none⟩ (.int .i64 ((i : Int) + 1))).drew.cell? ⟨P, 2, none⟩ = some (.int .i64 ((i : Int) + 1)) := box_cell (heap_set9 HP.out.box) rfl
  have d3 : (w1.setCell ⟨P, 2, none⟩ (.int .i64 ((i : Int) + 1))).drew.cell? ⟨g, i * 4 + 1, none⟩ = some (.int .i64 v) := cell_far9 t1 hgP
  generalize hV : (w1.setCell ⟨P, 2, none⟩ (.int .i64 ((i : Int) + 1))).drew = V at d0 d2 d3 HOK2 HF2 ⊢
  clear c0 c2 t0 t1 t2 t3 kf hg hV
  refine region_tail 15 (by kernel_rfl) (by kernel_rfl) ?_
  simp only [List.take_succ_cons, List.take_zero, List.drop_succ_cons, List.drop_zero]
  have hw : IntKind.i64.wrap (i : Int) = (i : Int) := by first | (simp [IntKind.wrap, IntKind.bits, IntKind.signed]; omega) | (simp [IntKind.wrap]; omega) | go_num
  iterate 11 still_step
  still_step
  iterate 3 still_step
  refine wpStill_nil ?_
  go_wp2_with (go_at_call 31; refine Calls.mono (rnode_lst HOK2.out.aft HOK2.out.lst hn 15 v p [] [] none 0 0) ?_; rintro e w3 ⟨rfl, lv', ha, hl2, hf⟩; have HQ := Hid.out (p := Hid _) (And.intro ha (And.intro hl2 hf)); clear ha hl2 hf)
  go_ret
  refine ⟨by simp [ndSize, ndsSize], lv', [(⟨15, v, p, [], []⟩, nilV)], HOK2.out.node HQ.out.1 HQ.out.2.1 HQ.out.2.2 (kd_none _ _ _ _ _ _ _) HFW.out, rfl, HF2.out.trans HQ.out.2.2, fun y hy => (by simp at hy; rw [hy])⟩
end

section
open Go.RowKit

theorem own_cells {w : World} {B : Nat} {e : TypeId} {size : Nat} {v : Value} {n : Nat} {xs : List Value} (h : w.ownsRow B e size v n xs) {g : Nat} (hg : v.ownBlock = some g) : ∃ cur, w.heap[g]? = some (.cells cur e) := by
  rcases h.2 with ⟨h0, _⟩ | ⟨g', cap', cur, hv, _, hh, _⟩
  · rw [h0] at hg; simp [Value.ownBlock] at hg
  · rw [hv] at hg
    have e : g' = g := by simpa [Value.ownBlock] using hg
    subst e
    exact ⟨cur, hh⟩
theorem own_apart {w : World} {B : Nat} {e t : TypeId} {size : Nat} {v : Value} {n : Nat} {xs : List Value} (h : w.ownsRow B e size v n xs) {b : Nat} {cs : Array Value} (hb : w.heap[b]? = some (.cells cs t)) (hne : e ≠ t) : v.ownBlock ≠ some b := fun hg => by
  obtain ⟨cur, hc⟩ := own_cells h hg
  rw [hb] at hc
  simp only [Option.some.injEq, Obj.cells.injEq] at hc
  exact hne hc.2.1.symm
/-- A block of the function's own in memory. -/
structure Kp (w0 w : World) (P : Nat) (lv : Value) (z : Nat × Obj) : Prop where
  is : w.heap[z.1]? = some z.2
  ne : z.1 ≠ P
  far : lv.ownBlock ≠ some z.1
  new : w0.heap.size ≤ z.1
theorem Kp.lt {w0 w : World} {P : Nat} {lv : Value} {z : Nat × Obj} (h : Kp w0 w P lv z) : z.1 < w.heap.size := by
  rcases Nat.lt_or_ge z.1 w.heap.size with h1 | h1
  · exact h1
  · have := h.is; rw [Array.getElem?_eq_none h1] at this; cases this
theorem Kp.fr {w0 w w' : World} {P : Nat} {lv lv' : Value} {z : Nat × Obj} (h : Kp w0 w P lv z) (hf : FrN P w lv w' lv') : Kp w0 w' P lv' z := by
  refine ⟨(hf.block z.1 h.lt h.ne fun e => h.far e.symm).trans h.is, h.ne, fun e => ?_, h.new⟩
  rcases hf.own with h1 | h1
  · exact h.far (h1 ▸ e)
  · have := h1 _ e
    have := h.lt
    omega
/-- Kids of a node that is still to be made. -/
structure Kd (w0 w : World) (P : Nat) (lv : Value) (p : List Int × Value) : Prop where
  kd : KdAt w P lv (⟨0, 0, 0, [], p.1⟩, p.2)
  new : ∀ g, p.2.ownBlock = some g → w0.heap.size ≤ g
/-- What stays as it is while a function runs. -/
structure Cx9 where
  w0 : World
  lv0 : Value
  B : Nat
  P : Nat
  T : List Tok
  E : Int
  tv : Value
  K : Nat → Prop
/-- Kids lie in old blocks that are known, or in new ones, apart from those that are still being made. -/
def KB (C : Cx9) (ps : List (List Int × Value)) (ys : List (Row × Value)) : Prop := ∀ y, y ∈ ys → ∀ g, y.2.ownBlock = some g → (C.K g ∨ C.w0.heap.size ≤ g) ∧ ∀ p, p ∈ ps → p.2.ownBlock ≠ some g
def StS (C : Cx9) (w : World) (d : Nat) (lv : Value) (M : Nat) (ps : List (List Int × Value)) (s : Except (Int × Int) (List Tok)) (rows : List Row) : Prop :=
  match s with
  | .ok l => ∃ ys, OkS w C.B C.P C.T C.E d C.tv lv l ys ∧ ys.map Prod.fst = rows ∧ KB C ps ys
  | .error q => ∃ d' ys, Aft w C.P C.T C.E d' C.tv lv (.error q) ∧ Lst w C.B C.P C.tv lv ys ∧ ys.length ≤ M
/-- .. with what the function has of its own: a node, kids. -/
structure GoL (C : Cx9) (w : World) (d M : Nat) (bx : Option (Nat × Obj)) (qs : List (List Int × Value)) (s : Except (Int × Int) (List Tok)) (rows : List Row) (lv : Value) : Prop where
  fr : FrN C.P C.w0 C.lv0 w lv
  bx : ∀ z, bx = some z → Kp C.w0 w C.P lv z
  ps : ∀ p, p ∈ qs → Kd C.w0 w C.P lv p
  st : StS C w d lv M qs s rows
structure GoS (C : Cx9) (w : World) (d M : Nat) (bx : Option (Nat × Obj)) (ps : List (List Int × Value)) (s : Except (Int × Int) (List Tok)) (rows : List Row) : Prop where
  ex : ∃ lv, GoL C w d M bx ps s rows lv

section
variable {C : Cx9} {w w' : World} {d d' M : Nat} {lv : Value} {bx : Option (Nat × Obj)} {ps : List (List Int × Value)} {s : Except (Int × Int) (List Tok)} {rows : List Row}
theorem StS.aft (h : StS C w d lv M ps s rows) : ∃ d1 ys, Aft w C.P C.T C.E d1 C.tv lv s ∧ Lst w C.B C.P C.tv lv ys ∧ ∀ l, s = .ok l → d1 = (d : Int) := by
  match s, h with
  | .ok l, ⟨ys, h, _, _⟩ => exact ⟨_, ys, h.aft, h.lst, fun _ _ => rfl⟩
  | .error q, ⟨d1, ys, h1, h2, _⟩ => exact ⟨d1, ys, h1, h2, fun l hl => by cases hl⟩
theorem StS.few (h : StS C w d lv M ps s rows) : C.T.length ≤ 4000 := by
  obtain ⟨d1, ys, h1, _⟩ := h.aft
  obtain ⟨i, c, a, hp⟩ := h1.ps
  exact hp.few
/-- The parser's own block has changed, and nothing else. -/
theorem StS.only (h : StS C w d lv M ps s rows) (ho : Only C.P w w') {s' : Except (Int × Int) (List Tok)} {d1 : Int} (ha : Aft w' C.P C.T C.E d1 C.tv lv s') (hd : ∀ l', s' = .ok l' → d1 = (d' : Int) ∧ ∃ l, s = .ok l ∧ l'.length ≤ l.length) (hM : 4000 ≤ M) : StS C w' d' lv M ps s' rows := by
  have hfew := h.few
  match s', ha, hd with
  | .ok l', ha, hd =>
    obtain ⟨rfl, l, rfl, hl⟩ := hd l' rfl
    obtain ⟨ys, h, hr, hk⟩ := h
    exact ⟨ys, h.only ho ha hl, hr, hk⟩
  | .error q, ha, _ =>
    match s, h with
    | .ok l, ⟨ys, h, _, _⟩ => exact ⟨d1, ys, ha, h.lst.only ho, by have := h.few; omega⟩
    | .error _, ⟨_, ys, _, h2, h3⟩ => exact ⟨d1, ys, ha, h2.only ho, h3⟩
theorem GoL.only (h : GoL C w d M bx ps s rows lv) (ho : Only C.P w w') {s' : Except (Int × Int) (List Tok)} {d1 : Int} (ha : Aft w' C.P C.T C.E d1 C.tv lv s') (hd : ∀ l', s' = .ok l' → d1 = (d' : Int) ∧ ∃ l, s = .ok l ∧ l'.length ≤ l.length) (hM : 4000 ≤ M) : GoS C w' d' M bx ps s' rows :=
  ⟨lv, h.fr.trans (FrN.of ho), fun z hz => (h.bx z hz).fr (FrN.of ho), fun p hp => ⟨(h.ps p hp).kd.fr (FrN.of ho), (h.ps p hp).new⟩, h.st.only ho ha hd hM⟩
theorem GoS.below (h : GoS C w d M bx ps s rows) (hb : Below w.heap.size w w') : GoS C w' d M bx ps s rows := by
  obtain ⟨lv, h⟩ := h
  have ho : Only C.P w w' := Only.of hb
  refine ⟨lv, h.fr.trans (FrN.of ho), fun z hz => (h.bx z hz).fr (FrN.of ho), fun p hp => ⟨(h.ps p hp).kd.fr (FrN.of ho), (h.ps p hp).new⟩, ?_⟩
  match s, h.st with
  | .ok l, ⟨ys, h, hr, hk⟩ => exact ⟨ys, h.only ho (h.aft.below hb) (Nat.le_refl _), hr, hk⟩
  | .error q, ⟨d1, ys, h1, h2, h3⟩ => exact ⟨d1, ys, h1.below hb, h2.below hb, h3⟩
theorem GoS.more (h : GoS C w d M bx ps s rows) {M' : Nat} (hM : M ≤ M') : GoS C w d M' bx ps s rows := by
  obtain ⟨lv, h⟩ := h
  refine ⟨lv, h.fr, h.bx, h.ps, ?_⟩
  match s, h.st with
  | .ok l, h => exact h
  | .error q, ⟨d1, ys, h1, h2, h3⟩ => exact ⟨d1, ys, h1, h2, Nat.le_trans h3 hM⟩
/-- What was ok has no bound. -/
theorem GoS.any {l : List Tok} (h : GoS C w d M bx ps (.ok l) rows) (M' : Nat) : GoS C w d M' bx ps (.ok l) rows := by
  obtain ⟨lv, h⟩ := h
  exact ⟨lv, h.fr, h.bx, h.ps, h.st⟩
theorem GoS.err {q : Int × Int} (h : GoS C w d M bx ps (.error q) rows) (d' : Nat) (rows' : List Row) : GoS C w d' M bx ps (.error q) rows' := by
  obtain ⟨lv, h⟩ := h
  exact ⟨lv, h.fr, h.bx, h.ps, h.st⟩
/-- What a function leaves that had its own. -/
theorem GoL.lift {l : List Tok} (h : GoL C w d M bx ps (.ok l) rows lv) : ∃ C', C'.B = C.B ∧ C'.P = C.P ∧ C'.T = C.T ∧ C'.E = C.E ∧ C'.tv = C.tv ∧ C'.w0 = w ∧ (∀ N, GoS C' w d N none [] (.ok l) rows) ∧
    ∀ {w' : World} {d' M' : Nat} {bx' : Option (Nat × Obj)} {ps' : List (List Int × Value)} {s' : Except (Int × Int) (List Tok)} {rows' : List Row}, GoS C' w' d' M' bx' ps' s' rows' → GoS C w' d' M' bx ps s' rows' := by
  obtain ⟨ys, hok, hr, hkb⟩ := h.st
  refine ⟨{ C with w0 := w, lv0 := lv, K := fun g => ∃ y, y ∈ ys ∧ y.2.ownBlock = some g }, rfl, rfl, rfl, rfl, rfl, rfl, fun N => ?_, fun {w' d' M' bx' ps' s' rows'} k => ?_⟩
  · exact ⟨lv, FrN.of (Only.refl _ _), fun z hz => (by cases hz), fun p hp => (by simp at hp), ys, hok, hr, fun y hy g hg => ⟨Or.inl ⟨y, hy, hg⟩, fun p hp => (by simp at hp)⟩⟩
  · obtain ⟨lv', k⟩ := k
    refine ⟨lv', h.fr.trans k.fr, fun z hz => (h.bx z hz).fr k.fr, fun p hp => ⟨(h.ps p hp).kd.fr k.fr, (h.ps p hp).new⟩, ?_⟩
    match s', k.st with
    | .error q, k2 => exact k2
    | .ok l', ⟨zs, k1, k2, k3⟩ =>
      refine ⟨zs, k1, k2, fun z hz g hg => ?_⟩
      rcases (k3 z hz g hg).1 with ⟨y, hy, hyg⟩ | hn
      · exact hkb y hy g hyg
      · refine ⟨Or.inr (Nat.le_trans h.fr.size hn), fun p hp e => ?_⟩
        have h1 := ((h.ps p hp).kd.own.lt g e).2
        exact absurd hn (by simp only; omega)
theorem GoS.drop (h : GoS C w d M bx ps s rows) : GoS C w d M none [] s rows := by
  obtain ⟨lv, h⟩ := h
  refine ⟨lv, h.fr, fun z hz => by (cases hz), fun p hp => by simp at hp, ?_⟩
  match s, h.st with
  | .error q, k => exact k
  | .ok l, ⟨ys, k1, k2, k3⟩ => exact ⟨ys, k1, k2, fun y hy g hg => ⟨(k3 y hy g hg).1, fun p hp => (by simp at hp)⟩⟩
theorem GoS.few (h : GoS C w d M bx ps s rows) : C.T.length ≤ 4000 := by
  obtain ⟨lv, h⟩ := h
  exact h.st.few
theorem GoS.fewR {l : List Tok} (h : GoS C w d M bx ps (.ok l) rows) : rows.length + l.length ≤ C.T.length := by
  obtain ⟨lv, h⟩ := h
  obtain ⟨ys, h, hr, _⟩ := h.st
  have := h.few
  rw [← hr, List.length_map]
  exact this
/-- The parser's cells. -/
def codeE : Except (Int × Int) (List Tok) → Int
  | .ok _ => 0
  | .error q => q.1
theorem GoS.ps9 (h : GoS C w d M bx ps s rows) : ∃ i d1 lv a, Ps w C.P C.T C.E i d1 C.tv lv (codeE s) a ∧ (∀ l, s = .ok l → C.T.drop i = l ∧ d1 = (d : Int)) ∧ ∀ q, s = .error q → q.1 ≠ 0 := by
  obtain ⟨lv, h⟩ := h
  match s, h.st with
  | .ok l, ⟨ys, h, _, _⟩ =>
    obtain ⟨i, hi, hp⟩ := h.aft
    exact ⟨i, _, lv, 0, hp, fun l' hl => by (cases hl; exact ⟨hi, rfl⟩), fun q hq => by cases hq⟩
  | .error q, ⟨d1, ys, h1, _⟩ => exact ⟨_, d1, lv, _, h1.2, fun l hl => (by cases hl), fun q' hq => (by cases hq; exact h1.1)⟩

theorem gtake (h : GoS C w d M bx ps s rows) (hM : 4000 ≤ M) (S : ByteArray) :
    Calls Tryz.prog 29 #[.pointer (some ⟨C.P, 0, none⟩), .string S] w fun e w' => e = .returned (.tuple #[]) ∧ GoS C w' d M bx ps (bindE s (takeT C.E S.data.toList)) rows := by
  obtain ⟨lv, h⟩ := h
  obtain ⟨d1, ys, h1, h2, h3⟩ := h.st.aft
  refine (rtake_any h1 S).mono ?_
  rintro e w' ⟨rfl, ha, ho⟩
  refine ⟨rfl, h.only ho ha (fun l' hl => ?_) hM⟩
  match s, h3, hl with
  | .ok l, h3, hl => exact ⟨h3 l rfl, l, rfl, Nat.le_of_lt (take_len hl)⟩
theorem gis (h : GoS C w d M bx ps s rows) (S : ByteArray) :
    Calls Tryz.prog 26 #[.pointer (some ⟨C.P, 0, none⟩), .string S] w fun e w' => e = .returned (.bool (isE S.data.toList s)) ∧ GoS C w' d M bx ps s rows := by
  have h0 := h
  obtain ⟨lv, h⟩ := h
  obtain ⟨d1, ys, h1, h2, h3⟩ := h.st.aft
  refine (ris_aft h1 S).mono ?_
  rintro e w' ⟨rfl, hb⟩
  exact ⟨rfl, h0.below hb⟩
def posE (E : Int) : Except (Int × Int) (List Tok) → Int
  | .ok l => posOf E l
  | .error _ => E
theorem gat (h : GoS C w d M bx ps s rows) :
    Calls Tryz.prog 28 #[.pointer (some ⟨C.P, 0, none⟩)] w fun e w' => e = .returned (.int .i64 (posE C.E s)) ∧ GoS C w' d M bx ps s rows := by
  have h0 := h
  obtain ⟨lv, h⟩ := h
  obtain ⟨d1, ys, h1, h2, h3⟩ := h.st.aft
  match s, h1, h0 with
  | .ok l, ⟨i, hi, hp⟩, h0 =>
    refine (rat_any hp).mono ?_
    rintro e w' ⟨rfl, hb⟩
    exact ⟨by rw [hi]; rfl, h0.below hb⟩
  | .error q, h1, h0 =>
    refine (rat_err h1).mono ?_
    rintro e w' ⟨rfl, hb⟩
    exact ⟨rfl, h0.below hb⟩
theorem gopen (h : GoS C w d M bx ps s rows) (hM : 4000 ≤ M) (hd : d ≤ 20) (S : ByteArray) :
    Calls Tryz.prog 53 #[.pointer (some ⟨C.P, 0, none⟩), .string S] w fun e w' => e = .returned (.tuple #[]) ∧ GoS C w' (d + 1) M bx ps (bindE s (openT C.E S.data.toList d)) rows := by
  obtain ⟨lv, h⟩ := h
  obtain ⟨d1, ys, h1, h2, h3⟩ := h.st.aft
  refine (ropen_any h1 S d (fun l hl => ⟨h3 l hl, hd⟩)).mono ?_
  rintro e w' ⟨rfl, ⟨d2, ha, hd2⟩, ho⟩
  refine ⟨rfl, h.only ho ha (fun l' hl => ?_) hM⟩
  match s, hl with
  | .ok l, hl => exact ⟨hd2 l' hl, l, rfl, Nat.le_of_lt (open_len hl)⟩
theorem gshut (h : GoS C w (d + 1) M bx ps s rows) (hM : 4000 ≤ M) (hd : d ≤ 20) (S : ByteArray) :
    Calls Tryz.prog 55 #[.pointer (some ⟨C.P, 0, none⟩), .string S] w fun e w' => e = .returned (.tuple #[]) ∧ GoS C w' d M bx ps (bindE s (takeT C.E S.data.toList)) rows := by
  obtain ⟨lv, h⟩ := h
  obtain ⟨d1, ys, h1, h2, h3⟩ := h.st.aft
  refine (rshut_any h1 S).mono ?_
  rintro e w' ⟨rfl, ha, ho⟩
  refine ⟨rfl, h.only ho ha (fun l' hl => ?_) hM⟩
  match s, h3, hl with
  | .ok l, h3, hl =>
    obtain rfl := h3 l rfl
    refine ⟨?_, l, rfl, Nat.le_of_lt (take_len hl)⟩
    unfold wrap64
    omega
theorem gname (h : GoS C w d M bx ps s rows) (hM : 4000 ≤ M) :
    Calls Tryz.prog 51 #[.pointer (some ⟨C.P, 0, none⟩)] w fun e w' => e = .returned (.string ⟨⟨(namE C.E s).1⟩⟩) ∧ GoS C w' d M bx ps (namE C.E s).2 rows := by
  obtain ⟨lv, h⟩ := h
  obtain ⟨d1, ys, h1, h2, h3⟩ := h.st.aft
  refine (rname_any h1).mono ?_
  rintro e w' ⟨rfl, ha, ho⟩
  refine ⟨rfl, h.only ho ha (fun l' hl => ?_) hM⟩
  match s, h3, hl with
  | .ok l, h3, hl =>
    refine ⟨h3 l rfl, l, rfl, ?_⟩
    simp only [namE] at hl
    split at hl
    · cases hl
    · rename_i s r hr
      cases hl
      exact Nat.le_of_lt (name_len hr)
/-- One more node. -/
theorem gnode (h : GoS C w d M bx ps s rows) (hM1 : M ≤ 100000) (k n p : Int) (t : List UInt8) (ks : List Int) (ka : Option Addr) (kn kc : Nat) (hk : ∀ l, s = .ok l → (ks, Value.slice ka kn kc) ∈ ps ∨ (ks = [] ∧ Value.slice ka kn kc = nilV)) (hfew : ∀ l, s = .ok l → rows.length + 1 + l.length ≤ C.T.length) (ps' : List (List Int × Value) := []) (hps : ∀ p, p ∈ ps' → p ∈ ps ∧ ∀ g, (Value.slice ka kn kc).ownBlock = some g → p.2.ownBlock ≠ some g := by simp) :
    Calls Tryz.prog 31 #[.pointer (some ⟨C.P, 0, none⟩), .agg #[.int .i64 k, .int .i64 n, .int .i64 p, .string ⟨⟨t⟩⟩, .slice ka kn kc]] w fun e w' => ∃ v, e = .returned (.int .i64 v) ∧ (∀ l, s = .ok l → v = (rows.length : Int)) ∧ GoS C w' d (M + 1) bx ps' s (rows ++ [⟨k, n, p, t, ks⟩]) := by
  have hT := h.few
  obtain ⟨lv, h⟩ := h
  match s, h.st, h, hfew, hk with
  | .ok l, ⟨ys, hok, hr, hkb⟩, h, hfew, hk =>
    have hl : ys.length = rows.length := by rw [← hr, List.length_map]
    have hf := hfew l rfl
    refine (rnode_lst hok.aft hok.lst (by omega) k n p t ks ka kn kc).mono ?_
    rintro e w' ⟨rfl, lv', ha, hl', hfr⟩
    refine ⟨_, rfl, fun _ _ => by rw [hl], lv', h.fr.trans hfr, fun z hz => (h.bx z hz).fr hfr, fun p hp => ⟨(h.ps p (hps p hp).1).kd.fr hfr, (h.ps p (hps p hp).1).new⟩, ?_⟩
    refine ⟨ys ++ [(⟨k, n, p, t, ks⟩, .slice ka kn kc)], hok.node ha hl' hfr ?_ (by omega), by rw [List.map_append, hr]; rfl, fun y hy g hg => ?_⟩
    · rcases hk l rfl with hk1 | ⟨rfl, hk1⟩
      · have := (h.ps _ hk1).kd
        exact ⟨this.own, this.apart, this.far⟩
      · rw [hk1]; exact kd_none _ _ _ _ _ _ _
    · rcases List.mem_append.1 hy with hy | hy
      · exact ⟨(hkb y hy g hg).1, fun p hp => (hkb y hy g hg).2 p (hps p hp).1⟩
      · obtain rfl : y = (⟨k, n, p, t, ks⟩, .slice ka kn kc) := by simpa using hy
        rcases hk l rfl with hk1 | ⟨_, hk1⟩
        · exact ⟨Or.inr ((h.ps _ hk1).new g hg), fun p hp => (hps p hp).2 g hg⟩
        · simp only [hk1] at hg
          simp [Value.ownBlock] at hg
  | .error q, ⟨d1, ys, h1, h2, h3⟩, h, _, _ =>
    refine (rnode_lst h1 h2 (by omega) k n p t ks ka kn kc).mono ?_
    rintro e w' ⟨rfl, lv', ha, hl', hfr⟩
    refine ⟨_, rfl, fun l hl => (by cases hl), lv', h.fr.trans hfr, fun z hz => (h.bx z hz).fr hfr, fun p hp => ⟨(h.ps p (hps p hp).1).kd.fr hfr, (h.ps p (hps p hp).1).new⟩, d1, _, ha, hl', by simp; omega⟩

/-- What an expression (a statement, a block) leaves. -/
def TrQ (C : Cx9) (w : World) (d M : Nat) (bx : Option (Nat × Obj)) (ps : List (List Int × Value)) (rows : List Row) (r : TRes Nd) (v : Int) : Prop :=
  match r with
  | .ok (x, q) => v = ((rows.length + ndSize x : Nat) : Int) - 1 ∧ GoS C w d M bx ps (.ok q) (rows ++ flat rows.length x)
  | .error q => GoS C w d M bx ps (.error q) []
/-- A function that reads a tree does so. -/
def Ctr (fn : Nat) (av : List Value) (E : Int) (d : Nat) (l : List Tok) (r : TRes Nd) (M : Nat) : Prop := ∀ (C : Cx9) (w : World) (N : Nat) (bx : Option (Nat × Obj)) (ps : List (List Int × Value)) (rows : List Row), C.E = E → GoS C w d N bx ps (.ok l) rows →
  Calls Tryz.prog fn (Value.pointer (some ⟨C.P, 0, none⟩) :: av).toArray w fun e w' => ∃ v, e = .returned (.int .i64 v) ∧ TrQ C w' d M bx ps rows r v
/-- It is enough to show that for a fresh start. -/
theorem ctr_of {fn : Nat} {av : List Value} {E : Int} {l : List Tok} {r : TRes Nd} (h : ∀ (C : Cx9) (w : World) (rows : List Row), C.E = E → C.w0 = w → (∀ N, GoS C w d N none [] (.ok l) rows) → Calls Tryz.prog fn (Value.pointer (some ⟨C.P, 0, none⟩) :: av).toArray w fun e w' => ∃ v, e = .returned (.int .i64 v) ∧ TrQ C w' d M none [] rows r v) : Ctr fn av E d l r M := by
  intro C w N bx ps rows hE hg
  obtain ⟨lv, hg⟩ := hg
  obtain ⟨C', e1, e2, e3, e4, e5, e6, h1, h2⟩ := hg.lift
  rw [← e2]
  refine (h C' w rows (e4.trans hE) e6 h1).mono ?_
  rintro e w' ⟨v, rfl, hq⟩
  refine ⟨v, rfl, ?_⟩
  match r, hq with
  | .ok (x, q), ⟨hv, hq⟩ => exact ⟨hv, h2 hq⟩
  | .error q, hq => exact h2 hq
end

/-- The most nodes, so deep, where it failed. -/
def ubD (d : Nat) : Nat := 4001 + 12 * (21 - d)
end

end Go.Proofs.YtggfbfjdiikaeaaGreatDoor
