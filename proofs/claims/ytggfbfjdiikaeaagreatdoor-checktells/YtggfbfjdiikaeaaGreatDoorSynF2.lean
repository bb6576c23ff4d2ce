/-
  The document's parser: what a function makes of its own, and calls that read a tree.
  The document's parser: what stands in brackets; a name.
  The document's parser: numbers, names, signs ahead.
  The document's parser: signs ahead.
-/
import Derived.Test.YtggfbfjdiikaeaaGreatDoorSynD7
namespace Go.Proofs.YtggfbfjdiikaeaaGreatDoor
section
open Go.RowKit

section
variable {C : Cx9} {w w' : World} {d d' M : Nat} {lv : Value} {bx : Option (Nat × Obj)} {ps : List (List Int × Value)} {s : Except (Int × Int) (List Tok)} {rows : List Row}
theorem GoL.lts (h : GoL C w d M bx ps s rows lv) : C.P < w.heap.size ∧ ∀ g, lv.ownBlock = some g → g < w.heap.size := by
  obtain ⟨d1, ys, h1, h2, _⟩ := h.st.aft
  obtain ⟨i, c, a, hp⟩ := h1.ps
  exact ⟨hp.lt, fun g hg => (h2.own.lt g hg).2⟩
/-- A node of one's own. -/
theorem GoS.box (h : GoS C w d M none ps s rows) (o : Obj) : GoS C (w.alloc o) d M (some (w.heap.size, o)) ps s rows := by
  obtain ⟨lv, h0⟩ := h
  have hb := (Below.refl w.heap.size w).alloc (Nat.le_refl _) o
  have ho : Only C.P w (w.alloc o) := Only.of hb
  obtain ⟨hP, hl⟩ := h0.lts
  refine ⟨lv, h0.fr.trans (FrN.of ho), fun z hz => ?_, fun p hp => ⟨(h0.ps p hp).kd.fr (FrN.of ho), (h0.ps p hp).new⟩, ?_⟩
  · cases hz
    refine ⟨heap_alloc_new _ _, fun e => ?_, fun e => ?_, h0.fr.size⟩
    · simp only at e; omega
    · have := hl _ e; simp only at this; omega
  · match s, h0.st with
    | .ok l, ⟨ys, h, hr, hkb⟩ => exact ⟨ys, h.only ho (h.aft.below hb) (Nat.le_refl _), hr, hkb⟩
    | .error q, ⟨d1, ys, h1, h2, h3⟩ => exact ⟨d1, ys, h1.below hb, h2.below hb, h3⟩
/-- Kids of one's own. -/
theorem GoS.kids (h : GoS C w d M bx ps s rows) (ks : List Int) (n : Nat) (hn : n = ks.length) (h1 : 1 ≤ n) (cs : Array Value) (hcs : cs = (ks.map fun k => Value.int .i64 k).toArray) (hk : n ≤ 100) (g : Nat) (hg : g = w.heap.size) : GoS C (w.alloc (.cells cs 3)) d M bx ((ks, .slice (some ⟨g, 0, none⟩) n n) :: ps) s rows := by
  subst hcs hn hg
  have hb := (Below.refl w.heap.size w).alloc (Nat.le_refl _) (Obj.cells (ks.map fun k => Value.int .i64 k).toArray 3)
  have ho : Only C.P w (w.alloc (.cells (ks.map fun k => Value.int .i64 k).toArray 3)) := Only.of hb
  obtain ⟨lv, h0⟩ := h
  obtain ⟨hP, hl⟩ := h0.lts
  refine ⟨lv, h0.fr.trans (FrN.of ho), fun z hz => (h0.bx z hz).fr (FrN.of ho), fun p hp => ?_, ?_⟩
  · rcases List.mem_cons.1 hp with rfl | hp
    · refine ⟨⟨?_, ?_, ?_⟩, ?_⟩
      · refine ⟨by simp, Or.inr ⟨w.heap.size, ks.length, (ks.map fun k => Value.int .i64 k).toArray, rfl, Nat.zero_le _, heap_alloc_new _ _, Nat.le_refl _, ?_, by simp, by simp; exact List.take_of_length_le (by simp)⟩⟩
        unfold maxLen; omega
      · intro e
        have : w.heap.size = C.P := by simpa [Value.ownBlock] using e
        omega
      · intro g hg e
        have : w.heap.size = g := by simpa [Value.ownBlock] using hg
        have := hl g e
        omega
      · intro g hg
        have : w.heap.size = g := by simpa [Value.ownBlock] using hg
        have := h0.fr.size
        omega
    · exact ⟨(h0.ps p hp).kd.fr (FrN.of ho), (h0.ps p hp).new⟩
  · match s, h0.st with
    | .ok l, ⟨ys, h, hr, hkb⟩ =>
      refine ⟨ys, h.only ho (h.aft.below hb) (Nat.le_refl _), hr, fun y hy g hg => ⟨(hkb y hy g hg).1, fun p hp => ?_⟩⟩
      rcases List.mem_cons.1 hp with rfl | hp
      · have := ((h.kid y hy).own.lt g hg).2
        intro e
        have : w.heap.size = g := by simpa [Value.ownBlock] using e
        omega
      · exact (hkb y hy g hg).2 p hp
    | .error q, ⟨d1, ys, h1, h2, h3⟩ => exact ⟨d1, ys, h1.below hb, h2.below hb, h3⟩
/-- Another block than the parser's has changed: one that holds a node. -/
theorem aft_off {P b : Nat} {T : List Tok} {E d : Int} {tv lv : Value} {cs : Array Value} (h : Aft w P T E d tv lv s) (ho : Only b w w') (hb : w.heap[b]? = some (.cells cs 60)) (hne : b ≠ P) : Aft w' P T E d tv lv s := by
  have key : ∀ {i : Nat} {c a : Int}, Ps w P T E i d tv lv c a → Ps w' P T E i d tv lv c a := fun q =>
    ⟨(ho.block P q.lt (fun e => hne e.symm)).trans q.box, fam_keeps q.toks (fun g hg => ho.block g (q.toks.lt g hg).2 fun e => own_apart q.toks hb (by decide) (by rw [hg, e])), q.apart, q.le, q.few⟩
  match s, h with
  | .ok l, ⟨i, hi, h⟩ => exact ⟨i, hi, key h⟩
  | .error q, ⟨hq, h⟩ => exact ⟨hq, key h⟩
theorem kd_off {P b : Nat} {cs : Array Value} {x : Row × Value} (h : KdAt w P lv x) (ho : Only b w w') (hb : w.heap[b]? = some (.cells cs 60)) : KdAt w' P lv x :=
  ⟨fam_keeps h.own fun g hg => ho.block g (h.own.lt g hg).2 fun e => own_apart h.own hb (by decide) (by rw [hg, e]), h.apart, h.far⟩
theorem lst_off {P B b : Nat} {tv : Value} {xs : List (Row × Value)} (h : Lst w B P tv lv xs) (ho : Only b w w') (hl : lv.ownBlock ≠ some b) : Lst w' B P tv lv xs :=
  ⟨fam_keeps h.own fun g hg => ho.block g (h.own.lt g hg).2 fun e => hl (by rw [hg, e]), Nat.le_trans h.low ho.size, h.apart, h.far⟩
/-- A cell of one's own node is set. -/
theorem GoS.setb {b : Nat} {cs : Array Value} (h : GoS C w d M (some (b, .cells cs 60)) ps s rows) (i : Nat) (u : Value) : GoS C (w.setCell ⟨b, i, none⟩ u) d M (some (b, .cells (cs.setIfInBounds i u) 60)) ps s rows := by
  obtain ⟨lv, h⟩ := h
  have hk := h.bx _ rfl
  have ho : Only b w (w.setCell ⟨b, i, none⟩ u) := (Only.refl _ _).set _ _
  have hsz : (w.setCell ⟨b, i, none⟩ u).heap.size = w.heap.size := by simp [World.setCell]
  refine ⟨lv, ⟨h.fr.os, h.fr.tape, h.fr.output, by rw [hsz]; exact h.fr.size, fun k hk1 hk2 hk3 => ?_, h.fr.own⟩, fun z hz => ?_, fun p hp => ⟨kd_off (h.ps p hp).kd ho hk.is, (h.ps p hp).new⟩, ?_⟩
  · have := hk.new
    simp only at this
    exact (ho.block k (Nat.lt_of_lt_of_le hk1 h.fr.size) (by omega)).trans (h.fr.block k hk1 hk2 hk3)
  · cases hz
    exact ⟨heap_set9 hk.is, hk.ne, hk.far, hk.new⟩
  · match s, h.st with
    | .ok l, ⟨ys, h, hr, hkb⟩ => exact ⟨ys, ⟨aft_off h.aft ho hk.is hk.ne, lst_off h.lst ho hk.far, fun x hx => kd_off (h.kid x hx) ho hk.is, h.few⟩, hr, hkb⟩
    | .error q, ⟨d1, ys, h1, h2, h3⟩ => exact ⟨d1, ys, aft_off h1 ho hk.is hk.ne, lst_off h2 ho hk.far, h3⟩
theorem GoS.set0 {b : Nat} {a0 a1 a2 a3 a4 : Value} (h : GoS C w d M (some (b, .cells #[a0, a1, a2, a3, a4] 60)) ps s rows) (u : Value) : GoS C (w.setCell ⟨b, 0, none⟩ u) d M (some (b, .cells #[u, a1, a2, a3, a4] 60)) ps s rows := h.setb 0 u
theorem GoS.set3 {b : Nat} {a0 a1 a2 a3 a4 : Value} (h : GoS C w d M (some (b, .cells #[a0, a1, a2, a3, a4] 60)) ps s rows) (u : Value) : GoS C (w.setCell ⟨b, 3, none⟩ u) d M (some (b, .cells #[a0, a1, a2, u, a4] 60)) ps s rows := h.setb 3 u
theorem GoS.set4 {b : Nat} {a0 a1 a2 a3 a4 : Value} (h : GoS C w d M (some (b, .cells #[a0, a1, a2, a3, a4] 60)) ps s rows) (u : Value) : GoS C (w.setCell ⟨b, 4, none⟩ u) d M (some (b, .cells #[a0, a1, a2, a3, u] 60)) ps s rows := h.setb 4 u
theorem GoS.bxc {b : Nat} {o : Obj} (h : GoS C w d M (some (b, o)) ps s rows) : w.heap[b]? = some o ∧ b ≠ C.P := by
  obtain ⟨lv, h⟩ := h
  have hk := h.bx _ rfl
  exact ⟨hk.is, hk.ne⟩
theorem box5 {w : World} {b : Nat} {t : TypeId} {a0 a1 a2 a3 a4 : Value} (h : w.heap[b]? = some (.cells #[a0, a1, a2, a3, a4] t)) : w.cell? ⟨b, 0, none⟩ = some a0 ∧ w.cell? ⟨b, 1, none⟩ = some a1 ∧ w.cell? ⟨b, 2, none⟩ = some a2 ∧ w.cell? ⟨b, 3, none⟩ = some a3 ∧ w.cell? ⟨b, 4, none⟩ = some a4 ∧ ∀ j, w.frozen? ⟨b, j, none⟩ = false :=
  ⟨box_cell h rfl, box_cell h rfl, box_cell h rfl, box_cell h rfl, box_cell h rfl, fun _ => box_free h⟩
theorem set_size (w : World) (a : Addr) (u : Value) : (w.setCell a u).heap.size = w.heap.size := by simp [World.setCell]
/-- The depth goes down. -/
theorem GoS.deep (h : GoS C w (d + 1) M bx ps s rows) (hd : d ≤ 20) {i : Nat} {d1 : Int} {tv lv : Value} {c a : Int} (hp : Ps w C.P C.T C.E i d1 tv lv c a) : GoS C (w.setCell ⟨C.P, 3, none⟩ (.int .i64 (wrap64 (d1 - 1)))) d M bx ps s rows := by
  obtain ⟨lv', h⟩ := h
  obtain ⟨d2, ys, h1, h2, h3⟩ := h.st.aft
  obtain ⟨i2, c2, a2, hp2⟩ := h1.ps
  have e := hp.c3.symm.trans hp2.c3
  simp only [Option.some.injEq, Value.int.injEq, true_and] at e
  subst e
  have ho : Only C.P w (w.setCell ⟨C.P, 3, none⟩ (.int .i64 (wrap64 (d1 - 1)))) := (Only.refl _ _).set _ _
  have ha := h1.deep (wrap64 (d1 - 1))
  refine ⟨lv', h.fr.trans (FrN.of ho), fun z hz => (h.bx z hz).fr (FrN.of ho), fun p hp => ⟨(h.ps p hp).kd.fr (FrN.of ho), (h.ps p hp).new⟩, ?_⟩
  match s, h.st, h3, ha with
  | .ok l, ⟨ys, hok, hr, hkb⟩, h3, ha =>
    have hd2 := h3 l rfl
    refine ⟨ys, hok.only ho ?_ (Nat.le_refl _), hr, hkb⟩
    have e2 : wrap64 (d1 - 1) = (d : Int) := by rw [hd2]; unfold wrap64; omega
    rw [e2] at ha ⊢
    exact ha
  | .error q, ⟨d3, ys, g1, g2, g3⟩, _, ha => exact ⟨_, ys, ha, g2.only ho, g3⟩

/-- What a tree leaves, as a state. -/
def resE : TRes Nd → Except (Int × Int) (List Tok)
  | .ok (_, q) => .ok q
  | .error q => .error q
def rowsE (rows : List Row) : TRes Nd → List Row
  | .ok (x, _) => rows ++ flat rows.length x
  | .error _ => []
theorem TrQ.go {r : TRes Nd} {v : Int} (h : TrQ C w d M bx ps rows r v) : GoS C w d M bx ps (resE r) (rowsE rows r) := by
  match r, h with
  | .ok (x, q), h => exact h.2
  | .error q, h => exact h
theorem TrQ.val {x : Nd} {q : List Tok} {v : Int} (h : TrQ C w d M bx ps rows (.ok (x, q)) v) : v = ((rows.length + ndSize x : Nat) : Int) - 1 := h.1
theorem Ctr.more {fn : Nat} {av : List Value} {E : Int} {l : List Tok} {r : TRes Nd} (h : Ctr fn av E d l r M) {M' : Nat} (hM : M ≤ M') : Ctr fn av E d l r M' := fun C w N bx ps rows hE hg => by
  refine (h C w N bx ps rows hE hg).mono ?_
  rintro e w' ⟨v, rfl, hq⟩
  refine ⟨v, rfl, ?_⟩
  match r, hq with
  | .ok (x, q), hq => exact ⟨hq.1, hq.2.more hM⟩
  | .error q, hq => exact hq.more hM
/-- A function that goes on where it failed. -/
def ErrC (fn : Nat) (av : List Value) : Prop := ∀ (w : World) (B P : Nat) (T : List Tok) (E d : Int) (tv lv : Value) (xs : List (Row × Value)) (q : Int × Int), Aft w P T E d tv lv (.error q) → Lst w B P tv lv xs → xs.length ≤ 500000 →
  Calls Tryz.prog fn (Value.pointer (some ⟨P, 0, none⟩) :: av).toArray w fun e w' => ∃ v, e = .returned (.int .i64 v) ∧ ErrQ B P T E tv q w lv (xs.length + 1) w'
theorem err_expr9 (k : Nat) (hk : k ≤ 5) : ErrC 73 [.int .i64 (k : Int)] := fun w B P T E d tv lv xs q h hl hn => by
  refine (rexpr_err hn (5 - k) k (by omega) h hl).mono ?_
  rintro e w' ⟨v, lv', x, rfl, h1, h2, h3⟩
  exact ⟨v, rfl, d, lv', _, h1, h2, by simp, h3⟩
theorem err_block9 : ErrC 30 [] := fun _ _ _ _ _ _ _ _ _ _ h hl hn => rblock_err h hl hn
/-- A call of a function that reads a tree, where all went well or not. -/
theorem gtree {fn : Nat} {av : List Value} {f : List Tok → TRes Nd} (hE : ErrC fn av) (h : GoS C w d M bx ps s rows) (hc : ∀ l, s = .ok l → Ctr fn av C.E d l (f l) (M + 1)) (hM : M ≤ 100000) :
    Calls Tryz.prog fn (Value.pointer (some ⟨C.P, 0, none⟩) :: av).toArray w fun e w' => ∃ v, e = .returned (.int .i64 v) ∧ TrQ C w' d (M + 1) bx ps rows (bindL s f) v := by
  match s, h, hc with
  | .ok l, h, hc => exact hc l rfl C w M bx ps rows rfl h
  | .error q, h, _ =>
    obtain ⟨lv, h⟩ := h
    obtain ⟨d1, ys, h1, h2, h3⟩ := h.st
    refine (hE w C.B C.P C.T C.E d1 C.tv lv ys q h1 h2 (by omega)).mono ?_
    rintro e w' ⟨v, rfl, d2, lv', xs, k1, k2, k3, k4⟩
    exact ⟨v, rfl, lv', h.fr.trans k4, fun z hz => (h.bx z hz).fr k4, fun p hp => ⟨(h.ps p hp).kd.fr k4, (h.ps p hp).new⟩, d2, xs, k1, k2, by omega⟩
end
end

section
open Go.RowKit

section
variable {E : Int} {d : Nat} {l : List Tok}
theorem is_alone {S R : List UInt8} (h : isTok S l = true) (hne : S ≠ R) : isTok R l = false := by
  match l, h with
  | t :: r, h =>
    simp only [isTok, Bool.and_eq_true, decide_eq_true_eq] at h
    simp only [isTok, h.2, decide_eq_false hne, Bool.and_false]
set_option maxRecDepth 100000 in
set_option maxHeartbeats 1600000 in
theorem rheld_ctr (hd : d ≤ 20) (IH : ∀ r, r.length < l.length → d + 1 ≤ 20 → Ctr 73 [.int .i64 0] E (d + 1) r (exprT E 0 (d + 1) r) (ubD (d + 1) + 5)) :
    Ctr 74 [] E d l (heldT E d l) (ubD d) := by
  refine ctr_of fun C w rows hE hw hg => ?_
  subst hE
  have hu : ubD (d + 1) + 5 ≤ 4500 := by unfold ubD; omega
  have hu2 : 4001 ≤ ubD (d + 1) := by unfold ubD; omega
  have hu3 : ubD (d + 1) + 5 ≤ ubD d ∨ d = 20 := by unfold ubD; omega
  have hu4 : 4001 ≤ ubD d := by unfold ubD; omega
  obtain ⟨M0, hM0⟩ : ∃ M0, M0 + 1 = ubD (d + 1) + 5 := ⟨ubD (d + 1) + 4, rfl⟩
  have HO := Hid.out (p := Hid _) (gopen (hg 4000) (Nat.le_refl _) hd ⟨#[40]⟩)
  have HX : Hid (∀ w1 M, 4000 ≤ M → M ≤ 4600 → (∀ q, openT C.E [40] d l = .ok q → ubD (d + 1) + 5 ≤ M + 1) → GoS C w1 (d + 1) M none [] (openT C.E [40] d l) rows → Calls Tryz.prog 73 #[.pointer (some ⟨C.P, 0, none⟩), .int .i64 0] w1 fun e w' => ∃ v, e = .returned (.int .i64 v) ∧ TrQ C w' (d + 1) (M + 1) none [] rows (bindL (openT C.E [40] d l) (exprT C.E 0 (d + 1))) v) := fun w1 M h1 h2 h3 hg1 => by
    refine gtree (err_expr9 0 (by omega)) hg1 (fun q hq => ?_) (by omega)
    have k := open_ok hq
    exact (IH q (open_len hq) (by have := k.2.1; omega)).more (h3 q hq)
  obtain ⟨M, hM1, hM2, hM3, hM4⟩ : ∃ M, 4000 ≤ M ∧ M ≤ 4600 ∧ (∀ q, openT C.E [40] d l = .ok q → ubD (d + 1) + 5 ≤ M + 1) ∧ M + 1 ≤ ubD d := by
    rcases hu3 with h | h
    · exact ⟨M0, by omega, by omega, fun _ _ => by omega, by omega⟩
    · refine ⟨4000, by omega, by omega, fun q hq => ?_, by omega⟩
      exact absurd h (open_ok hq).2.1
  have HXM := Hid.out (p := Hid _) (fun w1 => HX.out w1 M hM1 hM2 hM3)
  have HS := Hid.out (p := Hid _) (And.intro hM1 hd)
  have HM : Hid (∀ w1 s, GoS C w1 d (M + 1) none [] s rows → True) := fun _ _ _ => trivial
  replace HO := Hid.out (p := Hid _) (gopen (hg M) hM1 hd ⟨#[40]⟩)
  clear HX hg hu hu2 hu3 hM2 hM3 HM IH
  go_enter Tryz.func74, Tryz.ntmps74
  go_wp2_with (first
    | (go_at_call 53; refine Calls.mono HO.out ?_; rintro e w1 ⟨rfl, hg1⟩)
    | (go_at_call 73; refine Calls.mono (HXM.out _ hg1) ?_; rintro e w2 ⟨v, rfl, hq⟩; have HQ := Hid.out (p := Hid _) hq.go; have HV : Hid (∀ x q, bindL (openT C.E [40] d l) (exprT C.E 0 (d + 1)) = .ok (x, q) → v = ((rows.length + ndSize x : Nat) : Int) - 1) := (fun x q h => by rw [h] at hq; exact hq.1); clear hq hg1)
    | (go_at_call 55; refine Calls.mono (gshut HQ.out (Nat.le_succ_of_le HS.out.1) HS.out.2 _) ?_; rintro e w3 ⟨rfl, hg3⟩))
  go_ret
  refine ⟨v, rfl, ?_⟩
  rw [heldT_is]
  have hV := HV.out
  change GoS C w3 d (M + 1) none [] (bindE (resE (bindL (openT C.E [40] d l) (exprT C.E 0 (d + 1)))) (takeT C.E [41])) _ at hg3
  cases ho : openT C.E [40] d l with
  | error q =>
    rw [ho] at hg3
    exact (hg3.more hM4).err _ _
  | ok r =>
    rw [ho] at hg3 hV
    simp only [bindL] at hg3 hV ⊢
    cases hx : exprT C.E 0 (d + 1) r with
    | error q =>
      rw [hx] at hg3
      exact (hg3.more hM4).err _ _
    | ok y =>
      obtain ⟨x, q⟩ := y
      rw [hx] at hg3
      simp only [bindT, resE, bindE] at hg3 ⊢
      cases ht : takeT C.E [41] q with
      | error q2 =>
        rw [ht] at hg3
        exact (hg3.more hM4).err _ _
      | ok q2 =>
        rw [ht] at hg3
        exact ⟨hV x q hx, hg3.any _⟩
end
end

section
open Go.RowKit

section
variable {E : Int} {d : Nat} {l : List Tok}
/-- The elder form. -/
theorem trq_of {C : Cx9} {w w' : World} {M : Nat} {bx : Option (Nat × Obj)} {ps : List (List Int × Value)} {rows : List Row} {lv : Value} {xs : List (Row × Value)} {r : TRes Nd} {e : Ending} (h : GoL C w d M bx ps (.ok l) rows lv) (hxs : xs.map Prod.fst = rows) (hk0 : KB C ps xs) (hq : TreeQ C.B C.P C.T C.E d C.tv w lv M xs r e w') : ∃ v, e = .returned (.int .i64 v) ∧ TrQ C w' d M bx ps rows r v := by
  have hlen : xs.length = rows.length := by rw [← hxs, List.length_map]
  match r, hq with
  | .ok (x, q), ⟨he, lv', ys, h1, h2, h3, h4⟩ =>
    refine ⟨_, he, by rw [hlen], lv', h.fr.trans h3, fun z hz => (h.bx z hz).fr h3, fun p hp => ⟨(h.ps p hp).kd.fr h3, (h.ps p hp).new⟩, xs ++ ys, h1, ?_, fun y hy g hg => ?_⟩
    · rw [List.map_append, hxs, h2, hlen]
    · rcases List.mem_append.1 hy with hy | hy
      · exact hk0 y hy g hg
      · rw [h4 y hy] at hg
        simp [Value.ownBlock] at hg
  | .error q, ⟨v, he, d2, lv', ys, k1, k2, k3, k4⟩ =>
    exact ⟨v, he, lv', h.fr.trans k4, fun z hz => (h.bx z hz).fr k4, fun p hp => ⟨(h.ps p hp).kd.fr k4, (h.ps p hp).new⟩, d2, ys, k1, k2, k3⟩
theorem runary_num9 (t : Tok) (r : List Tok) (hk : t.kind = 3) (M : Nat) : Ctr 92 [] E d (t :: r) (.ok (.mk 15 t.num t.pos [] [], r)) M := by
  refine ctr_of fun C w rows hE hw hg => ?_
  obtain ⟨lv, h⟩ := hg M
  obtain ⟨xs, hok, hr, hkb⟩ := h.st
  obtain ⟨k, v, p, x⟩ := t
  refine (runary_num hok hk M).mono ?_
  intro e w' hq
  exact trq_of h hr hkb hq
set_option maxRecDepth 100000 in
set_option maxHeartbeats 1600000 in
theorem runary_nam9 (h1 : isTok [45] l = false) (h2 : isTok [33] l = false) (h3 : isTok [40] l = false) (hk : ∀ t r, l = t :: r → t.kind ≠ 3) : Ctr 92 [] E d l (primT E l) (ubD d) := by
  refine ctr_of fun C w rows hE hw hg => ?_
  subst hE
  have HC := Hid.out (p := Hid _) (hg 4000)
  have hfw := (hg 4000).fewR
  have hprim : primT C.E l = match nameT C.E l with
    | .ok (s, r) => .ok (.mk 16 0 (posOf C.E l) s [], r)
    | .error f => .error f := by
    have ht : ∃ f, tnumT C.E l = .error f := by
      match l, hk with
      | [], _ => exact ⟨_, rfl⟩
      | t :: r, hk => exact ⟨_, by rw [tnumT, if_neg (hk t r rfl)]⟩
    obtain ⟨f, hf⟩ := ht
    unfold primT
    rw [hf]
    rfl
  obtain ⟨R, hR⟩ : ∃ R, R = primT C.E l := ⟨_, rfl⟩
  rw [← hR]
  have HR := Hid.out (p := Hid _) (hR.trans hprim)
  clear hprim hR
  have H1 : Hid (isTok [45] l = false ∧ isTok [33] l = false ∧ isTok [40] l = false) := ⟨h1, h2, h3⟩
  have HK := Hid.out (p := Hid _) hk
  clear hg h1 h2 h3 hk
  go_enter Tryz.func92, Tryz.ntmps92
  go_wp2_with (first
    | (go_at_call 28; refine Calls.mono (gat HC.out) ?_; rintro e w1 ⟨rfl, hg⟩; replace HC := Hid.out (p := Hid _) hg; clear hg)
    | (go_at_call 26; refine Calls.mono (gis HC.out _) ?_; rintro e w1 ⟨rfl, hg⟩; (first | rw [show isE (⟨#[45]⟩ : ByteArray).data.toList (.ok l) = false from H1.out.1] | rw [show isE (⟨#[33]⟩ : ByteArray).data.toList (.ok l) = false from H1.out.2.1] | rw [show isE (⟨#[40]⟩ : ByteArray).data.toList (.ok l) = false from H1.out.2.2]); replace HC := Hid.out (p := Hid _) hg; clear hg))
  obtain ⟨i, d1, lv, a, hps, hil, _⟩ := HC.out.ps9
  obtain ⟨hi, hd1⟩ := hil l rfl
  have hfew := hps.few
  have hle := hps.le
  have hP := hps.lt
  have c0 := hps.c0
  have c2 := hps.c2
  have HPS := Hid.out (p := Hid _) hps
  obtain ⟨ta, tc, htv⟩ := hps.toks.form
  rw [htv] at c0
  have hg2 := HC.out.below (Below.refl _ _).drew
  replace HC := Hid.out (p := Hid _) hg2
  have HI := Hid.out (p := Hid _) hi
  clear hil hg2 hi hd1
  have hstep : ∀ (P : Prop), ((i < C.T.length → ((C.T.getD i tok0).kind == 3) = false → P)) → ((¬ i < C.T.length) → P) → P := fun P p1 p2 => by
    by_cases hlt : i < C.T.length
    · refine p1 hlt ?_
      have hd := getD_drop hlt
      rw [HI.out] at hd
      simpa using HK.out _ _ hd
    · exact p2 hlt
  have HFW := Hid.out (p := Hid _) (fun q (hq : (namE C.E (.ok l)).2 = .ok q) => (show rows.length + 1 + q.length ≤ C.T.length from by
      simp only [namE] at hq
      split at hq
      · cases hq
      · rename_i s r hr
        cases hq
        have := name_len hr
        omega))
  have HEND : Hid (∀ (V : World) (v : Int), (∀ q, (namE C.E (.ok l)).2 = .ok q → v = (rows.length : Int)) → GoS C V d 4001 none [] (namE C.E (.ok l)).2 (rows ++ [⟨16, 0, posOf C.E l, (namE C.E (.ok l)).1, []⟩]) → TrQ C V d (ubD d) none [] rows R v) := fun V v hv hg => by
    rw [HR.out]
    have hu : 4001 ≤ ubD d := by unfold ubD; omega
    simp only [namE] at hv hg
    cases hn : nameT C.E l with
    | error f =>
      rw [hn] at hv hg
      exact (hg.more hu).err _ _
    | ok p =>
      obtain ⟨s, r⟩ := p
      rw [hn] at hv hg
      refine ⟨?_, hg.any _⟩
      rw [hv _ rfl, size_none]
      omega
  refine hstep _ (fun hlt hk1 => ?_) (fun hlt => ?_)
  · have htk := hps.toks
    rw [htv] at htk
    obtain ⟨g, rfl, t0, t1, t2, t3⟩ := htk.cells hlt
    have hlt' : (i : Int) < (C.T.length : Int) := by omega
    obtain ⟨⟨k, v, p, t⟩, ht⟩ : ∃ x, C.T.getD i tok0 = x := ⟨_, rfl⟩
    rw [ht] at t0 t1 t2 t3 hk1
    simp only at t0 t1 t2 t3 hk1
    clear ht hps htk hstep
    go_region
    go_wp2_with (first
      | (go_at_call 51; refine Calls.mono (gname HC.out (Nat.le_refl _)) ?_; rintro e w2 ⟨rfl, hg⟩; replace HC := Hid.out (p := Hid _) hg; clear hg)
      | (go_at_call 31; refine Calls.mono (gnode HC.out (by omega) _ _ _ _ [] _ _ _ (fun _ _ => Or.inr ⟨rfl, rfl⟩) HFW.out) ?_; rintro e w3 ⟨v, rfl, hv, hg⟩; replace HC := Hid.out (p := Hid _) (And.intro hv hg); clear hg hv))
    go_ret
    exact ⟨_, rfl, HEND.out _ _ HC.out.1 HC.out.2⟩
  · have hlt' : ¬ (i : Int) < (C.T.length : Int) := by omega
    clear hps hstep
    go_region
    go_wp2_with (first
      | (go_at_call 51; refine Calls.mono (gname HC.out (Nat.le_refl _)) ?_; rintro e w2 ⟨rfl, hg⟩; replace HC := Hid.out (p := Hid _) hg; clear hg)
      | (go_at_call 31; refine Calls.mono (gnode HC.out (by omega) _ _ _ _ [] _ _ _ (fun _ _ => Or.inr ⟨rfl, rfl⟩) HFW.out) ?_; rintro e w3 ⟨v, rfl, hv, hg⟩; replace HC := Hid.out (p := Hid _) (And.intro hv hg); clear hg hv))
    go_ret
    exact ⟨_, rfl, HEND.out _ _ HC.out.1 HC.out.2⟩
end
end

section
open Go.RowKit

section
variable {E : Int} {d : Nat} {l : List Tok}
set_option maxRecDepth 100000 in
set_option maxHeartbeats 1600000 in
theorem runary_min (hd : d ≤ 20) (h1 : isTok [45] l = true) (IH : d + 1 ≤ 20 → Ctr 92 [] E (d + 1) l.tail (unaryT E (d + 1) l.tail) (ubD (d + 1))) : Ctr 92 [] E d l (unaryT E d l) (ubD d) := by
  refine ctr_of fun C w rows hE hw hg => ?_
  subst hE
  have hfw := (hg 4000).fewR
  have hT := (hg 4000).few
  have HC := Hid.out (p := Hid _) (hg 4000)
  have h2 : isTok [33] l = false := is_alone h1 (by decide)
  have H1 : Hid (isTok [45] l = true ∧ isTok [33] l = false) := ⟨h1, h2⟩
  obtain ⟨R, hR⟩ : ∃ R, R = unaryT C.E d l := ⟨_, rfl⟩
  have hR2 := hR
  rw [unaryT_is, if_pos h1] at hR2
  rw [← hR]
  have HU : Hid (4001 ≤ ubD d ∧ ubD d ≤ 5000) := by show _ ∧ _; unfold ubD; omega
  by_cases h20 : d = 20
  · have ho : openT C.E [45] d l = .error (6, posOf C.E l) := by unfold openT; rw [if_pos ⟨h1, h20⟩]
    rw [ho] at hR2
    have HR := Hid.out (p := Hid _) (And.intro hR2 ho)
    clear hg h1 h2 hR hR2 ho IH
    go_enter Tryz.func92, Tryz.ntmps92
    go_wp2_with (first
      | (go_at_call 28; refine Calls.mono (gat HC.out) ?_; rintro e w1 ⟨rfl, hg⟩; replace HC := Hid.out (p := Hid _) hg; clear hg)
      | (go_at_call 26; refine Calls.mono (gis HC.out _) ?_; rintro e w1 ⟨rfl, hg⟩; (first | rw [show isE (⟨#[45]⟩ : ByteArray).data.toList (.ok l) = true from H1.out.1] | rw [show isE (⟨#[33]⟩ : ByteArray).data.toList (.ok l) = false from H1.out.2]); replace HC := Hid.out (p := Hid _) hg; clear hg)
      | (go_at_call 53; refine Calls.mono (gopen (HC.out.box _) (Nat.le_refl _) hd _) ?_; rintro e w2 ⟨rfl, hg⟩; replace hg : GoS C w2 (d + 1) 4000 _ [] (openT C.E [45] d l) rows := hg; rw [HR.out.2] at hg; obtain ⟨i, d1, lv, a, hps, _, _⟩ := hg.ps9; have c5 := hps.c5; have HG := Hid.out (p := Hid _) hg; clear hg hps; replace c5 : w2.cell? ⟨C.P, 5, none⟩ = some (.int .i64 6) := c5))
    go_ret
    refine ⟨_, rfl, ?_⟩
    rw [HR.out.1]
    exact ((HG.out.drop.more (by have := HU.out; omega)).err _ _)
  · have ho : openT C.E [45] d l = .ok l.tail := by unfold openT takeT; rw [if_neg (fun h => h20 h.2), if_pos h1]
    rw [ho] at hR2
    have HR := Hid.out (p := Hid _) (And.intro hR2 ho)
    have hln : l.tail.length < l.length := is_len h1
    have HI := Hid.out (p := Hid _) (IH (by omega))
    have HSZ : Hid (∀ x q, unaryT C.E (d + 1) l.tail = .ok (x, q) → ndSize x + q.length ≤ l.tail.length) := fun x q hx => by
      obtain ⟨n, r, hr⟩ := un_tot (e := C.E) (d + 1) l.tail
      have h3 := tld_is (un_up l.tail) hr
      exact (expr_size n).2.2.1 _ _ _ _ (hr.trans (congrArg some (h3.symm.trans hx)))
    have HFW : Hid (∀ q, resE (unaryT C.E (d + 1) l.tail) = .ok q → (rowsE rows (unaryT C.E (d + 1) l.tail)).length + 1 + q.length ≤ C.T.length) := fun q hq => by
      have hz := HSZ.out
      cases hu : unaryT C.E (d + 1) l.tail with
      | error q2 => rw [hu] at hq; cases hq
      | ok y =>
        obtain ⟨x, q2⟩ := y
        rw [hu] at hq
        cases hq
        have := hz x q hu
        rw [rowsE, List.length_append, flat_len]
        omega
    clear hg h1 h2 hR hR2 ho IH
    go_enter Tryz.func92, Tryz.ntmps92
    go_wp2_with (first
      | (go_at_call 28; refine Calls.mono (gat HC.out) ?_; rintro e w1 ⟨rfl, hg⟩; replace HC := Hid.out (p := Hid _) hg; clear hg)
      | (go_at_call 26; refine Calls.mono (gis HC.out _) ?_; rintro e w1 ⟨rfl, hg⟩; (first | rw [show isE (⟨#[45]⟩ : ByteArray).data.toList (.ok l) = true from H1.out.1] | rw [show isE (⟨#[33]⟩ : ByteArray).data.toList (.ok l) = false from H1.out.2]); replace HC := Hid.out (p := Hid _) hg; clear hg)
      | (go_at_call 53; refine Calls.mono (gopen (HC.out.box _) (Nat.le_refl _) hd _) ?_; rintro e w2 ⟨rfl, hg⟩; replace hg : GoS C w2 (d + 1) 4000 _ [] (openT C.E [45] d l) rows := hg; rw [HR.out.2] at hg; obtain ⟨i, d1, lv, a, hps, _, _⟩ := hg.ps9; have c5 := hps.c5; have HG := Hid.out (p := Hid _) hg; clear hg hps; replace c5 : w2.cell? ⟨C.P, 5, none⟩ = some (.int .i64 0) := c5)
      | (go_at_call 92; refine Calls.mono (HI.out C _ _ _ _ _ rfl HG.out) ?_; rintro e w3 ⟨v, rfl, hq⟩; have hg := hq.go; obtain ⟨i3, d3, lv3, a3, hp3, _, _⟩ := hg.ps9; have k3 := hp3.c3; have kf := hp3.free; obtain ⟨hb3, hbP⟩ := hg.bxc; have hbP2 : ¬ C.P = _ := (fun e => hbP e.symm); obtain ⟨b0, b1, b2, b3, b4, bf⟩ := box5 hb3; have hbl := lt_of_cell b0; have hPl := hp3.lt; have HQ := Hid.out (p := Hid _) (And.intro hq (hg.deep hd hp3)); clear hq hg hp3 hb3))
    refine Calls.mono (gnode ((HQ.out.2.setb 4 _).kids [v] 1 rfl (Nat.le_refl _) #[.int .i64 v] rfl (by decide) w3.heap.size (by rw [set_size, set_size])) (by unfold ubD; omega) _ _ _ [] [v] _ _ _ (fun _ _ => Or.inl (List.mem_cons_self ..)) HFW.out) ?_
    rintro e w4 ⟨v4, rfl, hv4, hg4⟩
    go_wp2_with fail
    go_ret
    refine ⟨_, rfl, ?_⟩
    rw [HR.out.1]
    obtain ⟨hq, -⟩ := HQ.out
    have hsz := HSZ.out
    simp only [bindL]
    generalize unaryT C.E (d + 1) l.tail = U at hq hv4 hg4 hsz ⊢
    cases U with
    | error q => exact ((hg4.drop.more (M' := ubD d) (by unfold ubD; omega)).err _ _)
    | ok y =>
      obtain ⟨x, q⟩ := y
      have hv := hq.val
      have h5 := hv4 q rfl
      subst hv
      refine ⟨?_, ?_⟩
      · rw [h5, size_one, rowsE, List.length_append, flat_len]
        omega
      · have h6 := hg4.drop.any (ubD d)
        have h7 : rows ++ flat rows.length (.mk 17 0 (posOf C.E l) [] [x]) = rowsE rows (.ok (x, q)) ++ [⟨17, 0, posOf C.E l, [], [((rows.length + ndSize x : Nat) : Int) - 1]⟩] := by
          simp [rowsE, flat, flats, idxs]
        rw [h7]
        exact h6
set_option maxRecDepth 100000 in
set_option maxHeartbeats 1600000 in
theorem runary_not (hd : d ≤ 20) (h1 : isTok [33] l = true) (IH : d + 1 ≤ 20 → Ctr 92 [] E (d + 1) l.tail (unaryT E (d + 1) l.tail) (ubD (d + 1))) : Ctr 92 [] E d l (unaryT E d l) (ubD d) := by
  refine ctr_of fun C w rows hE hw hg => ?_
  subst hE
  have hfw := (hg 4000).fewR
  have hT := (hg 4000).few
  have HC := Hid.out (p := Hid _) (hg 4000)
  have h2 : isTok [45] l = false := is_alone h1 (by decide)
  have H1 : Hid (isTok [33] l = true ∧ isTok [45] l = false) := ⟨h1, h2⟩
  obtain ⟨R, hR⟩ : ∃ R, R = unaryT C.E d l := ⟨_, rfl⟩
  have hR2 := hR
  rw [unaryT_is, if_neg (by rw [h2]; decide), if_pos h1] at hR2
  rw [← hR]
  have HU : Hid (4001 ≤ ubD d ∧ ubD d ≤ 5000) := by show _ ∧ _; unfold ubD; omega
  by_cases h20 : d = 20
  · have ho : openT C.E [33] d l = .error (6, posOf C.E l) := by unfold openT; rw [if_pos ⟨h1, h20⟩]
    rw [ho] at hR2
    have HR := Hid.out (p := Hid _) (And.intro hR2 ho)
    clear hg h1 h2 hR hR2 ho IH
    go_enter Tryz.func92, Tryz.ntmps92
    go_wp2_with (first
      | (go_at_call 28; refine Calls.mono (gat HC.out) ?_; rintro e w1 ⟨rfl, hg⟩; replace HC := Hid.out (p := Hid _) hg; clear hg)
      | (go_at_call 26; refine Calls.mono (gis HC.out _) ?_; rintro e w1 ⟨rfl, hg⟩; (first | rw [show isE (⟨#[33]⟩ : ByteArray).data.toList (.ok l) = true from H1.out.1] | rw [show isE (⟨#[45]⟩ : ByteArray).data.toList (.ok l) = false from H1.out.2]); replace HC := Hid.out (p := Hid _) hg; clear hg)
      | (go_at_call 53; refine Calls.mono (gopen (HC.out.box _) (Nat.le_refl _) hd _) ?_; rintro e w2 ⟨rfl, hg⟩; replace hg : GoS C w2 (d + 1) 4000 _ [] (openT C.E [33] d l) rows := hg; rw [HR.out.2] at hg; obtain ⟨i, d1, lv, a, hps, _, _⟩ := hg.ps9; have c5 := hps.c5; have HG := Hid.out (p := Hid _) hg; clear hg hps; replace c5 : w2.cell? ⟨C.P, 5, none⟩ = some (.int .i64 6) := c5))
    go_ret
    refine ⟨_, rfl, ?_⟩
    rw [HR.out.1]
    exact ((HG.out.drop.more (by have := HU.out; omega)).err _ _)
  · have ho : openT C.E [33] d l = .ok l.tail := by unfold openT takeT; rw [if_neg (fun h => h20 h.2), if_pos h1]
    rw [ho] at hR2
    have HR := Hid.out (p := Hid _) (And.intro hR2 ho)
    have hln : l.tail.length < l.length := is_len h1
    have HI := Hid.out (p := Hid _) (IH (by omega))
    have HSZ : Hid (∀ x q, unaryT C.E (d + 1) l.tail = .ok (x, q) → ndSize x + q.length ≤ l.tail.length) := fun x q hx => by
      obtain ⟨n, r, hr⟩ := un_tot (e := C.E) (d + 1) l.tail
      have h3 := tld_is (un_up l.tail) hr
      exact (expr_size n).2.2.1 _ _ _ _ (hr.trans (congrArg some (h3.symm.trans hx)))
    have HFW : Hid (∀ q, resE (unaryT C.E (d + 1) l.tail) = .ok q → (rowsE rows (unaryT C.E (d + 1) l.tail)).length + 1 + q.length ≤ C.T.length) := fun q hq => by
      have hz := HSZ.out
      cases hu : unaryT C.E (d + 1) l.tail with
      | error q2 => rw [hu] at hq; cases hq
      | ok y =>
        obtain ⟨x, q2⟩ := y
        rw [hu] at hq
        cases hq
        have := hz x q hu
        rw [rowsE, List.length_append, flat_len]
        omega
    clear hg h1 h2 hR hR2 ho IH
    go_enter Tryz.func92, Tryz.ntmps92
    go_wp2_with (first
      | (go_at_call 28; refine Calls.mono (gat HC.out) ?_; rintro e w1 ⟨rfl, hg⟩; replace HC := Hid.out (p := Hid _) hg; clear hg)
      | (go_at_call 26; refine Calls.mono (gis HC.out _) ?_; rintro e w1 ⟨rfl, hg⟩; (first | rw [show isE (⟨#[33]⟩ : ByteArray).data.toList (.ok l) = true from H1.out.1] | rw [show isE (⟨#[45]⟩ : ByteArray).data.toList (.ok l) = false from H1.out.2]); replace HC := Hid.out (p := Hid _) hg; clear hg)
      | (go_at_call 53; refine Calls.mono (gopen (HC.out.box _) (Nat.le_refl _) hd _) ?_; rintro e w2 ⟨rfl, hg⟩; replace hg : GoS C w2 (d + 1) 4000 _ [] (openT C.E [33] d l) rows := hg; rw [HR.out.2] at hg; obtain ⟨i, d1, lv, a, hps, _, _⟩ := hg.ps9; have c5 := hps.c5; have HG := Hid.out (p := Hid _) hg; clear hg hps; replace c5 : w2.cell? ⟨C.P, 5, none⟩ = some (.int .i64 0) := c5)
      | (go_at_call 92; refine Calls.mono (HI.out C _ _ _ _ _ rfl HG.out) ?_; rintro e w3 ⟨v, rfl, hq⟩; have hg := hq.go; obtain ⟨i3, d3, lv3, a3, hp3, _, _⟩ := hg.ps9; have k3 := hp3.c3; have kf := hp3.free; obtain ⟨hb3, hbP⟩ := hg.bxc; have hbP2 : ¬ C.P = _ := (fun e => hbP e.symm); obtain ⟨b0, b1, b2, b3, b4, bf⟩ := box5 hb3; have hbl := lt_of_cell b0; have hPl := hp3.lt; have HQ := Hid.out (p := Hid _) (And.intro hq (hg.deep hd hp3)); clear hq hg hp3 hb3))
    refine Calls.mono (gnode ((HQ.out.2.setb 4 _).kids [v] 1 rfl (Nat.le_refl _) #[.int .i64 v] rfl (by decide) w3.heap.size (by rw [set_size, set_size])) (by unfold ubD; omega) _ _ _ [] [v] _ _ _ (fun _ _ => Or.inl (List.mem_cons_self ..)) HFW.out) ?_
    rintro e w4 ⟨v4, rfl, hv4, hg4⟩
    go_wp2_with fail
    go_ret
    refine ⟨_, rfl, ?_⟩
    rw [HR.out.1]
    obtain ⟨hq, -⟩ := HQ.out
    have hsz := HSZ.out
    simp only [bindL]
    generalize unaryT C.E (d + 1) l.tail = U at hq hv4 hg4 hsz ⊢
    cases U with
    | error q => exact ((hg4.drop.more (M' := ubD d) (by unfold ubD; omega)).err _ _)
    | ok y =>
      obtain ⟨x, q⟩ := y
      have hv := hq.val
      have h5 := hv4 q rfl
      subst hv
      refine ⟨?_, ?_⟩
      · rw [h5, size_one, rowsE, List.length_append, flat_len]
        omega
      · have h6 := hg4.drop.any (ubD d)
        have h7 : rows ++ flat rows.length (.mk 18 0 (posOf C.E l) [] [x]) = rowsE rows (.ok (x, q)) ++ [⟨18, 0, posOf C.E l, [], [((rows.length + ndSize x : Nat) : Int) - 1]⟩] := by
          simp [rowsE, flat, flats, idxs]
        rw [h7]
        exact h6
theorem runary_held (h3 : isTok [40] l = true) (H : Ctr 74 [] E d l (heldT E d l) (ubD d)) : Ctr 92 [] E d l (heldT E d l) (ubD d) := by
  refine ctr_of fun C w rows hE hw hg => ?_
  subst hE
  have HC := Hid.out (p := Hid _) (hg 4000)
  have H1 : Hid (isTok [45] l = false ∧ isTok [33] l = false ∧ isTok [40] l = true) := ⟨is_alone h3 (by decide), is_alone h3 (by decide), h3⟩
  have HH := Hid.out (p := Hid _) H
  clear hg h3 H
  go_enter Tryz.func92, Tryz.ntmps92
  go_wp2_with (first
    | (go_at_call 28; refine Calls.mono (gat HC.out) ?_; rintro e w1 ⟨rfl, hg⟩; replace HC := Hid.out (p := Hid _) hg; clear hg)
    | (go_at_call 26; refine Calls.mono (gis HC.out _) ?_; rintro e w1 ⟨rfl, hg⟩; (first | rw [show isE (⟨#[45]⟩ : ByteArray).data.toList (.ok l) = false from H1.out.1] | rw [show isE (⟨#[33]⟩ : ByteArray).data.toList (.ok l) = false from H1.out.2.1] | rw [show isE (⟨#[40]⟩ : ByteArray).data.toList (.ok l) = true from H1.out.2.2]); replace HC := Hid.out (p := Hid _) hg; clear hg)
    | (go_at_call 74; refine Calls.mono (HH.out C _ _ _ _ _ rfl HC.out) ?_; rintro e w3 ⟨v, rfl, hq⟩))
  go_ret
  exact ⟨_, rfl, hq⟩
end
end

end Go.Proofs.YtggfbfjdiikaeaaGreatDoor
