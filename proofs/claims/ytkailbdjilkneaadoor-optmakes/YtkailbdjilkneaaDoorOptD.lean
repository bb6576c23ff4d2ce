/-
  What comes to an order that can follow, by the document.
-/
import Derived.Test.YtkailbdjilkneaaDoorOptA
import Derived.Deep.RegionHeld3
namespace Go.Proofs.YtkailbdjilkneaaDoor
open Go.RowKit

theorem drewO (w : World) (o : Obj) : (w.alloc o).drew.heap[w.heap.size]? = some o := heap_alloc_new w o
theorem below_o {w w' : World} {o : Obj} (h : Below (w.alloc o).drew.heap.size (w.alloc o).drew w') : Below w.heap.size w w' := ((Below.refl _ _).alloc (Nat.le_refl _) _).drew.trans (h.mono (by have : (w.alloc o).drew.heap.size = w.heap.size + 1 := World.size_alloc _ _; omega))
theorem below_d {w w' : World} (h : Below w.drew.heap.size w.drew w') : Below w.heap.size w w' := (Below.refl _ _).drew.trans h
theorem cell_farO {w : World} {b o b' o' : Nat} {u v : Value} (h : w.cell? ⟨b, o, none⟩ = some v) (hne : b ≠ b') : (w.setCell ⟨b', o', none⟩ u).cell? ⟨b, o, none⟩ = some v := by
  rw [World.cell?_of_block (w := w) (Below.heap_setCell _ _ _ _ (fun x => hne (by simpa using x)))]
  exact h
theorem ledR_step (E : Nat → Nat → Vl) (j : Nat) (e : Nat → Vl) (r : Nat) : updE (ledE r E j e) j r ((E j r).meet (e r)) = ledE (r + 1) E j e := by
  funext i q
  unfold updE ledE
  by_cases h : i = j ∧ q = r
  · rw [if_pos h, h.2, if_pos ⟨h.1, by omega⟩]
  · rw [if_neg h]
    by_cases h2 : i = j ∧ q < r
    · rw [if_pos h2, if_pos ⟨h2.1, by omega⟩]
    · rw [if_neg h2, if_neg (fun e => h ⟨e.1, by
        have := e.2
        by_cases hq : q < r
        · exact absurd ⟨e.1, hq⟩ h2
        · omega⟩)]
theorem ledE_zero (E : Nat → Nat → Vl) (j : Nat) (e : Nat → Vl) : ledE 0 E j e = E := by
  funext i q
  unfold ledE
  rw [if_neg (fun h => absurd h.2 (Nat.not_lt_zero q))]
theorem ledE_at (E : Nat → Nat → Vl) (j : Nat) (e : Nat → Vl) (r : Nat) : ledE r E j e j r = E j r := by
  unfold ledE
  rw [if_neg (fun h => Nat.lt_irrefl r h.2)]
theorem meet_st {a b : Vl} (h : a.meet b ≠ a) : (((a.meet b).st : Int) == (a.st : Int)) = false := by
  have : (a.meet b).st ≠ a.st := by
    cases a with
    | no =>
      cases b with
      | no => exact absurd rfl h
      | num n => exact fun e => by cases e
      | any => exact fun e => by cases e
    | num m =>
      cases b with
      | no => exact absurd rfl h
      | num n =>
        by_cases e : m = n
        · exact absurd (by simp [Vl.meet, e]) h
        · simp [Vl.meet, e, Vl.st]
      | any => exact fun e => by cases e
    | any => exact absurd (by cases b <;> rfl) h
  have h2 : ((a.meet b).st : Int) ≠ (a.st : Int) := by omega
  simpa using h2
/-- What is known while the values of order j are being met: the Look, the row that comes, the box of the one that is met. -/
structure LeI (w W : World) (lb gg ga ac l rg : Nat) (GA : Nat → Nat) (G : Nat → Bool) (E : Nat → Nat → Vl) (a' : Bool) (eb : Nat) (e : Nat → Vl) (qb : Nat) (c : Vl) : Prop where
  lk : LkV w W lb gg ga ac l rg GA G E a'
  vr : VR W eb e rg
  bx : W.heap[qb]? = some (.cells #[.int .i64 (c.st : Int), .int .i64 c.nb] 78)
theorem intJ {j l : Nat} (h : j < l + 1) : (j : Int) < (l : Int) + 1 := by omega
set_option maxRecDepth 100000 in
set_option maxHeartbeats 1600000 in
theorem rlead_any (w W : World) (lb gg ga ac l rg : Nat) (GA : Nat → Nat) (G : Nat → Bool) (E : Nat → Nat → Vl) (ag : Bool) (eb ec j : Nat) (e : Nat → Vl) (h : LkV w W lb gg ga ac l rg GA G E ag) (hj : j ≤ l) (hrg : rg ≤ 200) (he : VR W eb e rg) (hne : ∀ i, i ≤ l → GA i ≠ eb) (hlo : eb ≠ lb) (hgg : eb ≠ gg) :
    Calls Tryd.prog 72 #[.pointer (some ⟨lb, 0, none⟩), .int .i64 j, .slice (some ⟨eb, 0, none⟩) rg ec] W fun r w' => ∃ ag', r = .returned (.tuple #[]) ∧ LkV w w' lb gg ga ac l rg GA (ledG G j) (ledE rg E j e) ag' ∧ VR w' eb e rg ∧ KpV W w' lb gg (GA j) ∧
      (ag' = false → ag = false ∧ G j = true ∧ ∀ r, r < rg → (E j r).meet (e r) = E j r) ∧ (ag' = true → ag = true ∨ G j = false ∨ ∃ r, r < rg ∧ (E j r).meet (e r) ≠ E j r) := by
  have HME : Hid (∀ (V : World) (a b : Vl), Calls Tryd.prog 110 #[.agg #[.int .i64 (a.st : Int), .int .i64 a.nb], .agg #[.int .i64 (b.st : Int), .int .i64 b.nb]] V fun e w' => ∃ c : Vl, e = .returned (.agg #[.int .i64 (c.st : Int), .int .i64 c.nb]) ∧ Hid (c = a.meet b) ∧ Below V.heap.size V w') := fun V a b => (rmeet_any V a b).mono fun e w' ⟨h1, h2⟩ => ⟨_, h1, rfl, h2⟩
  have H0 := Hid.out (p := Hid _) (And.intro h he)
  have HNE := Hid.out (p := Hid _) (And.intro hne (And.intro hlo hgg))
  have hjl : j < l + 1 := by omega
  have c0 := box_cell (i := 0) h.box rfl
  have c2 := box_cell (i := 2) h.box rfl
  have f2 := box_free (i := 2) h.box
  have g0 := (h.go hj).1
  have gf := (h.go hj).2 j
  have hln : lb ≠ gg := h.nes.1
  have hln2 : gg ≠ lb := fun e => hln e.symm
  obtain ⟨gj, hgj⟩ : ∃ b, G j = b := ⟨_, rfl⟩
  have HGJ := Hid.out (p := Hid _) hgj
  rw [hgj] at g0
  clear h he hne hlo hgg hgj
  go_enter Tryd.func72, Tryd.ntmps72
  cases gj with
  | true =>
    go_wp2_with fail
    go_loopw [6] (fun x wr => ∃ (r : Nat) (a' : Bool), r ≤ rg ∧ x = .int .i64 r ∧ Hid (LkV w wr lb gg ga ac l rg GA (ledG G j) (ledE r E j e) a' ∧ VR wr eb e rg ∧ KpV W wr lb gg (GA j) ∧ (a' = false → ag = false ∧ G j = true ∧ ∀ q, q < r → (E j q).meet (e q) = E j q) ∧ (a' = true → ag = true ∨ G j = false ∨ ∃ q, q < r ∧ (E j q).meet (e q) ≠ E j q))) (fun x _ => rg - (intOf x).toNat)
    case atStart =>
      refine ⟨0, ag, Nat.zero_le _, rfl, ?_⟩
      show _ ∧ _ ∧ _ ∧ _
      have e1 : ledG G j = G := by
        funext i
        unfold ledG
        split
        · rename_i h; rw [h, HGJ.out]
        · rfl
      rw [e1, ledE_zero]
      exact ⟨H0.out.1, H0.out.2, KpV.refl _ _ _ _, fun h => ⟨h, HGJ.out, fun q hq => absurd hq (Nat.not_lt_zero _)⟩, fun h => Or.inl h⟩
    case round =>
      obtain ⟨r, a', hr, rfl, HI⟩ := hrel
      clear H0 c0 c2 f2 g0 gf
      by_cases hlt : r < rg
      · have hlt' : (r : Int) < (rg : Int) := by omega
        have c1 : wr.cell? ⟨lb, 1, none⟩ = some (.slice (some ⟨ga, 0, none⟩) (l + 1) ac) := box_cell (i := 1) HI.out.1.box rfl
        have a0 := HI.out.1.at hj
        have v0 := (HI.out.1.row j hj).st hlt
        have v1 := (HI.out.1.row j hj).nb hlt
        have x0 := HI.out.2.1.st hlt
        have x1 := HI.out.2.1.nb hlt
        rw [ledE_at] at v0 v1
        obtain ⟨x, hx⟩ : ∃ x, E j r = x := ⟨_, rfl⟩
        obtain ⟨y, hy⟩ : ∃ y, e r = y := ⟨_, rfl⟩
        obtain ⟨gj, hgj⟩ : ∃ y, GA j = y := ⟨_, rfl⟩
        rw [hx, hgj] at v0 v1
        rw [hgj] at a0
        rw [hy] at x0 x1
        have HXY := Hid.out (p := Hid _) (And.intro hx (And.intro hy hgj))
        have hjI : (j : Int) < (l : Int) + 1 := intJ hjl
        have HS : Hid (∀ V, Below wr.heap.size wr V → V.cell? ⟨lb, 1, none⟩ = some (.slice (some ⟨ga, 0, none⟩) (l + 1) ac) ∧ V.cell? ⟨ga, j, none⟩ = some (.slice (some ⟨gj, 0, none⟩) rg rg) ∧ V.cell? ⟨gj, r * 2, none⟩ = some (.int .i64 (x.st : Int)) ∧ V.cell? ⟨gj, r * 2 + 1, none⟩ = some (.int .i64 x.nb) ∧ V.cell? ⟨eb, r * 2, none⟩ = some (.int .i64 (y.st : Int)) ∧ V.cell? ⟨eb, r * 2 + 1, none⟩ = some (.int .i64 y.nb)) := fun V hV =>
          ⟨(hV.cell (lt_of_cell c1)).trans c1, (hV.cell (lt_of_cell a0)).trans a0, (hV.cell (lt_of_cell v0)).trans v0, (hV.cell (lt_of_cell v1)).trans v1, (hV.cell (lt_of_cell x0)).trans x0, (hV.cell (lt_of_cell x1)).trans x1⟩
        have HC1 : Hid (Calls Tryd.prog 110 #[.agg #[.int .i64 (x.st : Int), .int .i64 x.nb], .agg #[.int .i64 (y.st : Int), .int .i64 y.nb]] wr.drew fun e w' => ∃ c : Vl, e = .returned (.agg #[.int .i64 (c.st : Int), .int .i64 c.nb]) ∧ Hid (c = x.meet y ∧ Below wr.heap.size wr w') ∧ w'.cell? ⟨lb, 1, none⟩ = some (.slice (some ⟨ga, 0, none⟩) (l + 1) ac) ∧ w'.cell? ⟨ga, j, none⟩ = some (.slice (some ⟨gj, 0, none⟩) rg rg) ∧ w'.cell? ⟨gj, r * 2, none⟩ = some (.int .i64 (x.st : Int)) ∧ w'.cell? ⟨gj, r * 2 + 1, none⟩ = some (.int .i64 x.nb) ∧ w'.cell? ⟨eb, r * 2, none⟩ = some (.int .i64 (y.st : Int)) ∧ w'.cell? ⟨eb, r * 2 + 1, none⟩ = some (.int .i64 y.nb)) := by
          refine Calls.mono (HME.out _ _ _) ?_
          rintro e2 w5 ⟨c, h1, h2, h3⟩
          have hb := below_d h3
          exact ⟨c, h1, ⟨h2.out, hb⟩, HS.out _ hb⟩
        have HC2 : Hid (Calls Tryd.prog 110 #[.agg #[.int .i64 (x.st : Int), .int .i64 x.nb], .agg #[.int .i64 (y.st : Int), .int .i64 y.nb]] (wr.alloc (.cells #[.int .i64 0, .int .i64 0] 78)).drew fun e w' => ∃ c : Vl, e = .returned (.agg #[.int .i64 (c.st : Int), .int .i64 c.nb]) ∧ Hid (c = x.meet y ∧ Below wr.heap.size wr w' ∧ w'.heap[wr.heap.size]? = some (.cells #[.int .i64 0, .int .i64 0] 78)) ∧ (w'.cell? ⟨lb, 1, none⟩ = some (.slice (some ⟨ga, 0, none⟩) (l + 1) ac) ∧ w'.cell? ⟨ga, j, none⟩ = some (.slice (some ⟨gj, 0, none⟩) rg rg) ∧ w'.cell? ⟨gj, r * 2, none⟩ = some (.int .i64 (x.st : Int)) ∧ w'.cell? ⟨gj, r * 2 + 1, none⟩ = some (.int .i64 x.nb) ∧ w'.cell? ⟨eb, r * 2, none⟩ = some (.int .i64 (y.st : Int)) ∧ w'.cell? ⟨eb, r * 2 + 1, none⟩ = some (.int .i64 y.nb)) ∧ (w'.cell? ⟨wr.heap.size, 0, none⟩ = some (.int .i64 0) ∧ w'.cell? ⟨wr.heap.size, 1, none⟩ = some (.int .i64 0)) ∧ (∀ i, w'.frozen? ⟨wr.heap.size, i, none⟩ = false) ∧ lb ≠ wr.heap.size ∧ ga ≠ wr.heap.size ∧ gj ≠ wr.heap.size ∧ eb ≠ wr.heap.size) := by
          refine Calls.mono (HME.out _ _ _) ?_
          rintro e2 w5 ⟨c, h1, h2, h3⟩
          have hb := below_o h3
          have hbx := (h3.block wr.heap.size (box_lt (drewO wr _))).trans (drewO wr _)
          have l1 := lt_of_cell c1
          have l2 := lt_of_cell a0
          have l3 := lt_of_cell v0
          have l4 := lt_of_cell x0
          simp only at l1 l2 l3 l4
          exact ⟨c, h1, ⟨h2.out, hb, hbx⟩, HS.out _ hb, ⟨box_cell hbx rfl, box_cell hbx rfl⟩, fun i => box_free hbx, by omega, by omega, by omega, by omega⟩
        clear hx hy hgj HS
        go_wp2_with fail
        go_region_held3 (fun w' => w'.cell? ⟨lb, 1, none⟩ = some (.slice (some ⟨ga, 0, none⟩) (l + 1) ac) ∧ w'.cell? ⟨ga, j, none⟩ = some (.slice (some ⟨gj, 0, none⟩) rg rg) ∧ w'.cell? ⟨gj, r * 2, none⟩ = some (.int .i64 (x.st : Int)) ∧ w'.cell? ⟨gj, r * 2 + 1, none⟩ = some (.int .i64 x.nb) ∧ w'.cell? ⟨eb, r * 2, none⟩ = some (.int .i64 (y.st : Int)) ∧ w'.cell? ⟨eb, r * 2 + 1, none⟩ = some (.int .i64 y.nb)) (refine ⟨?_, ?_, ?_, ?_, ?_, ?_⟩ <;> (repeat (first | (with_reducible assumption) | (with_reducible refine cell_drw ?_) | (with_reducible refine cell_up ?_ _) | (with_reducible refine cell_farO ?_ (by assumption))))) ((go_at_call 110; first | (with_reducible refine Calls.mono HC1.out ?_; rintro e w1 ⟨c, rfl, H1, j0, j1, j2, j3, j4, j5⟩) | (with_reducible refine Calls.mono HC2.out ?_; rintro e w1 ⟨c, rfl, H1, ⟨j0, j1, j2, j3, j4, j5⟩, ⟨q0, q1⟩, qf, n0, n1, n2, n3⟩)))
        · have HL : Hid (LeI w (w1.alloc (.cells #[.int .i64 (c.st : Int), .int .i64 c.nb] 78)) lb gg ga ac l rg GA (ledG G j) (ledE r E j e) a' eb e w1.heap.size c ∧ c = x.meet y ∧ KpV W (w1.alloc (.cells #[.int .i64 (c.st : Int), .int .i64 c.nb] 78)) lb gg (GA j)) := ⟨⟨HI.out.1.below ((H1.out.2.alloc H1.out.2.size _)), HI.out.2.1.below (H1.out.2.alloc H1.out.2.size _), heap_alloc_new _ _⟩, H1.out.1, HI.out.2.2.1.below (H1.out.2.alloc H1.out.2.size _)⟩
          obtain ⟨qb, hqb⟩ : ∃ q, w1.heap.size = q := ⟨_, rfl⟩
          obtain ⟨W2, hW2⟩ : ∃ V, w1.alloc (.cells #[.int .i64 (c.st : Int), .int .i64 c.nb] 78) = V := ⟨_, rfl⟩
          rw [hqb, hW2] at HL ⊢
          clear hqb hW2 H1 HC1 HC2 j0 j1 j2 j3 j4 j5 c1 a0 v0 v1 x0 x1
          have c1 : W2.cell? ⟨lb, 1, none⟩ = some (.slice (some ⟨ga, 0, none⟩) (l + 1) ac) := box_cell (i := 1) HL.out.1.lk.box rfl
          have c2 : W2.cell? ⟨lb, 2, none⟩ = some (.bool a') := box_cell (i := 2) HL.out.1.lk.box rfl
          have f2 : W2.frozen? ⟨lb, 2, none⟩ = false := box_free HL.out.1.lk.box
          have a0 := HL.out.1.lk.at hj
          have v0 := (HL.out.1.lk.row j hj).st hlt
          have v1 := (HL.out.1.lk.row j hj).nb hlt
          have vf := (HL.out.1.lk.row j hj).free
          rw [ledE_at, HXY.out.1, HXY.out.2.2] at v0 v1
          rw [HXY.out.2.2] at a0 vf
          have k0 : W2.cell? ⟨qb, 0, none⟩ = some (.int .i64 (c.st : Int)) := box_cell (i := 0) HL.out.1.bx rfl
          have k1 : W2.cell? ⟨qb, 1, none⟩ = some (.int .i64 c.nb) := box_cell (i := 1) HL.out.1.bx rfl
          by_cases hcx : c = x
          · subst hcx
            go_wp2_with fail
            go_quiet (fail)
            go_wp2_with fail
            go_roundw
            case rel =>
              refine ⟨r + 1, a', by omega, by go_num, ?_⟩
              have hm : (E j r).meet (e r) = E j r := by rw [HXY.out.1, HXY.out.2.1]; exact HL.out.2.1.symm
              have h2 := HI.out.2.2.2
              refine ⟨?_, HL.out.1.vr.below (below_drewN (Below.refl _ _)), HL.out.2.2.below (below_drewN (Below.refl _ _)), fun h => ⟨(h2.1 h).1, (h2.1 h).2.1, fun q hq => ?_⟩, fun h => ?_⟩
              · rw [← ledR_step, hm]
                rw [updE_self (by rw [ledE_at])]
                exact HL.out.1.lk.below (below_drewN (Below.refl _ _))
              · by_cases eq : q = r
                · rw [eq]; exact hm
                · exact (h2.1 h).2.2 q (by omega)
              · rcases h2.2 h with h3 | h3 | ⟨q, h3, h4⟩
                · exact Or.inl h3
                · exact Or.inr (Or.inl h3)
                · exact Or.inr (Or.inr ⟨q, by omega, h4⟩)
            case measure => simp [intOf]; omega
          · have hst : ((c.st : Int) == (x.st : Int)) = false := by rw [HL.out.2.1]; exact meet_st (by rw [← HL.out.2.1]; exact hcx)
            have HCX := Hid.out (p := Hid _) hcx
            obtain ⟨cs, hcs⟩ : ∃ z : Int, (c.st : Int) = z := ⟨_, rfl⟩
            obtain ⟨xs, hxs⟩ : ∃ z : Int, (x.st : Int) = z := ⟨_, rfl⟩
            rw [hcs] at k0 hst
            rw [hxs] at v0 hst
            have hst2 : (cs != xs) = true := by simpa using hst
            have hgl : gj ≠ lb := by rw [← HXY.out.2.2]; exact (HL.out.1.lk.nes.2.2.2 j hj).1
            have hlg : lb ≠ gj := fun e => hgl e.symm
            have HCS := Hid.out (p := Hid _) hcs
            clear hcx hcs hxs
            go_wp2_with fail
            go_quiet (fail)
            go_wp2_with fail
            refine region_tail 10 (by kernel_rfl) (by kernel_rfl) ?_
            simp only [List.take_succ_cons, List.take_zero, List.drop_succ_cons, List.drop_zero]
            repeat still_step
            refine wpStill_nil ?_
            go_wp2_with fail
            go_roundw
            case rel =>
              refine ⟨r + 1, true, by omega, by go_num, ?_⟩
              have h2 := HI.out.2.2.2
              have hnj : GA j ≠ eb := HNE.out.1 j hj
              have hm : (E j r).meet (e r) = c := by rw [HXY.out.1, HXY.out.2.1]; exact HL.out.2.1.symm
              have hK := ((HL.out.1.lk.below (below_drewN (k := nq + 1) (Below.refl _ _))).setV hj hlt c).setA true
              have hV := (((HL.out.1.vr.below (below_drewN (k := nq + 1) (Below.refl _ _))).far (b := GA j) (i := r * 2) (fun e => hnj e.symm) (.int .i64 (c.st : Int))).far (b := GA j) (i := r * 2 + 1) (fun e => hnj e.symm) (.int .i64 c.nb)).far (b := lb) (i := 2) HNE.out.2.1 (.bool true)
              have hP := (((HL.out.2.2.below (below_drewN (k := nq + 1) (Below.refl _ _))).put (q := GA j) (i := r * 2) (Or.inr (Or.inr rfl)) (.int .i64 (c.st : Int))).put (q := GA j) (i := r * 2 + 1) (Or.inr (Or.inr rfl)) (.int .i64 c.nb)).put (q := lb) (i := 2) (Or.inl rfl) (.bool true)
              rw [HXY.out.2.2, HCS.out] at hK hV hP
              have hu : updE (ledE r E j e) j r c = ledE (r + 1) E j e := by rw [← ledR_step, hm]
              rw [hu] at hK
              refine ⟨hK, hV, ?_, fun h => (by cases h), fun _ => Or.inr (Or.inr ⟨r, by omega, ?_⟩)⟩
              · rw [HXY.out.2.2]
                exact hP
              · rw [hm, HXY.out.1]
                exact HCX.out
            case measure => simp [intOf]; omega
        · have HL : Hid (LeI w ((w1.setCell ⟨wr.heap.size, 0, none⟩ (.int .i64 (c.st : Int))).setCell ⟨wr.heap.size, 1, none⟩ (.int .i64 c.nb)) lb gg ga ac l rg GA (ledG G j) (ledE r E j e) a' eb e wr.heap.size c ∧ c = x.meet y ∧ KpV W ((w1.setCell ⟨wr.heap.size, 0, none⟩ (.int .i64 (c.st : Int))).setCell ⟨wr.heap.size, 1, none⟩ (.int .i64 c.nb)) lb gg (GA j)) := by
            have hb := (H1.out.2.1.setCell (p := ⟨wr.heap.size, 0, none⟩) (Nat.le_refl _) (.int .i64 (c.st : Int))).setCell (p := ⟨wr.heap.size, 1, none⟩) (Nat.le_refl _) (.int .i64 c.nb)
            exact ⟨⟨HI.out.1.below hb, HI.out.2.1.below hb, heap_set_same (heap_set_same H1.out.2.2)⟩, H1.out.1, HI.out.2.2.1.below hb⟩
          obtain ⟨qb, hqb⟩ : ∃ q, wr.heap.size = q := ⟨_, rfl⟩
          obtain ⟨W2, hW2⟩ : ∃ V, (w1.setCell ⟨wr.heap.size, 0, none⟩ (.int .i64 (c.st : Int))).setCell ⟨wr.heap.size, 1, none⟩ (.int .i64 c.nb) = V := ⟨_, rfl⟩
          rw [hW2, hqb] at HL ⊢
          clear hqb hW2 H1 HC1 HC2 j0 j1 j2 j3 j4 j5 q0 q1 qf n0 n1 n2 n3 c1 a0 v0 v1 x0 x1
          have c1 : W2.cell? ⟨lb, 1, none⟩ = some (.slice (some ⟨ga, 0, none⟩) (l + 1) ac) := box_cell (i := 1) HL.out.1.lk.box rfl
          have c2 : W2.cell? ⟨lb, 2, none⟩ = some (.bool a') := box_cell (i := 2) HL.out.1.lk.box rfl
          have f2 : W2.frozen? ⟨lb, 2, none⟩ = false := box_free HL.out.1.lk.box
          have a0 := HL.out.1.lk.at hj
          have v0 := (HL.out.1.lk.row j hj).st hlt
          have v1 := (HL.out.1.lk.row j hj).nb hlt
          have vf := (HL.out.1.lk.row j hj).free
          rw [ledE_at, HXY.out.1, HXY.out.2.2] at v0 v1
          rw [HXY.out.2.2] at a0 vf
          have k0 : W2.cell? ⟨qb, 0, none⟩ = some (.int .i64 (c.st : Int)) := box_cell (i := 0) HL.out.1.bx rfl
          have k1 : W2.cell? ⟨qb, 1, none⟩ = some (.int .i64 c.nb) := box_cell (i := 1) HL.out.1.bx rfl
          by_cases hcx : c = x
          · subst hcx
            go_wp2_with fail
            go_quiet (fail)
            go_wp2_with fail
            go_roundw
            case rel =>
              refine ⟨r + 1, a', by omega, by go_num, ?_⟩
              have hm : (E j r).meet (e r) = E j r := by rw [HXY.out.1, HXY.out.2.1]; exact HL.out.2.1.symm
              have h2 := HI.out.2.2.2
              refine ⟨?_, HL.out.1.vr.below (below_drewN (Below.refl _ _)), HL.out.2.2.below (below_drewN (Below.refl _ _)), fun h => ⟨(h2.1 h).1, (h2.1 h).2.1, fun q hq => ?_⟩, fun h => ?_⟩
              · rw [← ledR_step, hm]
                rw [updE_self (by rw [ledE_at])]
                exact HL.out.1.lk.below (below_drewN (Below.refl _ _))
              · by_cases eq : q = r
                · rw [eq]; exact hm
                · exact (h2.1 h).2.2 q (by omega)
              · rcases h2.2 h with h3 | h3 | ⟨q, h3, h4⟩
                · exact Or.inl h3
                · exact Or.inr (Or.inl h3)
                · exact Or.inr (Or.inr ⟨q, by omega, h4⟩)
            case measure => simp [intOf]; omega
          · have hst : ((c.st : Int) == (x.st : Int)) = false := by rw [HL.out.2.1]; exact meet_st (by rw [← HL.out.2.1]; exact hcx)
            have HCX := Hid.out (p := Hid _) hcx
            obtain ⟨cs, hcs⟩ : ∃ z : Int, (c.st : Int) = z := ⟨_, rfl⟩
            obtain ⟨xs, hxs⟩ : ∃ z : Int, (x.st : Int) = z := ⟨_, rfl⟩
            rw [hcs] at k0 hst
            rw [hxs] at v0 hst
            have hst2 : (cs != xs) = true := by simpa using hst
            have hgl : gj ≠ lb := by rw [← HXY.out.2.2]; exact (HL.out.1.lk.nes.2.2.2 j hj).1
            have hlg : lb ≠ gj := fun e => hgl e.symm
            have HCS := Hid.out (p := Hid _) hcs
            clear hcx hcs hxs
            go_wp2_with fail
            go_quiet (fail)
            go_wp2_with fail
            refine region_tail 10 (by kernel_rfl) (by kernel_rfl) ?_
            simp only [List.take_succ_cons, List.take_zero, List.drop_succ_cons, List.drop_zero]
            repeat still_step
            refine wpStill_nil ?_
            go_wp2_with fail
            go_roundw
            case rel =>
              refine ⟨r + 1, true, by omega, by go_num, ?_⟩
              have h2 := HI.out.2.2.2
              have hnj : GA j ≠ eb := HNE.out.1 j hj
              have hm : (E j r).meet (e r) = c := by rw [HXY.out.1, HXY.out.2.1]; exact HL.out.2.1.symm
              have hK := ((HL.out.1.lk.below (below_drewN (k := nq + 1) (Below.refl _ _))).setV hj hlt c).setA true
              have hV := (((HL.out.1.vr.below (below_drewN (k := nq + 1) (Below.refl _ _))).far (b := GA j) (i := r * 2) (fun e => hnj e.symm) (.int .i64 (c.st : Int))).far (b := GA j) (i := r * 2 + 1) (fun e => hnj e.symm) (.int .i64 c.nb)).far (b := lb) (i := 2) HNE.out.2.1 (.bool true)
              have hP := (((HL.out.2.2.below (below_drewN (k := nq + 1) (Below.refl _ _))).put (q := GA j) (i := r * 2) (Or.inr (Or.inr rfl)) (.int .i64 (c.st : Int))).put (q := GA j) (i := r * 2 + 1) (Or.inr (Or.inr rfl)) (.int .i64 c.nb)).put (q := lb) (i := 2) (Or.inl rfl) (.bool true)
              rw [HXY.out.2.2, HCS.out] at hK hV hP
              have hu : updE (ledE r E j e) j r c = ledE (r + 1) E j e := by rw [← ledR_step, hm]
              rw [hu] at hK
              refine ⟨hK, hV, ?_, fun h => (by cases h), fun _ => Or.inr (Or.inr ⟨r, by omega, ?_⟩)⟩
              · rw [HXY.out.2.2]
                exact hP
              · rw [hm, HXY.out.1]
                exact HCX.out
            case measure => simp [intOf]; omega
      · obtain rfl : r = rg := by omega
        go_wp2_with fail
        go_end0
        exact ⟨a', rfl, HI.out⟩
  | false =>
    go_wp2_with fail
    go_loopw [6] (fun x wr => ∃ (r : Nat) (a' : Bool), r ≤ rg ∧ x = .int .i64 r ∧ Hid (LkV w wr lb gg ga ac l rg GA (ledG G j) (ledE r E j e) a' ∧ VR wr eb e rg ∧ KpV W wr lb gg (GA j) ∧ (a' = false → ag = false ∧ G j = true ∧ ∀ q, q < r → (E j q).meet (e q) = E j q) ∧ (a' = true → ag = true ∨ G j = false ∨ ∃ q, q < r ∧ (E j q).meet (e q) ≠ E j q))) (fun x _ => rg - (intOf x).toNat)
    case atStart =>
      refine ⟨0, true, Nat.zero_le _, rfl, ?_⟩
      show _ ∧ _ ∧ _ ∧ _
      rw [ledE_zero]
      exact ⟨(H0.out.1.setG hj).setA true, (H0.out.2.far (b := gg) (i := j) HNE.out.2.2 (.bool true)).far (b := lb) (i := 2) HNE.out.2.1 (.bool true), ((KpV.refl _ _ _ _).put (Or.inr (Or.inl rfl)) _).put (Or.inl rfl) _, fun h => (by cases h), fun _ => Or.inr (Or.inl HGJ.out)⟩
    case round =>
      obtain ⟨r, a', hr, rfl, HI⟩ := hrel
      clear H0 c0 c2 f2 g0 gf
      by_cases hlt : r < rg
      · have hlt' : (r : Int) < (rg : Int) := by omega
        have c1 : wr.cell? ⟨lb, 1, none⟩ = some (.slice (some ⟨ga, 0, none⟩) (l + 1) ac) := box_cell (i := 1) HI.out.1.box rfl
        have a0 := HI.out.1.at hj
        have v0 := (HI.out.1.row j hj).st hlt
        have v1 := (HI.out.1.row j hj).nb hlt
        have x0 := HI.out.2.1.st hlt
        have x1 := HI.out.2.1.nb hlt
        rw [ledE_at] at v0 v1
        obtain ⟨x, hx⟩ : ∃ x, E j r = x := ⟨_, rfl⟩
        obtain ⟨y, hy⟩ : ∃ y, e r = y := ⟨_, rfl⟩
        obtain ⟨gj, hgj⟩ : ∃ y, GA j = y := ⟨_, rfl⟩
        rw [hx, hgj] at v0 v1
        rw [hgj] at a0
        rw [hy] at x0 x1
        have HXY := Hid.out (p := Hid _) (And.intro hx (And.intro hy hgj))
        have hjI : (j : Int) < (l : Int) + 1 := intJ hjl
        have HS : Hid (∀ V, Below wr.heap.size wr V → V.cell? ⟨lb, 1, none⟩ = some (.slice (some ⟨ga, 0, none⟩) (l + 1) ac) ∧ V.cell? ⟨ga, j, none⟩ = some (.slice (some ⟨gj, 0, none⟩) rg rg) ∧ V.cell? ⟨gj, r * 2, none⟩ = some (.int .i64 (x.st : Int)) ∧ V.cell? ⟨gj, r * 2 + 1, none⟩ = some (.int .i64 x.nb) ∧ V.cell? ⟨eb, r * 2, none⟩ = some (.int .i64 (y.st : Int)) ∧ V.cell? ⟨eb, r * 2 + 1, none⟩ = some (.int .i64 y.nb)) := fun V hV =>
          ⟨(hV.cell (lt_of_cell c1)).trans c1, (hV.cell (lt_of_cell a0)).trans a0, (hV.cell (lt_of_cell v0)).trans v0, (hV.cell (lt_of_cell v1)).trans v1, (hV.cell (lt_of_cell x0)).trans x0, (hV.cell (lt_of_cell x1)).trans x1⟩
        have HC1 : Hid (Calls Tryd.prog 110 #[.agg #[.int .i64 (x.st : Int), .int .i64 x.nb], .agg #[.int .i64 (y.st : Int), .int .i64 y.nb]] wr.drew fun e w' => ∃ c : Vl, e = .returned (.agg #[.int .i64 (c.st : Int), .int .i64 c.nb]) ∧ Hid (c = x.meet y ∧ Below wr.heap.size wr w') ∧ w'.cell? ⟨lb, 1, none⟩ = some (.slice (some ⟨ga, 0, none⟩) (l + 1) ac) ∧ w'.cell? ⟨ga, j, none⟩ = some (.slice (some ⟨gj, 0, none⟩) rg rg) ∧ w'.cell? ⟨gj, r * 2, none⟩ = some (.int .i64 (x.st : Int)) ∧ w'.cell? ⟨gj, r * 2 + 1, none⟩ = some (.int .i64 x.nb) ∧ w'.cell? ⟨eb, r * 2, none⟩ = some (.int .i64 (y.st : Int)) ∧ w'.cell? ⟨eb, r * 2 + 1, none⟩ = some (.int .i64 y.nb)) := by
          refine Calls.mono (HME.out _ _ _) ?_
          rintro e2 w5 ⟨c, h1, h2, h3⟩
          have hb := below_d h3
          exact ⟨c, h1, ⟨h2.out, hb⟩, HS.out _ hb⟩
        have HC2 : Hid (Calls Tryd.prog 110 #[.agg #[.int .i64 (x.st : Int), .int .i64 x.nb], .agg #[.int .i64 (y.st : Int), .int .i64 y.nb]] (wr.alloc (.cells #[.int .i64 0, .int .i64 0] 78)).drew fun e w' => ∃ c : Vl, e = .returned (.agg #[.int .i64 (c.st : Int), .int .i64 c.nb]) ∧ Hid (c = x.meet y ∧ Below wr.heap.size wr w' ∧ w'.heap[wr.heap.size]? = some (.cells #[.int .i64 0, .int .i64 0] 78)) ∧ (w'.cell? ⟨lb, 1, none⟩ = some (.slice (some ⟨ga, 0, none⟩) (l + 1) ac) ∧ w'.cell? ⟨ga, j, none⟩ = some (.slice (some ⟨gj, 0, none⟩) rg rg) ∧ w'.cell? ⟨gj, r * 2, none⟩ = some (.int .i64 (x.st : Int)) ∧ w'.cell? ⟨gj, r * 2 + 1, none⟩ = some (.int .i64 x.nb) ∧ w'.cell? ⟨eb, r * 2, none⟩ = some (.int .i64 (y.st : Int)) ∧ w'.cell? ⟨eb, r * 2 + 1, none⟩ = some (.int .i64 y.nb)) ∧ (w'.cell? ⟨wr.heap.size, 0, none⟩ = some (.int .i64 0) ∧ w'.cell? ⟨wr.heap.size, 1, none⟩ = some (.int .i64 0)) ∧ (∀ i, w'.frozen? ⟨wr.heap.size, i, none⟩ = false) ∧ lb ≠ wr.heap.size ∧ ga ≠ wr.heap.size ∧ gj ≠ wr.heap.size ∧ eb ≠ wr.heap.size) := by
          refine Calls.mono (HME.out _ _ _) ?_
          rintro e2 w5 ⟨c, h1, h2, h3⟩
          have hb := below_o h3
          have hbx := (h3.block wr.heap.size (box_lt (drewO wr _))).trans (drewO wr _)
          have l1 := lt_of_cell c1
          have l2 := lt_of_cell a0
          have l3 := lt_of_cell v0
          have l4 := lt_of_cell x0
          simp only at l1 l2 l3 l4
          exact ⟨c, h1, ⟨h2.out, hb, hbx⟩, HS.out _ hb, ⟨box_cell hbx rfl, box_cell hbx rfl⟩, fun i => box_free hbx, by omega, by omega, by omega, by omega⟩
        clear hx hy hgj HS
        go_wp2_with fail
        go_region_held3 (fun w' => w'.cell? ⟨lb, 1, none⟩ = some (.slice (some ⟨ga, 0, none⟩) (l + 1) ac) ∧ w'.cell? ⟨ga, j, none⟩ = some (.slice (some ⟨gj, 0, none⟩) rg rg) ∧ w'.cell? ⟨gj, r * 2, none⟩ = some (.int .i64 (x.st : Int)) ∧ w'.cell? ⟨gj, r * 2 + 1, none⟩ = some (.int .i64 x.nb) ∧ w'.cell? ⟨eb, r * 2, none⟩ = some (.int .i64 (y.st : Int)) ∧ w'.cell? ⟨eb, r * 2 + 1, none⟩ = some (.int .i64 y.nb)) (refine ⟨?_, ?_, ?_, ?_, ?_, ?_⟩ <;> (repeat (first | (with_reducible assumption) | (with_reducible refine cell_drw ?_) | (with_reducible refine cell_up ?_ _) | (with_reducible refine cell_farO ?_ (by assumption))))) ((go_at_call 110; first | (with_reducible refine Calls.mono HC1.out ?_; rintro e w1 ⟨c, rfl, H1, j0, j1, j2, j3, j4, j5⟩) | (with_reducible refine Calls.mono HC2.out ?_; rintro e w1 ⟨c, rfl, H1, ⟨j0, j1, j2, j3, j4, j5⟩, ⟨q0, q1⟩, qf, n0, n1, n2, n3⟩)))
        · have HL : Hid (LeI w (w1.alloc (.cells #[.int .i64 (c.st : Int), .int .i64 c.nb] 78)) lb gg ga ac l rg GA (ledG G j) (ledE r E j e) a' eb e w1.heap.size c ∧ c = x.meet y ∧ KpV W (w1.alloc (.cells #[.int .i64 (c.st : Int), .int .i64 c.nb] 78)) lb gg (GA j)) := ⟨⟨HI.out.1.below ((H1.out.2.alloc H1.out.2.size _)), HI.out.2.1.below (H1.out.2.alloc H1.out.2.size _), heap_alloc_new _ _⟩, H1.out.1, HI.out.2.2.1.below (H1.out.2.alloc H1.out.2.size _)⟩
          obtain ⟨qb, hqb⟩ : ∃ q, w1.heap.size = q := ⟨_, rfl⟩
          obtain ⟨W2, hW2⟩ : ∃ V, w1.alloc (.cells #[.int .i64 (c.st : Int), .int .i64 c.nb] 78) = V := ⟨_, rfl⟩
          rw [hqb, hW2] at HL ⊢
          clear hqb hW2 H1 HC1 HC2 j0 j1 j2 j3 j4 j5 c1 a0 v0 v1 x0 x1
          have c1 : W2.cell? ⟨lb, 1, none⟩ = some (.slice (some ⟨ga, 0, none⟩) (l + 1) ac) := box_cell (i := 1) HL.out.1.lk.box rfl
          have c2 : W2.cell? ⟨lb, 2, none⟩ = some (.bool a') := box_cell (i := 2) HL.out.1.lk.box rfl
          have f2 : W2.frozen? ⟨lb, 2, none⟩ = false := box_free HL.out.1.lk.box
          have a0 := HL.out.1.lk.at hj
          have v0 := (HL.out.1.lk.row j hj).st hlt
          have v1 := (HL.out.1.lk.row j hj).nb hlt
          have vf := (HL.out.1.lk.row j hj).free
          rw [ledE_at, HXY.out.1, HXY.out.2.2] at v0 v1
          rw [HXY.out.2.2] at a0 vf
          have k0 : W2.cell? ⟨qb, 0, none⟩ = some (.int .i64 (c.st : Int)) := box_cell (i := 0) HL.out.1.bx rfl
          have k1 : W2.cell? ⟨qb, 1, none⟩ = some (.int .i64 c.nb) := box_cell (i := 1) HL.out.1.bx rfl
          by_cases hcx : c = x
          · subst hcx
            go_wp2_with fail
            go_quiet (fail)
            go_wp2_with fail
            go_roundw
            case rel =>
              refine ⟨r + 1, a', by omega, by go_num, ?_⟩
              have hm : (E j r).meet (e r) = E j r := by rw [HXY.out.1, HXY.out.2.1]; exact HL.out.2.1.symm
              have h2 := HI.out.2.2.2
              refine ⟨?_, HL.out.1.vr.below (below_drewN (Below.refl _ _)), HL.out.2.2.below (below_drewN (Below.refl _ _)), fun h => ⟨(h2.1 h).1, (h2.1 h).2.1, fun q hq => ?_⟩, fun h => ?_⟩
              · rw [← ledR_step, hm]
                rw [updE_self (by rw [ledE_at])]
                exact HL.out.1.lk.below (below_drewN (Below.refl _ _))
              · by_cases eq : q = r
                · rw [eq]; exact hm
                · exact (h2.1 h).2.2 q (by omega)
              · rcases h2.2 h with h3 | h3 | ⟨q, h3, h4⟩
                · exact Or.inl h3
                · exact Or.inr (Or.inl h3)
                · exact Or.inr (Or.inr ⟨q, by omega, h4⟩)
            case measure => simp [intOf]; omega
          · have hst : ((c.st : Int) == (x.st : Int)) = false := by rw [HL.out.2.1]; exact meet_st (by rw [← HL.out.2.1]; exact hcx)
            have HCX := Hid.out (p := Hid _) hcx
            obtain ⟨cs, hcs⟩ : ∃ z : Int, (c.st : Int) = z := ⟨_, rfl⟩
            obtain ⟨xs, hxs⟩ : ∃ z : Int, (x.st : Int) = z := ⟨_, rfl⟩
            rw [hcs] at k0 hst
            rw [hxs] at v0 hst
            have hst2 : (cs != xs) = true := by simpa using hst
            have hgl : gj ≠ lb := by rw [← HXY.out.2.2]; exact (HL.out.1.lk.nes.2.2.2 j hj).1
            have hlg : lb ≠ gj := fun e => hgl e.symm
            have HCS := Hid.out (p := Hid _) hcs
            clear hcx hcs hxs
            go_wp2_with fail
            go_quiet (fail)
            go_wp2_with fail
            refine region_tail 10 (by kernel_rfl) (by kernel_rfl) ?_
            simp only [List.take_succ_cons, List.take_zero, List.drop_succ_cons, List.drop_zero]
            repeat still_step
            refine wpStill_nil ?_
            go_wp2_with fail
            go_roundw
            case rel =>
              refine ⟨r + 1, true, by omega, by go_num, ?_⟩
              have h2 := HI.out.2.2.2
              have hnj : GA j ≠ eb := HNE.out.1 j hj
              have hm : (E j r).meet (e r) = c := by rw [HXY.out.1, HXY.out.2.1]; exact HL.out.2.1.symm
              have hK := ((HL.out.1.lk.below (below_drewN (k := nq + 1) (Below.refl _ _))).setV hj hlt c).setA true
              have hV := (((HL.out.1.vr.below (below_drewN (k := nq + 1) (Below.refl _ _))).far (b := GA j) (i := r * 2) (fun e => hnj e.symm) (.int .i64 (c.st : Int))).far (b := GA j) (i := r * 2 + 1) (fun e => hnj e.symm) (.int .i64 c.nb)).far (b := lb) (i := 2) HNE.out.2.1 (.bool true)
              have hP := (((HL.out.2.2.below (below_drewN (k := nq + 1) (Below.refl _ _))).put (q := GA j) (i := r * 2) (Or.inr (Or.inr rfl)) (.int .i64 (c.st : Int))).put (q := GA j) (i := r * 2 + 1) (Or.inr (Or.inr rfl)) (.int .i64 c.nb)).put (q := lb) (i := 2) (Or.inl rfl) (.bool true)
              rw [HXY.out.2.2, HCS.out] at hK hV hP
              have hu : updE (ledE r E j e) j r c = ledE (r + 1) E j e := by rw [← ledR_step, hm]
              rw [hu] at hK
              refine ⟨hK, hV, ?_, fun h => (by cases h), fun _ => Or.inr (Or.inr ⟨r, by omega, ?_⟩)⟩
              · rw [HXY.out.2.2]
                exact hP
              · rw [hm, HXY.out.1]
                exact HCX.out
            case measure => simp [intOf]; omega
        · have HL : Hid (LeI w ((w1.setCell ⟨wr.heap.size, 0, none⟩ (.int .i64 (c.st : Int))).setCell ⟨wr.heap.size, 1, none⟩ (.int .i64 c.nb)) lb gg ga ac l rg GA (ledG G j) (ledE r E j e) a' eb e wr.heap.size c ∧ c = x.meet y ∧ KpV W ((w1.setCell ⟨wr.heap.size, 0, none⟩ (.int .i64 (c.st : Int))).setCell ⟨wr.heap.size, 1, none⟩ (.int .i64 c.nb)) lb gg (GA j)) := by
            have hb := (H1.out.2.1.setCell (p := ⟨wr.heap.size, 0, none⟩) (Nat.le_refl _) (.int .i64 (c.st : Int))).setCell (p := ⟨wr.heap.size, 1, none⟩) (Nat.le_refl _) (.int .i64 c.nb)
            exact ⟨⟨HI.out.1.below hb, HI.out.2.1.below hb, heap_set_same (heap_set_same H1.out.2.2)⟩, H1.out.1, HI.out.2.2.1.below hb⟩
          obtain ⟨qb, hqb⟩ : ∃ q, wr.heap.size = q := ⟨_, rfl⟩
          obtain ⟨W2, hW2⟩ : ∃ V, (w1.setCell ⟨wr.heap.size, 0, none⟩ (.int .i64 (c.st : Int))).setCell ⟨wr.heap.size, 1, none⟩ (.int .i64 c.nb) = V := ⟨_, rfl⟩
          rw [hW2, hqb] at HL ⊢
          clear hqb hW2 H1 HC1 HC2 j0 j1 j2 j3 j4 j5 q0 q1 qf n0 n1 n2 n3 c1 a0 v0 v1 x0 x1
          have c1 : W2.cell? ⟨lb, 1, none⟩ = some (.slice (some ⟨ga, 0, none⟩) (l + 1) ac) := box_cell (i := 1) HL.out.1.lk.box rfl
          have c2 : W2.cell? ⟨lb, 2, none⟩ = some (.bool a') := box_cell (i := 2) HL.out.1.lk.box rfl
          have f2 : W2.frozen? ⟨lb, 2, none⟩ = false := box_free HL.out.1.lk.box
          have a0 := HL.out.1.lk.at hj
          have v0 := (HL.out.1.lk.row j hj).st hlt
          have v1 := (HL.out.1.lk.row j hj).nb hlt
          have vf := (HL.out.1.lk.row j hj).free
          rw [ledE_at, HXY.out.1, HXY.out.2.2] at v0 v1
          rw [HXY.out.2.2] at a0 vf
          have k0 : W2.cell? ⟨qb, 0, none⟩ = some (.int .i64 (c.st : Int)) := box_cell (i := 0) HL.out.1.bx rfl
          have k1 : W2.cell? ⟨qb, 1, none⟩ = some (.int .i64 c.nb) := box_cell (i := 1) HL.out.1.bx rfl
          by_cases hcx : c = x
          · subst hcx
            go_wp2_with fail
            go_quiet (fail)
            go_wp2_with fail
            go_roundw
            case rel =>
              refine ⟨r + 1, a', by omega, by go_num, ?_⟩
              have hm : (E j r).meet (e r) = E j r := by rw [HXY.out.1, HXY.out.2.1]; exact HL.out.2.1.symm
              have h2 := HI.out.2.2.2
              refine ⟨?_, HL.out.1.vr.below (below_drewN (Below.refl _ _)), HL.out.2.2.below (below_drewN (Below.refl _ _)), fun h => ⟨(h2.1 h).1, (h2.1 h).2.1, fun q hq => ?_⟩, fun h => ?_⟩
              · rw [← ledR_step, hm]
                rw [updE_self (by rw [ledE_at])]
                exact HL.out.1.lk.below (below_drewN (Below.refl _ _))
              · by_cases eq : q = r
                · rw [eq]; exact hm
                · exact (h2.1 h).2.2 q (by omega)
              · rcases h2.2 h with h3 | h3 | ⟨q, h3, h4⟩
                · exact Or.inl h3
                · exact Or.inr (Or.inl h3)
                · exact Or.inr (Or.inr ⟨q, by omega, h4⟩)
            case measure => simp [intOf]; omega
          · have hst : ((c.st : Int) == (x.st : Int)) = false := by rw [HL.out.2.1]; exact meet_st (by rw [← HL.out.2.1]; exact hcx)
            have HCX := Hid.out (p := Hid _) hcx
            obtain ⟨cs, hcs⟩ : ∃ z : Int, (c.st : Int) = z := ⟨_, rfl⟩
            obtain ⟨xs, hxs⟩ : ∃ z : Int, (x.st : Int) = z := ⟨_, rfl⟩
            rw [hcs] at k0 hst
            rw [hxs] at v0 hst
            have hst2 : (cs != xs) = true := by simpa using hst
            have hgl : gj ≠ lb := by rw [← HXY.out.2.2]; exact (HL.out.1.lk.nes.2.2.2 j hj).1
            have hlg : lb ≠ gj := fun e => hgl e.symm
            have HCS := Hid.out (p := Hid _) hcs
            clear hcx hcs hxs
            go_wp2_with fail
            go_quiet (fail)
            go_wp2_with fail
            refine region_tail 10 (by kernel_rfl) (by kernel_rfl) ?_
            simp only [List.take_succ_cons, List.take_zero, List.drop_succ_cons, List.drop_zero]
            repeat still_step
            refine wpStill_nil ?_
            go_wp2_with fail
            go_roundw
            case rel =>
              refine ⟨r + 1, true, by omega, by go_num, ?_⟩
              have h2 := HI.out.2.2.2
              have hnj : GA j ≠ eb := HNE.out.1 j hj
              have hm : (E j r).meet (e r) = c := by rw [HXY.out.1, HXY.out.2.1]; exact HL.out.2.1.symm
              have hK := ((HL.out.1.lk.below (below_drewN (k := nq + 1) (Below.refl _ _))).setV hj hlt c).setA true
              have hV := (((HL.out.1.vr.below (below_drewN (k := nq + 1) (Below.refl _ _))).far (b := GA j) (i := r * 2) (fun e => hnj e.symm) (.int .i64 (c.st : Int))).far (b := GA j) (i := r * 2 + 1) (fun e => hnj e.symm) (.int .i64 c.nb)).far (b := lb) (i := 2) HNE.out.2.1 (.bool true)
              have hP := (((HL.out.2.2.below (below_drewN (k := nq + 1) (Below.refl _ _))).put (q := GA j) (i := r * 2) (Or.inr (Or.inr rfl)) (.int .i64 (c.st : Int))).put (q := GA j) (i := r * 2 + 1) (Or.inr (Or.inr rfl)) (.int .i64 c.nb)).put (q := lb) (i := 2) (Or.inl rfl) (.bool true)
              rw [HXY.out.2.2, HCS.out] at hK hV hP
              have hu : updE (ledE r E j e) j r c = ledE (r + 1) E j e := by rw [← ledR_step, hm]
              rw [hu] at hK
              refine ⟨hK, hV, ?_, fun h => (by cases h), fun _ => Or.inr (Or.inr ⟨r, by omega, ?_⟩)⟩
              · rw [HXY.out.2.2]
                exact hP
              · rw [hm, HXY.out.1]
                exact HCX.out
            case measure => simp [intOf]; omega
      · obtain rfl : r = rg := by omega
        go_wp2_with fail
        go_end0
        exact ⟨a', rfl, HI.out⟩

end Go.Proofs.YtkailbdjilkneaaDoor
