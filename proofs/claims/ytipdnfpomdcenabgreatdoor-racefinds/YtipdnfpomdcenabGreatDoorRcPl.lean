/-
  A clash, into its place, once, by the document.
-/
import Derived.Test.YtipdnfpomdcenabGreatDoorSameI
import Derived.Test.YtipdnfpomdcenabGreatDoorZSum
import Derived.Test.YtipdnfpomdcenabGreatDoorRDoP
namespace Go.Proofs.YtipdnfpomdcenabGreatDoor
open Go.RowKit

/-- A clash, as it is handed on. -/
abbrev clV (x0 x1 x2 x3 x4 : Int) : Value := .agg #[.int .i64 x0, .int .i64 x1, .int .i64 x2, .int .i64 x3, .int .i64 x4]
/-- A list of clashes lies in w. -/
def CIn (w : World) (a : Option Addr) (l : List (List Int)) : Prop := ∀ i, i < l.length → ∃ (b o : Nat) (x0 x1 x2 x3 x4 : Int), a = some ⟨b, o, none⟩ ∧ l.getD i [] = [x0, x1, x2, x3, x4] ∧ w.cell? ⟨b, o + i * 5, none⟩ = some (.int .i64 x0) ∧ w.cell? ⟨b, o + i * 5 + 1, none⟩ = some (.int .i64 x1) ∧ w.cell? ⟨b, o + i * 5 + 2, none⟩ = some (.int .i64 x2) ∧ w.cell? ⟨b, o + i * 5 + 3, none⟩ = some (.int .i64 x3) ∧ w.cell? ⟨b, o + i * 5 + 4, none⟩ = some (.int .i64 x4)
theorem CIn.below {w w' : World} {a : Option Addr} {l : List (List Int)} (h : CIn w a l) (hb : Below w.heap.size w w') : CIn w' a l := fun i hi => by
  obtain ⟨b, o, x0, x1, x2, x3, x4, h1, h2, c0, c1, c2, c3, c4⟩ := h i hi
  exact ⟨b, o, x0, x1, x2, x3, x4, h1, h2, (hb.cell (lt_of_cell c0)).trans c0, (hb.cell (lt_of_cell c1)).trans c1, (hb.cell (lt_of_cell c2)).trans c2, (hb.cell (lt_of_cell c3)).trans c3, (hb.cell (lt_of_cell c4)).trans c4⟩
/-- A list of clashes that is being made. -/
structure IsC (w : World) (B : Nat) (a : Option Addr) (len c : Nat) (l : List (List Int)) : Prop where
  is : l.length = len
  five : ∀ x, x ∈ l → x.length = 5
  own : w.ownsRow B 59 5 (.slice a len c) len (intsV l.flatten)
theorem IsC.nil (w : World) (B : Nat) : IsC w B none 0 0 [] := ⟨rfl, fun x hx => (by cases hx), World.ownsRow_nil _ _ _ _⟩
theorem IsC.below {w w1 : World} {B : Nat} {a : Option Addr} {len c : Nat} {xs : List (List Int)} (h : IsC w B a len c xs) (hb : Below w.heap.size w w1) : IsC w1 B a len c xs := ⟨h.is, h.five, fam_keeps h.own (fun g hg => hb.block g (h.own.lt g hg).2)⟩
theorem len5 : ∀ {x : List Int}, x.length = 5 → ∃ x0 x1 x2 x3 x4, x = [x0, x1, x2, x3, x4]
  | [a, b, c, d, e], _ => ⟨a, b, c, d, e, rfl⟩
theorem flat_at : ∀ {l : List (List Int)} {i j : Nat}, (∀ x, x ∈ l → x.length = 5) → i < l.length → j < 5 → (intsV l.flatten)[i * 5 + j]? = some (.int .i64 ((l.getD i []).getD j 0))
  | [], i, j, _, h, _ => absurd h (Nat.not_lt_zero _)
  | x :: l, 0, j, h5, _, hj => by
    obtain ⟨x0, x1, x2, x3, x4, rfl⟩ := len5 (h5 x (by simp))
    match j, hj with
    | 0, _ => rfl
    | 1, _ => rfl
    | 2, _ => rfl
    | 3, _ => rfl
    | 4, _ => rfl
  | x :: l, i + 1, j, h5, hi, hj => by
    have ih := flat_at (l := l) (i := i) (j := j) (fun y hy => h5 y (by simp [hy])) (by simpa using hi) hj
    obtain ⟨x0, x1, x2, x3, x4, rfl⟩ := len5 (h5 x (by simp))
    rw [show (i + 1) * 5 + j = i * 5 + j + 1 + 1 + 1 + 1 + 1 by omega]
    exact ih
theorem IsC.cin {w : World} {B : Nat} {a : Option Addr} {len c : Nat} {l : List (List Int)} (h : IsC w B a len c l) : CIn w a l := fun i hi => by
  obtain ⟨g, cap, h1, h2, _, _⟩ := fam_block h.own (by have := h.is; omega)
  simp only [Value.slice.injEq] at h1
  have hm : l.getD i [] ∈ l := by
    rw [List.getD_eq_getElem?_getD, List.getElem?_eq_getElem hi]; exact List.getElem_mem hi
  obtain ⟨x0, x1, x2, x3, x4, e⟩ := len5 (h.five _ hm)
  have k : ∀ j, j < 5 → w.cell? ⟨g, 0 + i * 5 + j, none⟩ = some (.int .i64 ((l.getD i []).getD j 0)) := fun j hj => by
    rw [Nat.zero_add]
    exact fam_cell h.own h2 (flat_at h.five hi hj)
  have k0 := k 0 (by omega)
  have k1 := k 1 (by omega)
  have k2 := k 2 (by omega)
  have k3 := k 3 (by omega)
  have k4 := k 4 (by omega)
  rw [e] at k0 k1 k2 k3 k4
  exact ⟨g, 0, x0, x1, x2, x3, x4, h1.1, e, k0, k1, k2, k3, k4⟩
theorem infoClash : (Tryz.prog.info? 59).map (fun i => (i.zero, i.size, i.bytes)) = some (some (.agg #[.int .i64 0, .int .i64 0, .int .i64 0, .int .i64 0, .int .i64 0]), 5, 40) := by kernel_rfl
theorem IsC.push {w0 w W : World} {B : Nat} {a : Option Addr} {len c : Nat} {l : List (List Int)} (h : IsC w B a len c l) (hb : Below w.heap.size w W) (hB : B ≤ w.heap.size) (hlen : len ≤ 100000) (x0 x1 x2 x3 x4 : Int) (h0 : Below B w0 W) :
    ∃ g cap w3, (AppS #[54, 54] 54 #[.slice a len c, .slice (some ⟨W.heap.size, 0, none⟩) 1 1]).run Tryz.prog (W.alloc (.cells #[.int .i64 x0, .int .i64 x1, .int .i64 x2, .int .i64 x3, .int .i64 x4] 59)) = .ok (.slice (some ⟨g, 0, none⟩) (len + 1) cap) w3 ∧ Hid (IsC w3 B (some ⟨g, 0, none⟩) (len + 1) cap (l ++ [[x0, x1, x2, x3, x4]]) ∧ Below B w0 w3) := by
  obtain ⟨g, cap, w3, r1, r2, r3, _⟩ := app_row (T := 54) Tryz.underlying54 infoClash rfl (by omega) h.own hb hB 1 #[.int .i64 x0, .int .i64 x1, .int .i64 x2, .int .i64 x3, .int .i64 x4] rfl (by simp [Value.oneCell']) (by omega) (by omega) (by omega)
  have hBW := Nat.le_trans hB hb.size
  have e : intsV l.flatten ++ #[Value.int .i64 x0, .int .i64 x1, .int .i64 x2, .int .i64 x3, .int .i64 x4].toList = intsV (l ++ [[x0, x1, x2, x3, x4]]).flatten := by simp [intsV]
  exact ⟨g, cap, w3, r1, ⟨by simp [h.is], fun x hx => by
    rcases List.mem_append.mp hx with hx | hx
    · exact h.five x hx
    · rw [List.mem_singleton.mp hx]; rfl, by rw [← e]; exact r2⟩, (h0.alloc hBW _).grown r3 (by simp; omega) (fun k hk => (h.own.lt k hk).1)⟩
set_option maxRecDepth 100000 in
set_option maxHeartbeats 1600000 in
theorem list_any (w : World) (x0 x1 x2 x3 x4 : Int) : Calls Tryz.prog 81 #[clV x0 x1 x2 x3 x4] w fun e w' => ∃ g, e = .returned (.slice (some ⟨g, 0, none⟩) 5 5) ∧ LI w' (some ⟨g, 0, none⟩) [x0, x1, x2, x3, x4] ∧ Below w.heap.size w w' := by
  go_enter Tryz.func81, Tryz.ntmps81
  go_wp2
  go_ret
  obtain ⟨OC, hOC⟩ : ∃ o : Obj, o = .cells #[.int .i64 x0, .int .i64 x1, .int .i64 x2, .int .i64 x3, .int .i64 x4] 59 := ⟨_, rfl⟩
  rw [← hOC]
  have hn := heap_alloc_new (w.alloc OC) (.cells #[.int .i64 x0, .int .i64 x1, .int .i64 x2, .int .i64 x3, .int .i64 x4] 3)
  rw [World.size_alloc] at hn
  refine ⟨w.heap.size + 1, rfl, fun i hi => ⟨w.heap.size + 1, 0, rfl, ?_⟩, ((Below.refl _ _).alloc (Nat.le_refl _) _).alloc (by simp) _⟩
  match i, hi with
  | 0, _ => exact box_cell hn rfl
  | 1, _ => exact box_cell hn rfl
  | 2, _ => exact box_cell hn rfl
  | 3, _ => exact box_cell hn rfl
  | 4, _ => exact box_cell hn rfl
theorem insL_len {c : List Int} : ∀ l : List (List Int), (insL c l).length ≤ l.length + 1
  | [] => Nat.le_refl _
  | x :: l => by
    unfold insL
    repeat' split
    · simp
    · have := insL_len (c := c) l
      simp only [List.length_cons]; omega
    · simp
attribute [local go_sem ↓] appS_eq
set_option maxRecDepth 100000 in
set_option maxHeartbeats 3200000 in
theorem place_any (w : World) (a : Option Addr) (cap : Nat) (l : List (List Int)) (y0 y1 y2 y3 y4 : Int) (hC : CIn w a l) (hs : SortedL l) (hn : l.length ≤ 90000) :
    Calls Tryz.prog 44 #[.slice a l.length cap, clV y0 y1 y2 y3 y4] w fun e w' => ∃ a' cap', e = .returned (.slice a' (insL [y0, y1, y2, y3, y4] l).length cap') ∧ CIn w' a' (insL [y0, y1, y2, y3, y4] l) ∧ Below w.heap.size w w' := by
  obtain ⟨y, hy⟩ : ∃ y, [y0, y1, y2, y3, y4] = y := ⟨_, rfl⟩
  have hy5 : y.length = 5 := by rw [← hy]; rfl
  obtain ⟨n, hnn⟩ : ∃ n, l.length = n := ⟨_, rfl⟩
  obtain ⟨OC, hOC⟩ : ∃ o : Obj, o = .cells #[.int .i64 y0, .int .i64 y1, .int .i64 y2, .int .i64 y3, .int .i64 y4] 59 := ⟨_, rfl⟩
  obtain ⟨V0, hV0⟩ : ∃ V, w.alloc OC = V := ⟨_, rfl⟩
  have hz0 : V0.heap.size = w.heap.size + 1 := by rw [← hV0]; simp
  have hb0 : Below w.heap.size w V0 := by rw [← hV0]; exact (Below.refl _ _).alloc (Nat.le_refl _) _
  have kb : V0.heap[w.heap.size]? = some (.cells #[.int .i64 y0, .int .i64 y1, .int .i64 y2, .int .i64 y3, .int .i64 y4] 59) := by
    rw [← hOC, ← hV0]
    exact heap_alloc_new w OC
  have HO : Hid (∀ W, Below V0.heap.size V0 W → W.cell? ⟨w.heap.size, 0, none⟩ = some (.int .i64 y0) ∧ W.cell? ⟨w.heap.size, 1, none⟩ = some (.int .i64 y1) ∧ W.cell? ⟨w.heap.size, 2, none⟩ = some (.int .i64 y2) ∧ W.cell? ⟨w.heap.size, 3, none⟩ = some (.int .i64 y3) ∧ W.cell? ⟨w.heap.size, 4, none⟩ = some (.int .i64 y4)) := fun W h => by
    have k := (h.block w.heap.size (by omega)).trans kb
    exact ⟨box_cell k rfl, box_cell k rfl, box_cell k rfl, box_cell k rfl, box_cell k rfl⟩
  have HV0 : Hid (w.alloc (.cells #[.int .i64 y0, .int .i64 y1, .int .i64 y2, .int .i64 y3, .int .i64 y4] 59) = V0) := by show _ = _; rw [← hV0, hOC]
  have HB0 : Hid (∀ W, Below V0.heap.size V0 W → Below w.heap.size w W) := fun W h => hb0.trans (h.mono hb0.size)
  have HL : Hid (∀ (W : World) x0 x1 x2 x3 x4, Calls Tryz.prog 81 #[clV x0 x1 x2 x3 x4] W fun e w' => ∃ g, e = .returned (.slice (some ⟨g, 0, none⟩) 5 5) ∧ LI w' (some ⟨g, 0, none⟩) [x0, x1, x2, x3, x4] ∧ Below W.heap.size W w') := fun W x0 x1 x2 x3 x4 => list_any W x0 x1 x2 x3 x4
  have HE : Hid (CIn w a l ∧ SortedL l ∧ l.length = n ∧ y.length = 5) := ⟨hC, hs, hnn, hy5⟩
  have HY : Hid ([y0, y1, y2, y3, y4] = y) := hy
  rw [hy]
  rw [hnn] at hn ⊢
  clear hC hs hy5 hnn hOC hV0 kb hb0 hy
  go_enter Tryz.func44, Tryz.ntmps44
  go_wp2_with fail
  rw [HV0.out]
  refine Calls.mono (HL.out _ _ _ _ _ _) ?_
  rintro e V1 ⟨gx, rfl, hLx, hb1⟩
  rw [HY.out] at hLx
  have HX := Hid.out (p := Hid _) (And.intro hLx hb1)
  clear hLx hb1
  go_wp2_with fail
  go_loopw [5, 6, 8] (fun out dn i wr => ∃ (k : Nat) (d : Bool) (b : Option Addr) (len c : Nat), k ≤ n ∧ i = .int .i64 k ∧ dn = .bool d ∧ out = .slice b len c ∧ Hid (IsC wr V1.heap.size b len c (putLK y l d k) ∧ PutLI y l d k) ∧ Below V1.heap.size V1 wr) (fun _ _ i _ => n - (intOf i).toNat)
  case atStart => exact ⟨0, false, none, 0, 0, Nat.zero_le _, rfl, rfl, rfl, ⟨IsC.nil _ _, PutLI.start _ _⟩, Below.refl _ _⟩
  case round =>
    obtain ⟨k, d, b, len, c, hk, rfl, rfl, rfl, HJ, hbr⟩ := hrel
    have hb0r : Below V0.heap.size V0 wr := HX.out.2.trans (hbr.mono HX.out.2.size)
    have hlen : len ≤ k + 1 := by
      rw [← HJ.out.1.is]
      unfold putLK
      split
      · have := insL_len (c := y) (l.take k)
        rw [List.length_take] at this
        omega
      · rw [List.length_take]; omega
    by_cases hlt : k < n
    · have hkl : k < l.length := by rw [HE.out.2.2.1]; exact hlt
      obtain ⟨bb, oo, x0, x1, x2, x3, x4, rfl, hx, q0, q1, q2, q3, q4⟩ := (HE.out.1.below (HB0.out _ hb0r)) k hkl
      obtain ⟨z, hz⟩ : ∃ z, [x0, x1, x2, x3, x4] = z := ⟨_, rfl⟩
      have HK : Hid (l.getD k default = z ∧ k < l.length) := ⟨hx.trans hz, hkl⟩
      clear hx hkl
      go_wp2_with fail
      refine Calls.mono (HL.out _ _ _ _ _ _) ?_
      rintro e w1 ⟨g, rfl, hLz, hb1⟩
      rw [hz] at hLz
      have h5z : z.length = 5 := by rw [← hz]; rfl
      have hb11 : Below V1.heap.size V1 w1 := hbr.trans (hb1.mono hbr.size)
      have HI1 : Hid (∀ W, Below w1.heap.size w1 W → Calls Tryz.prog 30 #[.slice (some ⟨gx, 0, none⟩) 5 5, .slice (some ⟨g, 0, none⟩) 5 5] W fun e w' => e = .returned (.bool (decide (y = z))) ∧ Below w1.heap.size w1 w') := fun W hb => by
        have h := rints_any (some ⟨gx, 0, none⟩) (some ⟨g, 0, none⟩) y z 5 5 (by rw [HE.out.2.2.2]; omega) (by omega) W (IIn.below (IIn.below HX.out.1 hb11) hb) (IIn.below hLz hb)
        rw [HE.out.2.2.2, h5z] at h
        exact h.mono fun e w' q => ⟨q.1, hb.trans (q.2.mono hb.size)⟩
      have HI2 : Hid (∀ W, Below w1.heap.size w1 W → Calls Tryz.prog 82 #[.slice (some ⟨gx, 0, none⟩) 5 5, .slice (some ⟨g, 0, none⟩) 5 5] W fun e w' => e = .returned (.bool (lexL y z)) ∧ Below w1.heap.size w1 w') := fun W hb => by
        have h := less_any (some ⟨gx, 0, none⟩) (some ⟨g, 0, none⟩) y z 5 5 (by rw [HE.out.2.2.2]; omega) (by omega) W (IIn.below (IIn.below HX.out.1 hb11) hb) (IIn.below hLz hb)
        rw [HE.out.2.2.2, h5z] at h
        exact h.mono fun e w' q => ⟨q.1, hb.trans (q.2.mono hb.size)⟩
      have HJ1 : Hid (IsC w1 V1.heap.size b len c (putLK y l d k) ∧ PutLI y l d k) := ⟨HJ.out.1.below hb1, HJ.out.2⟩
      have HB1 : Hid (Below V1.heap.size V1 w1 ∧ ∀ W, Below w1.heap.size w1 W → Below V1.heap.size V1 W ∧ Below V0.heap.size V0 W ∧ Below w.heap.size w W) := ⟨hb11, fun W hb => by
        have u1 := hb11.trans (hb.mono hb11.size)
        have u2 := HX.out.2.trans (u1.mono HX.out.2.size)
        exact ⟨u1, u2, HB0.out _ u2⟩⟩
      have HZ : Hid ([x0, x1, x2, x3, x4] = z) := hz
      clear hLz h5z hb1 hb11 q0 q1 q2 q3 q4 HJ hz hb0r hbr
      go_wp2_with fail
      refine Calls.mono (HI1.out _ (Below.refl _ _)) ?_
      rintro e w2 ⟨rfl, hb2⟩
      by_cases hyz : y = z
      · have HR : Hid (insL y l = l ∧ l.length = n ∧ CIn w2 (some ⟨bb, oo, none⟩) l ∧ Below w.heap.size w w2) := by
          refine ⟨HJ1.out.2.there HE.out.2.1 HK.out.2 ?_ ?_, HE.out.2.2.1, HE.out.1.below (HB1.out.2 _ hb2).2.2, (HB1.out.2 _ hb2).2.2⟩
          · rw [HK.out.1, hyz]; exact lex_irr _
          · rw [HK.out.1, hyz]; exact lex_irr _
        rw [decide_eq_true hyz]
        clear hyz HI1 HI2 HJ1 HB1 HK hb2
        go_wp2
        go_ret
        exact ⟨some ⟨bb, oo, none⟩, cap, by rw [HR.out.1, HR.out.2.1]; rfl, by rw [HR.out.1]; exact HR.out.2.2.1, HR.out.2.2.2⟩
      · rw [decide_eq_false hyz]
        have HNE := Hid.out (p := Hid _) hyz
        clear hyz
        have HJ2 : Hid (IsC w2 V1.heap.size b len c (putLK y l d k)) := HJ1.out.1.below hb2
        have HH2 := Hid.out (p := Hid _) hb2
        clear hb2
        go_wp2_with fail
        refine Calls.mono (HI2.out _ HH2.out) ?_
        rintro e w3 ⟨rfl, hb3⟩
        have hI3 := HJ1.out.1.below hb3
        obtain ⟨u1, u2, u3⟩ := HB1.out.2 _ hb3
        have HYY : Hid (∀ W, Below w.heap.size w W → W.cell? ⟨bb, oo + k * 5, none⟩ = some (.int .i64 x0) ∧ W.cell? ⟨bb, oo + k * 5 + 1, none⟩ = some (.int .i64 x1) ∧ W.cell? ⟨bb, oo + k * 5 + 2, none⟩ = some (.int .i64 x2) ∧ W.cell? ⟨bb, oo + k * 5 + 3, none⟩ = some (.int .i64 x3) ∧ W.cell? ⟨bb, oo + k * 5 + 4, none⟩ = some (.int .i64 x4)) := fun W hb => by
          obtain ⟨b', o', z0, z1, z2, z3, z4, e1, e2, c0, c1, c2, c3, c4⟩ := (HE.out.1.below hb) k HK.out.2
          simp only [Option.some.injEq, Addr.mk.injEq] at e1
          have e3 : l.getD k [] = [x0, x1, x2, x3, x4] := by rw [HZ.out]; exact HK.out.1
          rw [e3] at e2
          simp only [List.cons.injEq] at e2
          obtain ⟨rfl, rfl, rfl, rfl, rfl, _⟩ := e2
          obtain ⟨rfl, rfl, _⟩ := e1
          exact ⟨c0, c1, c2, c3, c4⟩
        obtain ⟨o0, o1, o2, o3, o4⟩ := HO.out _ u2
        obtain ⟨q0, q1, q2, q3, q4⟩ := HYY.out _ u3
        have hsz1 : V1.heap.size ≤ w3.heap.size := u1.size
        have HU : Hid (Below V1.heap.size V1 w3 ∧ Below V0.heap.size V0 w3) := ⟨u1, u2⟩
        obtain ⟨Ab, hAb⟩ : ∃ A, lexL y z = A := ⟨_, rfl⟩
        rw [hAb]
        have HAB : Hid (lexL y z = Ab) := hAb
        clear hAb u1 u2 u3 hb3 HJ2 HH2 HI1 HI2
        by_cases hnow : Ab = true ∧ d = false
        · obtain ⟨rfl, rfl⟩ := hnow
          have HP : Hid (PutLI y l true (k + 1) ∧ putLK y l true (k + 1) = putLK y l false k ++ [y] ++ [z]) := by
            have := HJ1.out.2.now HK.out.2 (by rw [HK.out.1]; exact HAB.out)
            rw [HK.out.1] at this
            exact this
          obtain ⟨g1, cap1, w4, hrun, HS⟩ := hI3.push (Below.refl _ _) hsz1 (by omega) y0 y1 y2 y3 y4 HU.out.1
          rw [HY.out] at HS
          obtain ⟨z0, z1, z2, z3, z4⟩ := HYY.out _ (HB0.out _ (HX.out.2.trans (HS.out.2.mono HX.out.2.size)))
          obtain ⟨g2, cap2, w5, hrun2, HS2⟩ := HS.out.1.push (Below.refl _ _) HS.out.2.size (by omega) x0 x1 x2 x3 x4 HS.out.2
          rw [HZ.out] at HS2
          have HR : Hid (IsC w5 V1.heap.size (some ⟨g2, 0, none⟩) (len + 1 + 1) cap2 (putLK y l true (k + 1)) ∧ PutLI y l true (k + 1)) := ⟨by rw [HP.out.2]; exact HS2.out.1, HP.out.1⟩
          have HBW : Hid (Below V1.heap.size V1 w5) := HS2.out.2
          clear HS HS2 HP hI3 HJ1 HAB HYY
          go_wp2
          go_roundw
          case rel => exact ⟨k + 1, true, _, _, _, by omega, by go_num, rfl, rfl, HR, HBW.out⟩
          case measure => simp [intOf]; omega
        · have HP : Hid (PutLI y l d (k + 1) ∧ putLK y l d (k + 1) = putLK y l d k ++ [z]) := by
            cases d with
            | true =>
              have := HJ1.out.2.later HK.out.2 rfl
              rw [HK.out.1] at this
              exact this
            | false =>
              have hA : lexL y z = false := by
                rw [HAB.out]
                cases Ab with
                | true => exact absurd ⟨rfl, rfl⟩ hnow
                | false => rfl
              have hB : lexL z y = true := by
                cases hc : lexL z y with
                | true => rfl
                | false => exact absurd (lex_tri hA hc) HNE.out
              have := HJ1.out.2.skip HK.out.2 (by rw [HK.out.1]; exact hB)
              rw [HK.out.1] at this
              exact this
          obtain ⟨g1, cap1, w4, hrun, HS⟩ := hI3.push (Below.refl _ _) hsz1 (by omega) x0 x1 x2 x3 x4 HU.out.1
          rw [HZ.out] at HS
          have HR : Hid (IsC w4 V1.heap.size (some ⟨g1, 0, none⟩) (len + 1) cap1 (putLK y l d (k + 1)) ∧ PutLI y l d (k + 1)) := ⟨by rw [HP.out.2]; exact HS.out.1, HP.out.1⟩
          have HBW : Hid (Below V1.heap.size V1 w4) := HS.out.2
          clear HS HP hI3 HJ1 HAB HYY
          cases Ab with
          | true =>
            cases d with
            | false => exact absurd ⟨rfl, rfl⟩ hnow
            | true =>
              clear hnow
              go_wp2
              go_roundw
              case rel => exact ⟨k + 1, true, _, _, _, by omega, by go_num, rfl, rfl, HR, HBW.out⟩
              case measure => simp [intOf]; omega
          | false =>
            clear hnow
            go_wp2
            go_roundw
            case rel => exact ⟨k + 1, d, _, _, _, by omega, by go_num, rfl, rfl, HR, HBW.out⟩
            case measure => simp [intOf]; omega
    · obtain rfl : k = n := by omega
      have HLA : Hid (insL y l = if d then putLK y l true k else putLK y l false k ++ [y]) := by
        have := HJ.out.2
        rw [← HE.out.2.2.1] at this
        have h2 := this.last
        rw [HE.out.2.2.1] at h2
        exact h2
      obtain ⟨o0, o1, o2, o3, o4⟩ := HO.out _ hb0r
      cases d with
      | true =>
        have HR : Hid ((insL y l).length = len ∧ CIn wr b (insL y l) ∧ Below w.heap.size w wr) := by
          have e := HLA.out
          rw [if_pos rfl] at e
          rw [e]
          exact ⟨HJ.out.1.is, HJ.out.1.cin, HB0.out _ hb0r⟩
        clear HJ HLA
        go_wp2
        go_ret
        exact ⟨b, c, by rw [HR.out.1]; rfl, HR.out.2.1, HR.out.2.2⟩
      | false =>
        obtain ⟨g1, cap1, w4, hrun, HS⟩ := HJ.out.1.push (Below.refl _ _) hbr.size (by omega) y0 y1 y2 y3 y4 hbr
        rw [HY.out] at HS
        have HR : Hid ((insL y l).length = len + 1 ∧ CIn w4 (some ⟨g1, 0, none⟩) (insL y l) ∧ Below w.heap.size w w4) := by
          have e := HLA.out
          rw [if_neg (by simp)] at e
          rw [e]
          exact ⟨HS.out.1.is, HS.out.1.cin, HB0.out _ (HX.out.2.trans (HS.out.2.mono HX.out.2.size))⟩
        clear HJ HLA HS
        go_wp2
        go_ret
        exact ⟨some ⟨g1, 0, none⟩, cap1, by rw [HR.out.1]; rfl, HR.out.2.1, HR.out.2.2⟩

end Go.Proofs.YtipdnfpomdcenabGreatDoor
