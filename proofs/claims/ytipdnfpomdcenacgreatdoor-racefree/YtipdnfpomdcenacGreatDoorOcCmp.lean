/-
  Which of two outcomes comes first, by the program.
  Outcomes are sorted, by the program.
  The clashes of a state's touches are the clashes of the state.
  Clashes are noted down while the program goes through states.
  All outcomes of a program, by the program: Outcomes.
  All outcomes of a program, by the program: SC and TSO.
-/
import Derived.Test.YtipdnfpomdcenacGreatDoorWCome2
import Derived.Test.YtipdnfpomdcenacGreatDoorZPut
import Derived.Sort.Statements
import Derived.Shelf.SlSortCmp.WholeK
import Derived.BigRegion
import Derived.Test.YtipdnfpomdcenacGreatDoorShelfS
import Derived.Test.YtipdnfpomdcenacGreatDoorRcP
import Derived.Test.YtipdnfpomdcenacGreatDoorRcAdd
import Derived.Test.YtipdnfpomdcenacGreatDoorWFollow
import Derived.Test.YtipdnfpomdcenacGreatDoorPPlainK
import Derived.Deep.RegionWith
import Derived.Shelf.SlSortCmp.NoneTotal
import Derived.Test.YtipdnfpomdcenacGreatDoorPBegin
import Derived.Deep.RegionHeld
import Derived.Test.YtipdnfpomdcenacGreatDoorRDoW
import Derived.Deep.RegionHeld3
import Derived.RangeFuncFrom
import Derived.RangeFuncNested
import Derived.RangeFuncBound
import Derived.RangeFuncCalls
import Derived.RangeFuncLeaves
import Derived.RangeFuncBox
import Derived.Shelf.Abstract
import Derived.Shelf.RegionOpen
import Derived.OwnWalkIn
import Derived.TacticsInMore
import Derived.LoopNIn
import Derived.LoopIn
import Derived.Test.YtipdnfpomdcenacGreatDoorBox
import Derived.Test.YtipdnfpomdcenacGreatDoorTelP
namespace Go.Proofs.YtipdnfpomdcenacGreatDoor
section
open Go.RowKit

/-- Below, of, or above nought. -/
def cmpI (a b : Int) : Int := if a < b then -1 else if b < a then 1 else 0
def cmpL : List Int → List Int → Int
  | [], [] => 0
  | [], _ :: _ => -1
  | _ :: _, [] => 1
  | a :: l, b :: r => if cmpI a b ≠ 0 then cmpI a b else cmpL l r
theorem cmpI_zero {a b : Int} : cmpI a b = 0 ↔ a = b := by
  unfold cmpI
  split
  · constructor
    · intro h; omega
    · intro h; omega
  · split
    · constructor
      · intro h; omega
      · intro h; omega
    · constructor
      · intro h; omega
      · intro h; rfl
theorem cmpI_neg {a b : Int} : cmpI a b < 0 ↔ a < b := by
  unfold cmpI
  split
  · constructor
    · intro h; assumption
    · intro h; omega
  · split
    · constructor
      · intro h; omega
      · intro h; omega
    · constructor
      · intro h; omega
      · intro h; omega
theorem cmpL_lex : ∀ {a b : List Int}, (cmpL a b < 0 ↔ lexL a b = true) ∧ (cmpL a b = 0 ↔ a = b)
  | [], [] => ⟨by simp [cmpL, lexL], by simp [cmpL]⟩
  | [], _ :: _ => ⟨by simp [cmpL, lexL], by simp [cmpL]⟩
  | _ :: _, [] => ⟨by simp [cmpL, lexL], by simp [cmpL]⟩
  | a :: l, b :: r => by
    have ih := cmpL_lex (a := l) (b := r)
    unfold cmpL lexL
    by_cases e : a = b
    · rw [if_neg (by rw [cmpI_zero.2 e]; simp), if_pos e]
      exact ⟨ih.1, by rw [ih.2, e]; simp⟩
    · have hz : cmpI a b ≠ 0 := fun h => e (cmpI_zero.1 h)
      rw [if_pos hz, if_neg e, cmpI_neg]
      exact ⟨by simp, ⟨fun h => absurd h hz, fun h => absurd (List.cons.inj h).1 e⟩⟩
theorem isnan_any (a : Int) (w : World) : Calls Tryz.prog 64 #[.int .i64 a] w fun e w' => e = .returned (.bool false) ∧ w' = w := by
  go_enter Tryz.func64, Tryz.ntmps64
  go_wp2
  go_ret
  exact ⟨rfl, rfl⟩
set_option maxRecDepth 100000 in
set_option maxHeartbeats 800000 in
theorem ccmp_any (a b : Int) (w : World) : Calls Tryz.prog 41 #[.int .i64 a, .int .i64 b] w fun e w' => e = .returned (.int .i64 (cmpI a b)) ∧ w' = w := by
  unfold cmpI
  by_cases h1 : a < b
  · rw [if_pos h1]
    go_enter Tryz.func41, Tryz.ntmps41
    go_wp2_with (go_at_call 64; refine (isnan_any _ _).mono ?_; rintro e w' ⟨rfl, rfl⟩)
    go_ret
    exact ⟨rfl, rfl⟩
  · rw [if_neg h1]
    by_cases h2 : b < a
    · rw [if_pos h2]
      go_enter Tryz.func41, Tryz.ntmps41
      go_wp2_with (go_at_call 64; refine (isnan_any _ _).mono ?_; rintro e w' ⟨rfl, rfl⟩)
      go_ret
      exact ⟨rfl, rfl⟩
    · rw [if_neg h2]
      obtain rfl : a = b := by omega
      go_enter Tryz.func41, Tryz.ntmps41
      go_wp2_with (go_at_call 64; refine (isnan_any _ _).mono ?_; rintro e w' ⟨rfl, rfl⟩)
      go_ret
      exact ⟨rfl, rfl⟩
end

section
open Go.RowKit Go.Sort Go.Shelf

/-- Its lists lie outside of a block. -/
structure EnX (w : World) (blk : Nat) (e : En) : Prop where
  ok : EnOk w e
  wx : ∀ p, e.wa = some p → 0 < e.o.ws.length → p.block ≠ blk
  px : ∀ p, e.pa = some p → 0 < e.o.pr.length → p.block ≠ blk
abbrev EnS (w : World) (blk : Nat) : Type := {e : En // EnX w blk e}
instance (w : World) (blk : Nat) : Inhabited (EnS w blk) :=
  ⟨⟨default, ⟨⟨fun _ h => absurd h (Nat.not_lt_zero _), fun _ h => absurd h (Nat.not_lt_zero _), Nat.zero_le _, Nat.zero_le _⟩, fun _ _ h => absurd h (Nat.lt_irrefl 0), fun _ _ h => absurd h (Nat.lt_irrefl 0)⟩⟩⟩
/-- A row that is laid anew. -/
theorem own_put {w : World} {B g cap : Nat} {e : TypeId} {size n : Nat} {xs : List Value} (h : w.ownsRow B e size (.slice (some ⟨g, 0, none⟩) n cap) n xs) (F : Array Value) (hF : F.size = n * size) (m : Nat) (os : Array Obj) : (grow (putRow id (Go.Sort.ahead w m) g 0 F) os).ownsRow B e size (.slice (some ⟨g, 0, none⟩) n cap) n F.toList := by
  refine ⟨by simpa using hF, ?_⟩
  rcases h.2 with ⟨h0, _⟩ | ⟨g', cap', cur, hv, hg, hh, h1, h2, h3, _⟩
  · cases h0
  · simp only [Value.slice.injEq, Option.some.injEq, Addr.mk.injEq, and_true, true_and] at hv
    obtain ⟨rfl, rfl⟩ := hv
    refine Or.inr ⟨g, cap, putCells id 0 F cur, rfl, hg, ?_, h1, h2, by simp [putCells, h3], ?_⟩
    · have hl : g < (putRow id (Go.Sort.ahead w m) g 0 F).heap.size := by rw [Go.Sort.size_putRow]; exact box_lt hh
      rw [heap_grow_old _ _ hl]
      unfold putRow mapBlock
      simp only [Array.getElem?_modify, if_true]
      show Option.map (onCells _) (w.heap[g]?) = _
      rw [hh]; rfl
    · have hle : n * size ≤ cap * size := Nat.mul_le_mul_right _ h1
      refine List.ext_getElem? fun k => ?_
      rw [List.getElem?_take]
      split
      · rename_i hk
        simp only [putCells, Array.getElem?_toList, Array.getElem?_mapIdx]
        rw [Array.getElem?_eq_getElem (by omega), Option.map_some, if_pos ⟨Nat.zero_le _, by omega⟩, Nat.sub_zero, Array.getElem?_eq_getElem (by omega), getElem!_pos F k (by omega)]
        rfl
      · rename_i hk
        rw [Array.getElem?_toList, Array.getElem?_eq_none (by omega)]
/-- What stays when a row is sorted. -/
structure Srt (B : Nat) (w w' : World) (a : Option Addr) : Prop where
  below : Below B w w'
  kept : ∀ k, k < w.heap.size → (∀ p, a = some p → p.block ≠ k) → w'.heap[k]? = w.heap[k]?
end

section
open Go.RowKit

section
variable {L : Nat → Nat} {X : Nat → Nat → Nat → Int} {s : Sx}
theorem tw_st {t : Nat} {x : Int} {p : Bool} (h : twX X s t = some (x, p)) : stOp (opT X s t 0) = p := by
  unfold twX at h
  unfold stOp
  repeat' split at h
  all_goals
    first
      | cases h
      | skip
  · rename_i e; rw [e]; rfl
  · rename_i e; rw [e]; rfl
  · rename_i e; rw [e]; rfl
  · rename_i e; rw [e]; rfl
  · rename_i e; rw [e]; rfl
theorem touR_some {t : Nat} {x : Int} {p : Bool} (h : okT L X s t = some (x, p)) : touR L X s t = [[(t : Int), ((thOf s t).pc : Int), opT X s t 0, x]] := by
  unfold touR; rw [h]
theorem touR_none {t : Nat} (h : okT L X s t = none) : touR L X s t = [] := by
  unfold touR; rw [h]
theorem cl2_clP {a b : Nat} {x y : Int} {p q : Bool} (h1 : okT L X s a = some (x, p)) (h2 : okT L X s b = some (y, q)) : cl2 [(a : Int), ((thOf s a).pc : Int), opT X s a 0, x] [(b : Int), ((thOf s b).pc : Int), opT X s b 0, y] = clP L X s a b := by
  rw [clP_two h1 h2]
  have e1 := tw_st (okT_some.mp h1).2.1
  have e2 := tw_st (okT_some.mp h2).2.1
  show (if x = y ∧ (stOp (opT X s a 0) || stOp (opT X s b 0)) = true then _ else none) = _
  rw [e1, e2]
  rfl
theorem mem_touL {k : Nat} {r : List Int} : r ∈ touL L X s k ↔ ∃ t, t < k ∧ r ∈ touR L X s t := by
  unfold touL
  rw [List.mem_flatMap]
  exact ⟨fun ⟨t, h1, h2⟩ => ⟨t, by simpa using h1, h2⟩, fun ⟨t, h1, h2⟩ => ⟨t, by simpa using h1, h2⟩⟩
theorem getD_app_left {l r : List (List Int)} {i : Nat} (h : i < l.length) : (l ++ r).getD i [] = l.getD i [] := by
  rw [List.getD_eq_getElem?_getD, List.getD_eq_getElem?_getD, List.getElem?_append_left h]
/-- The clashes of touches, by their threads. -/
theorem pairs_cls (k : Nat) (c : List Int) : pcA (touL L X s k) (touL L X s k).length c ↔ ∃ a b, a < b ∧ b < k ∧ clP L X s a b = some c := by
  induction k with
  | zero =>
    constructor
    · rintro ⟨i, j, _, _, h, _⟩
      simp [touL] at h
    · rintro ⟨a, b, _, h, _⟩
      omega
  | succ k ih =>
    have hE : (∃ a b, a < b ∧ b < k + 1 ∧ clP L X s a b = some c) ↔ (∃ a b, a < b ∧ b < k ∧ clP L X s a b = some c) ∨ ∃ a, a < k ∧ clP L X s a k = some c := by
      constructor
      · rintro ⟨a, b, h1, h2, h3⟩
        by_cases e : b = k
        · subst e; exact Or.inr ⟨a, h1, h3⟩
        · exact Or.inl ⟨a, b, h1, by omega, h3⟩
      · rintro (⟨a, b, h1, h2, h3⟩ | ⟨a, h1, h3⟩)
        · exact ⟨a, b, h1, by omega, h3⟩
        · exact ⟨a, k, h1, by omega, h3⟩
    rw [hE, ← ih]
    cases hk : okT L X s k with
    | none =>
      rw [touL_next, touR_none hk, List.append_nil]
      exact ⟨Or.inl, fun h => h.elim id fun ⟨a, _, h2⟩ => by rw [clP_no (Or.inr hk)] at h2; cases h2⟩
    | some z =>
      obtain ⟨y, q⟩ := z
      rw [touL_next, touR_some hk]
      obtain ⟨l, hl⟩ : ∃ l, touL L X s k = l := ⟨_, rfl⟩
      have hmem : ∀ r, r ∈ l → ∃ a x p, a < k ∧ okT L X s a = some (x, p) ∧ r = [(a : Int), ((thOf s a).pc : Int), opT X s a 0, x] := fun r hr => by
        rw [← hl] at hr
        obtain ⟨a, h1, h2⟩ := mem_touL.mp hr
        cases ha : okT L X s a with
        | none => rw [touR_none ha] at h2; cases h2
        | some z =>
          obtain ⟨x, p⟩ := z
          rw [touR_some ha] at h2
          exact ⟨a, x, p, h1, ha, List.mem_singleton.mp h2⟩
      have hback : ∀ a x p, a < k → okT L X s a = some (x, p) → [(a : Int), ((thOf s a).pc : Int), opT X s a 0, x] ∈ l := fun a x p h1 h2 => by
        rw [← hl]
        exact mem_touL.mpr ⟨a, h1, by rw [touR_some h2]; simp⟩
      rw [hl]
      constructor
      · rintro ⟨i, j, _, h2, h3, h4⟩
        simp only [List.length_append, List.length_cons, List.length_nil] at h3
        by_cases e : j = l.length
        · subst e
          rw [getD_app_left h2, List.getD_eq_getElem?_getD, List.getD_eq_getElem?_getD, List.getElem?_append_right (Nat.le_refl _)] at h4
          simp only [Nat.sub_self, List.getElem?_cons_zero, Option.getD_some] at h4
          have hm : l[i]?.getD [] ∈ l := by rw [List.getElem?_eq_getElem h2]; exact List.getElem_mem _
          obtain ⟨a, x, p, g1, g2, g3⟩ := hmem _ hm
          rw [g3, cl2_clP g2 hk] at h4
          exact Or.inr ⟨a, g1, h4⟩
        · have hj : j < l.length := by omega
          rw [getD_app_left (by omega), getD_app_left hj] at h4
          exact Or.inl ⟨i, j, by omega, h2, hj, h4⟩
      · rintro (⟨i, j, _, h2, h3, h4⟩ | ⟨a, h1, h2⟩)
        · exact ⟨i, j, by simp; omega, h2, by simp; omega, by rw [getD_app_left (by omega), getD_app_left h3]; exact h4⟩
        · cases ha : okT L X s a with
          | none => rw [clP_no (Or.inl ha)] at h2; cases h2
          | some z =>
            obtain ⟨x, p⟩ := z
            obtain ⟨i, hi, e⟩ := List.getElem_of_mem (hback a x p h1 ha)
            refine ⟨i, l.length, by simp; omega, hi, by simp, ?_⟩
            rw [getD_app_left hi, List.getD_eq_getElem?_getD, List.getD_eq_getElem?_getD, List.getElem?_append_right (Nat.le_refl _), List.getElem?_eq_getElem hi]
            simp only [Nat.sub_self, List.getElem?_cons_zero, Option.getD_some]
            rw [e, cl2_clP ha hk]
            exact h2
theorem touches_cls {n : Nat} (h : s.ths.length = n) (c : List Int) : pcA (touL L X s n) (touL L X s n).length c ↔ ClsX L X s c := by
  rw [pairs_cls]
  unfold ClsX
  rw [h]
end
theorem wf_small {x : Int} (h0 : 0 ≤ x) (h1 : x ≤ 1000) : (Lit.int .i64 x).wf = true := by
  have h : I64n x := ⟨by omega, by omega⟩
  have e : IntKind.i64.min = -9223372036854775808 := rfl
  simpa [Lit.wf, I64n, e] using h
theorem touL_wf {n m lk rg : Nat} {L : Nat → Nat} {X : Nat → Nat → Nat → Int} {mode : Int} {s : Sx} (ho : SOk n L m lk rg mode s) (hc : COk n L X m lk rg) : ∀ r, r ∈ touL L X s n → ∀ x, x ∈ r → (Lit.int .i64 x).wf = true := fun r hr x hx => by
  obtain ⟨t, h1, h2⟩ := mem_touL.mp hr
  cases ha : okT L X s t with
  | none => rw [touR_none ha] at h2; cases h2
  | some z =>
    obtain ⟨y, p⟩ := z
    rw [touR_some ha] at h2
    rw [List.mem_singleton.mp h2] at hx
    obtain ⟨g1, g2, g3, g4⟩ := okT_some.mp ha
    have h18 := ok_op (ok_lt hc h1 g1)
    have hpc := ho.pc t h1
    have hL := hc.L4 t h1
    have hn := hc.n4
    have hm := hc.m64
    rw [ho.words] at g4
    simp only [List.mem_cons, List.not_mem_nil, or_false] at hx
    rcases hx with rfl | rfl | rfl | rfl
    · exact wf_small (by omega) (by omega)
    · exact wf_small (by omega) (by omega)
    · exact wf_small (by omega) (by omega)
    · exact wf_small (by omega) (by omega)
end

section
open Go.RowKit

/-- What was noted down of those that were seen. -/
def ObC (c : Wc) (fb fm : Nat) (W : World) (Z _F : List Sx) : Prop := W.heap[fb]? = some (.cells #[.map (some fm)] 47) ∧ SetC W fm (16 * Z.length) (fun x => ∃ s, s ∈ Z ∧ ClsX c.Q.L c.X s x)
set_option maxRecDepth 100000 in
set_option maxHeartbeats 3200000 in
theorem rsee_any (c : Wc) (hc : WcOk c) (fb fm : Nat) (hfm : fm ≠ c.km) (hBf : c.B ≤ fm) (W : World) (Z F : List Sx) (sb mb bb : Nat) (v : Rp → Value) (s : Sx) (k : Nat) (hO : ObC c fb fm W Z F) (hZ : Z.length ≤ 4500) (hq : QSt W 0 (c.Q.at bb) sb mb v s) (hs : StP c k s) (hlow : Below c.B c.w0 W) :
    Calls Tryz.prog 12 #[.pointer (some ⟨sb, 0, none⟩), .pointer (some ⟨fb, 0, none⟩)] W fun e W' => e = .returned (.tuple #[]) ∧ ObC c fb fm W' (Z ++ [s]) F ∧ Fr c.B (NF fm c.km) W W' := by
  have hB : c.B ≤ W.heap.size := by rw [hc.Bw]; exact hlow.size
  have HT : Hid (∀ V, Below W.heap.size W V → Calls Tryz.prog 14 #[.pointer (some ⟨sb, 0, none⟩)] V fun e w' => ∃ a len cp, e = .returned (.slice a len cp) ∧ IsU w' W.heap.size a len cp (touL c.Q.L c.X s c.n) ∧ Below W.heap.size W w') := fun V hV => by
    refine Calls.mono (tous_any V 0 (c.Q.at bb) sb mb v s c.ca c.X c.n c.m c.lk c.rg hc.n0 (hq.below hV) hc.hM (Nat.zero_le _) hc.nt hs.ok hc.cok ((hc.prog.below (by have := hlow; rw [hc.Bw] at this; exact this)).below hV)) ?_
    rintro e w' ⟨a, len, cp, he, hu, hb⟩
    exact ⟨a, len, cp, he, ⟨hu.is, hu.four, own_low hu.own hV.size⟩, hV.trans (hb.mono hV.size)⟩
  have f0 : W.cell? ⟨fb, 0, none⟩ = some (.map (some fm)) := box_cell hO.1 rfl
  have HA : Hid (∀ w1 a len cp, Below W.heap.size W w1 → IsU w1 W.heap.size a len cp (touL c.Q.L c.X s c.n) → Calls Tryz.prog 13 #[.map (some fm), .slice a len cp] w1 fun e W' => e = .returned (.tuple #[]) ∧ ObC c fb fm W' (Z ++ [s]) F ∧ Fr c.B (NF fm c.km) W W') := fun w1 a len cp hb hu => by
    have hmap : w1.heap[fm]? = W.heap[fm]? := by
      obtain ⟨n, D, _, ⟨es, ck, hh, _⟩, _⟩ := hO.2.own
      exact hb.block _ (box_lt hh)
    have h4 : (touL c.Q.L c.X s c.n).length ≤ 4 := by
      have h1 := touL_len (L := c.Q.L) (X := c.X) (s := s) c.n
      have h2 := hc.cok.n4
      omega
    refine Calls.mono (addCl_any w1 c.B W.heap.size fm c.km (16 * Z.length) _ a len cp _ (hO.2.fr hmap) hu h4 (touL_wf hs.ok hc.cok) hBf (Nat.le_trans hB hb.size) (by omega) hfm) ?_
    rintro e W' ⟨he, hS, hf⟩
    refine ⟨he, ⟨?_, hS.more (by rw [List.length_append, List.length_singleton]; omega) (fun x => ?_)⟩, (Fr.of_below hB hb).trans hf⟩
    · exact hf.kept _ _ ((hb.block _ (box_lt hO.1)).trans hO.1) nf_cells
    · rw [touches_cls hs.ok.ths]
      constructor
      · rintro (⟨z, h1, h2⟩ | h)
        · exact ⟨z, by simp [h1], h2⟩
        · exact ⟨s, by simp, h⟩
      · rintro ⟨z, h1, h2⟩
        rcases List.mem_append.mp h1 with h1 | h1
        · exact Or.inl ⟨z, h1, h2⟩
        · rw [List.mem_singleton.mp h1] at h2; exact Or.inr h2
  clear hO hq hs hlow
  go_enter Tryz.func12, Tryz.ntmps12
  go_wp2_with fail
  go_region_held3 (fun w' => w'.cell? ⟨fb, 0, none⟩ = some (.map (some fm))) (repeat (first | assumption | refine cell_drw ?_ | refine cell_up ?_ _)) (first | (go_at_call 14; refine Calls.mono (HT.out _ (by first | exact Below.refl _ _ | exact (Below.refl _ _).drew)) ?_; rintro e w1 ⟨a, len, cp, rfl, hu, hb1⟩; have j0 : w1.cell? ⟨fb, 0, none⟩ = some (.map (some fm)) := (hb1.cell (lt_of_cell f0)).trans f0; have HU := Hid.out (p := Hid _) (And.intro hb1 hu); clear hb1 hu) | (go_at_call 13; refine Calls.mono (HA.out _ _ _ _ (by first | exact HU.out.1 | exact HU.out.1.drew) (by first | exact HU.out.2 | exact HU.out.2.below (Below.refl _ _).drew)) ?_; rintro e w2 ⟨rfl, HO2⟩; have j2 : w2.cell? ⟨fb, 0, none⟩ = some (.map (some fm)) := box_cell HO2.1.1 rfl; have HR := Hid.out (p := Hid _) HO2; clear HO2))
  all_goals go_wp2
  all_goals go_end0
  all_goals exact ⟨rfl, HR.out.1, HR.out.2⟩
set_option maxRecDepth 100000 in
theorem rfell_any (W : World) (p : Value) : Calls Tryz.prog 15 #[p] W fun e W' => e = .returned (.tuple #[]) ∧ W' = W := by
  go_enter Tryz.func15, Tryz.ntmps15
  go_wp2
  go_end0
  exact ⟨rfl, rfl⟩
/-- Find's see and fell. -/
theorem obs_race (c : Wc) (hc : WcOk c) (fb fm : Nat) (hfm : fm ≠ c.km) (hBf : c.B ≤ fm) : Obs c 12 15 #[.pointer (some ⟨fb, 0, none⟩)] #[] (NF fm c.km) (ObC c fb fm) where
  fnS := enters_of Tryz.func12 (by kernel_rfl) rfl
  fnF := enters_of Tryz.func15 (by kernel_rfl) rfl
  n1 k cs t ht := nf_cells
  n2 o h := h.2.1 rfl
  n3 r k cs := nf_cells
  keep W W' Z F h hf := by
    refine ⟨hf.kept _ _ h.1 (nw_cells (by unfold wTy; decide)), h.2.fr ?_⟩
    obtain ⟨n, D, _, ⟨es, ck, hh, _⟩, _⟩ := h.2.own
    rw [hh]
    refine hf.kept _ _ hh fun h => ?_
    rcases h with ⟨e, _⟩ | ⟨c', t, fz, e, _⟩
    · exact hfm e
    · cases e
  see W Z F sb mb bb v s k h hq hs hk hZ hF hlow := rsee_any c hc fb fm hfm hBf W Z F sb mb bb v s k h hZ hq hs hlow
  fell W Z F sb mb bb v s h hq hp hZ hF hlow := by
    refine Calls.mono (rfell_any W _) ?_
    rintro e W' ⟨he, rfl⟩
    exact ⟨he, h, Fr.refl _ _ _⟩
end

section
open Go.RowKit Go.Sort Go.Shelf

theorem MemQ.up {Q : Cd} {w0 w W : World} {mb : Nat} {v : Rp → Value} {words : List Int} {lk : Nat} (h : MemQ Q w0 w mb v words lk) (hb : Below w.heap.size w W) : MemQ Q w0 W mb v words lk :=
  ⟨fun r hr => fam_keeps (h.own r hr) (fun g hg => hb.block g (h.lt hg)), h.apart, h.st, h.thr, h.prints, h.regs, h.mem, h.box, h.below.trans (hb.mono h.below.size)⟩
/-- A kind of memory, with all that is known of it. -/
structure KindOk (K : Mk) (tf cf : Nat) : Prop where
  hM : MLaw K
  hT : MTell K tf
  hC : MClone K cf
  ty : ∀ r, ¬ wTy (pTy K r)
  oty : ∀ r, pTy K r ≠ 61 ∧ pTy K r ≠ 40
end

section
open Go.RowKit Go.Sort Go.Shelf

theorem plain_kind : KindOk plainK 157 150 where
  hM := plain_law
  hT := plain_tell
  hC := plain_clone
  ty r := by cases r <;> simp [wTy, pTy, plainK]
  oty r := by cases r <;> simp [pTy, plainK]
theorem TabB.up {w W : World} (h : TabB w.heap.size w) (hb : Below w.heap.size w W) : TabB W.heap.size W := fun w' h' => h w' (hb.trans (h'.mono hb.size))
end

end Go.Proofs.YtipdnfpomdcenacGreatDoor
