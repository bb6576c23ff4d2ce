/-
  The box of a program that was handed in.
  The document's sum of numbers; whether two lists are the same, which comes first; the order of outcomes.
  A memory with buffers that has just been made.
  A program that is handed in, read: its orders lie in memory, its numbers fit.
  A program and a script that are handed in, opened.
-/
import Derived.Test.YtipdnfpomdcenabGreatDoorOrder
import Derived.Test.YtipdnfpomdcenabGreatDoorPlain
import Derived.Test.YtipdnfpomdcenabGreatDoorSameI
import Derived.Test.YtipdnfpomdcenabGreatDoorWorkP
import Derived.Test.YtipdnfpomdcenabGreatDoorPLoad
import Derived.Test.YtipdnfpomdcenabGreatDoorPNew
import Derived.ProofKit
import Derived.Lib.SmallJoins
import Derived.Deep.Slices
import Derived.Test.YtipdnfpomdcenabGreatDoorRDo1b
namespace Go.Proofs.YtipdnfpomdcenabGreatDoor
section
open Go.ChangeShapes Go.WideShapes Go.ChangeAt Go.RowKit Go.Joins Go.Deep
theorem cells25 : Tryz.prog.cellsOf 25 = 4 := by kernel_rfl
theorem cells65 : Tryz.prog.cellsOf 65 = 4 := by kernel_rfl
theorem cells60 : Tryz.prog.cellsOf 60 = 1 := by kernel_rfl
theorem cells3 : Tryz.prog.cellsOf 3 = 1 := by kernel_rfl
end
section
open Go.RowKit

abbrev boxQ (ca : Option Addr) (n cc : Nat) (wa : Option Addr) (m wc : Nat) (lk rg : Int) : Obj := .cells #[.slice ca n cc, .slice wa m wc, .int .i64 lk, .int .i64 rg] 25

theorem box_lt {w : World} {g : Nat} {o : Obj} (h : w.heap[g]? = some o) : g < w.heap.size := by
  rcases Nat.lt_or_ge g w.heap.size with h1 | h1
  · exact h1
  · rw [Array.getElem?_eq_none h1] at h; cases h

theorem heap_set_same {w : World} {g i : Nat} {cs : Array Value} {t : TypeId} {u : Value} (h : w.heap[g]? = some (.cells cs t)) : (w.setCell ⟨g, i, none⟩ u).heap[g]? = some (.cells (cs.setIfInBounds i u) t) := by
  simp only [World.setCell, Array.getElem?_modify, if_true, h, Option.map_some]
  rfl

theorem own_type {w : World} {B : Nat} {e t : TypeId} {size : Nat} {v : Value} {n g : Nat} {xs : List Value} {c : Array Value} (h : w.ownsRow B e size v n xs) (hg : w.heap[g]? = some (.cells c t (0, 0))) (hne : e ≠ t) : v.ownBlock ≠ some g := fun e1 => by
  rcases h.2 with ⟨h0, _⟩ | ⟨g', cap, cur, hv, _, hh, _⟩
  · rw [h0] at e1; simp [Value.ownBlock] at e1
  · rw [hv] at e1
    have e2 : g' = g := by simpa [Value.ownBlock] using e1
    subst e2
    rw [hh] at hg
    simp only [Option.some.injEq, Obj.cells.injEq] at hg
    exact hne hg.2.1
theorem box_cell {w : World} {g i : Nat} {cs : Array Value} {t : TypeId} {u : Value} (h : w.heap[g]? = some (.cells cs t)) (hi : cs[i]? = some u) : w.cell? ⟨g, i, none⟩ = some u := by
  simp [World.cell?, h, hi]
theorem box_free {w : World} {g i : Nat} {cs : Array Value} {t : TypeId} (h : w.heap[g]? = some (.cells cs t)) : w.frozen? ⟨g, i, none⟩ = false := by
  simp [World.frozen?, h]
theorem box_later {w : World} {g : Nat} {o : Obj} (h : w.heap[g]? = some o) (p : Obj) : (w.alloc p).heap[g]? = some o := by
  have hl : g < w.heap.size := by
    rcases Nat.lt_or_ge g w.heap.size with h1 | h1
    · exact h1
    · rw [Array.getElem?_eq_none h1] at h; cases h
  exact (((Below.refl w.heap.size w).alloc (Nat.le_refl _) p).block _ hl).trans h
end

section
open Go.RowKit

theorem bits_pos (op : BinOp) (x y : Int) : 0 ≤ bits op .u64 x y := by
  unfold bits
  simp only [IntKind.wrap_u64]
  exact Int.emod_nonneg _ (by decide)
def sumS (q x : Int) : Int := bits .xor .u64 (IntKind.u64.wrap (bits .xor .u64 q (IntKind.u64.wrap x) * 1099511628211)) (IntKind.u64.wrap (bits .xor .u64 q (IntKind.u64.wrap x) * 1099511628211) / 536870912)
def sumH (l : List Int) : Nat → Int
  | 0 => l.length
  | k + 1 => sumS (sumH l k) (l.getD k 0)
theorem sumH_pos (l : List Int) : ∀ k, 0 ≤ sumH l k
  | 0 => Int.natCast_nonneg _
  | k + 1 => by unfold sumH sumS; exact bits_pos _ _ _
/-- The document's sum of numbers: from 0 to 4095. -/
def sumL (l : List Int) : Nat := (sumH l l.length).toNat % 4096
theorem sumL_lt (l : List Int) : sumL l < 4096 := Nat.mod_lt _ (by decide)
set_option maxHeartbeats 1600000 in
theorem sum_any (a : Option Addr) (l : List Int) (c : Nat) (hn : l.length ≤ 100000) (w : World) (h : IIn w a l.length (fun i => l.getD i 0)) :
    Calls Tryz.prog 92 #[.slice a l.length c] w fun e w' => e = .returned (.int .i64 (sumL l : Nat)) ∧ w' = w := by
  go_enter Tryz.func92, Tryz.ntmps92
  go_wp2
  go_loop [3, 4] (fun s i => ∃ (q : Int) (k : Nat), k ≤ l.length ∧ Hid (q = sumH l k) ∧ s = .int .u64 q ∧ i = .int .i64 k) (fun _ i => l.length - (intOf i).toNat)
  case atStart => exact ⟨_, 0, Nat.zero_le _, rfl, rfl, rfl⟩
  case round =>
    obtain ⟨q, k, hk, hq, rfl, rfl⟩ := hrel
    by_cases hlt : k < l.length
    · obtain ⟨cb, co, rfl, hcell⟩ := h k hlt
      go_wp2
      go_round
      case rel =>
        refine ⟨_, k + 1, by omega, ?_, rfl, by go_num⟩
        show _ = sumS (sumH l k) (l.getD k 0)
        rw [← hq.out, List.getD_eq_getElem?_getD, List.getElem?_eq_getElem hlt]
        rfl
      case measure => simp [intOf]; omega
    · obtain rfl : k = l.length := by omega
      have hp := sumH_pos l l.length
      have e : wrap64 (q.tmod 4096) = (sumL l : Nat) := by
        rw [← hq.out] at hp
        have h1 : q.tmod 4096 = (sumL l : Nat) := by
          unfold sumL
          rw [← hq.out, Int.tmod_eq_emod_of_nonneg hp]
          omega
        rw [h1]
        have := sumL_lt l
        unfold wrap64; omega
      have HE := Hid.out (p := Hid _) e
      clear hp e
      go_wp2
      go_ret
      exact ⟨congrArg (fun n => Ending.returned (.int .i64 n)) HE.out, rfl⟩

/-- A list of numbers, all of it, lies in w. -/
abbrev LI (w : World) (a : Option Addr) (x : List Int) : Prop := IIn w a x.length (fun i => x.getD i 0)
theorem getD_lt {x : List Int} {k : Nat} (h : k < x.length) : x.getD k 0 = x[k] := by rw [List.getD_eq_getElem?_getD, List.getElem?_eq_getElem h]; rfl
theorem take_ext {x y : List Int} {k : Nat} (h : x.take k = y.take k) (h1 : k < x.length) (h2 : k < y.length) (e : x.getD k 0 = y.getD k 0) : x.take (k + 1) = y.take (k + 1) := by
  rw [List.take_add_one, List.take_add_one, h, List.getElem?_eq_getElem h1, List.getElem?_eq_getElem h2, ← getD_lt h1, ← getD_lt h2, e]
theorem lex_drop : ∀ {k : Nat} {x y : List Int}, x.take k = y.take k → lexL x y = lexL (x.drop k) (y.drop k)
  | 0, _, _, _ => rfl
  | k + 1, [], [], _ => rfl
  | k + 1, [], _ :: _, h => by cases h
  | k + 1, _ :: _, [], h => by cases h
  | k + 1, a :: x, b :: y, h => by
    simp only [List.take_succ_cons, List.cons.injEq] at h
    obtain ⟨rfl, h⟩ := h
    show (if a = a then lexL x y else _) = _
    rw [if_pos rfl]
    exact lex_drop h
theorem lex_at {k : Nat} {x y : List Int} (h : x.take k = y.take k) (h1 : k < x.length) (h2 : k < y.length) (e : x.getD k 0 ≠ y.getD k 0) : lexL x y = decide (x.getD k 0 < y.getD k 0) := by
  rw [lex_drop h, List.drop_eq_getElem_cons h1, List.drop_eq_getElem_cons h2, getD_lt h1, getD_lt h2]
  rw [getD_lt h1, getD_lt h2] at e
  show (if x[k] = y[k] then _ else _) = _
  rw [if_neg e]
theorem lex_end {k : Nat} {x y : List Int} (h : x.take k = y.take k) (hk : x.length ≤ k ∨ y.length ≤ k) (hx : k ≤ x.length) (hy : k ≤ y.length) : lexL x y = decide (x.length < y.length) := by
  rw [lex_drop h]
  rcases hk with hk | hk
  · rw [List.drop_of_length_le hk]
    cases hd : y.drop k with
    | nil =>
      have := congrArg List.length hd
      simp only [List.length_drop, List.length_nil] at this
      rw [show decide (x.length < y.length) = false from decide_eq_false (by omega)]
      rfl
    | cons a r =>
      have := congrArg List.length hd
      simp only [List.length_drop, List.length_cons] at this
      rw [show decide (x.length < y.length) = true from decide_eq_true (by omega)]
      rfl
  · rw [List.drop_of_length_le hk, show decide (x.length < y.length) = false from decide_eq_false (by omega)]
    cases x.drop k <;> rfl
set_option maxHeartbeats 1600000 in
theorem less_any (a b : Option Addr) (x y : List Int) (c d : Nat) (hn : x.length ≤ 100000) (_hm : y.length ≤ 100000) (w : World) (h : LI w a x) (h' : LI w b y) :
    Calls Tryz.prog 82 #[.slice a x.length c, .slice b y.length d] w fun e w' => e = .returned (.bool (lexL x y)) ∧ Below w.heap.size w w' := by
  go_enter Tryz.func82, Tryz.ntmps82
  go_wp2
  go_loopw [5] (fun i wr => ∃ k : Nat, k ≤ x.length ∧ k ≤ y.length ∧ Hid (x.take k = y.take k) ∧ i = .int .i64 k ∧ Below w.heap.size w wr) (fun i _ => x.length - (intOf i).toNat)
  case atStart => exact ⟨0, Nat.zero_le _, Nat.zero_le _, rfl, rfl, Below.refl _ _⟩
  case round =>
    obtain ⟨k, hk, hk', ht, rfl, hbr⟩ := hrel
    by_cases hlt : k < x.length
    · by_cases hlt' : k < y.length
      · obtain ⟨b1, o1, rfl, hc⟩ := h.below hbr k hlt
        obtain ⟨b2, o2, rfl, hc'⟩ := h'.below hbr k hlt'
        by_cases he : x.getD k 0 = y.getD k 0
        · have ht' : Hid (x.take (k + 1) = y.take (k + 1)) := take_ext ht.out hlt hlt' he
          simp only [he] at hc
          clear he
          go_wp2
          go_region
          all_goals go_wp2
          all_goals go_roundw
          case rel => exact ⟨k + 1, by omega, by omega, ht', by go_num, hbr.drew⟩
          case measure => simp [intOf]; omega
        · have HE : Hid (lexL x y = decide (x.getD k 0 < y.getD k 0)) := lex_at ht.out hlt hlt' he
          obtain ⟨u, hu⟩ : ∃ u, x.getD k 0 = u := ⟨_, rfl⟩
          obtain ⟨v, hv⟩ : ∃ v, y.getD k 0 = v := ⟨_, rfl⟩
          simp only [hu] at hc
          simp only [hv] at hc'
          rw [hu, hv] at HE he
          clear hu hv
          go_wp2
          go_region
          all_goals go_wp2
          all_goals go_region
          all_goals go_wp2
          all_goals go_ret
          all_goals exact ⟨congrArg (fun b => Ending.returned (.bool b)) HE.out.symm, hbr.drew.drew⟩
      · have HE : Hid (lexL x y = decide (x.length < y.length)) := lex_end ht.out (Or.inr (by omega)) hk hk'
        go_wp2
        go_ret
        exact ⟨congrArg (fun b => Ending.returned (.bool b)) (by rw [HE.out]), hbr⟩
    · have HE : Hid (lexL x y = decide (x.length < y.length)) := lex_end ht.out (Or.inl (by omega)) hk hk'
      go_wp2
      go_ret
      exact ⟨congrArg (fun b => Ending.returned (.bool b)) (by rw [HE.out]), hbr⟩

set_option maxHeartbeats 1600000 in
/-- Whether two lists are the same. -/
theorem rints_any (a b : Option Addr) (x y : List Int) (c d : Nat) (hn : x.length ≤ 100000) (_hm : y.length ≤ 100000) (w : World) (h : LI w a x) (h' : LI w b y) :
    Calls Tryz.prog 30 #[.slice a x.length c, .slice b y.length d] w fun e w' => e = .returned (.bool (decide (x = y))) ∧ Below w.heap.size w w' := by
  by_cases hl : x.length = y.length
  rotate_left
  · have HE : Hid (decide (x = y) = false) := decide_eq_false (fun e => hl (by rw [e]))
    have hl' : ¬ (x.length : Int) = y.length := by omega
    go_enter Tryz.func30, Tryz.ntmps30
    go_wp2
    go_ret
    exact ⟨congrArg (fun b => Ending.returned (.bool b)) HE.out.symm, Below.refl _ _⟩
  obtain ⟨n, hx⟩ : ∃ n, x.length = n := ⟨_, rfl⟩
  have hy : y.length = n := by omega
  have hn' : n ≤ 100000 := by omega
  have h1 : IIn w a n (fun i => x.getD i 0) := by rw [← hx]; exact h
  have h2 : IIn w b n (fun i => y.getD i 0) := by rw [← hy]; exact h'
  have HX : Hid (x.length = n) := hx
  have HY : Hid (y.length = n) := hy
  rw [hx, hy]
  clear h h' hx hy hl hn _hm
  go_enter Tryz.func30, Tryz.ntmps30
  go_wp2
  go_loopw [5] (fun i wr => ∃ k : Nat, k ≤ n ∧ Hid (x.take k = y.take k) ∧ i = .int .i64 k ∧ Below w.heap.size w wr) (fun i _ => n - (intOf i).toNat)
  case atStart => exact ⟨0, Nat.zero_le _, rfl, rfl, Below.refl _ _⟩
  case round =>
    obtain ⟨k, hk, ht, rfl, hbr⟩ := hrel
    by_cases hlt : k < n
    · obtain ⟨b1, o1, rfl, hc⟩ := h1.below hbr k hlt
      obtain ⟨b2, o2, rfl, hc'⟩ := h2.below hbr k hlt
      by_cases he : x.getD k 0 = y.getD k 0
      · have ht' : Hid (x.take (k + 1) = y.take (k + 1)) := take_ext ht.out (by rw [HX.out]; exact hlt) (by rw [HY.out]; exact hlt) he
        simp only [he] at hc
        clear he
        go_wp2
        go_region
        all_goals go_wp2
        all_goals go_roundw
        case rel => exact ⟨k + 1, by omega, ht', by go_num, hbr.drew⟩
        case measure => simp [intOf]; omega
      · have HE : Hid (decide (x = y) = false) := decide_eq_false (fun e => he (by rw [e]))
        obtain ⟨u, hu⟩ : ∃ u, x.getD k 0 = u := ⟨_, rfl⟩
        obtain ⟨v, hv⟩ : ∃ v, y.getD k 0 = v := ⟨_, rfl⟩
        simp only [hu] at hc
        simp only [hv] at hc'
        rw [hu, hv] at he
        clear hu hv
        go_wp2
        go_region
        all_goals go_wp2
        all_goals go_ret
        all_goals exact ⟨congrArg (fun b => Ending.returned (.bool b)) HE.out.symm, hbr.drew⟩
    · have HE : Hid (decide (x = y) = true) := decide_eq_true (by
        have := ht.out
        rwa [List.take_of_length_le (by rw [HX.out]; omega), List.take_of_length_le (by rw [HY.out]; omega)] at this)
      go_wp2
      go_ret
      exact ⟨congrArg (fun b => Ending.returned (.bool b)) HE.out.symm, hbr⟩

/-- An outcome as a value. -/
abbrev ocV (st : Int) (wa : Option Addr) (wl wc : Nat) (pa : Option Addr) (pl pc : Nat) : Value := .agg #[.int .i64 st, .slice wa wl wc, .slice pa pl pc]

/-- An outcome lies in w. -/
structure OcAt (w : World) (v : Value) (o : Oc) : Prop where
  ex : ∃ wa wc pa pc, v = ocV o.st wa o.ws.length wc pa o.pr.length pc ∧ LI w wa o.ws ∧ LI w pa o.pr
theorem OcAt.below {w w' : World} {v : Value} {o : Oc} (h : OcAt w v o) (hb : Below w.heap.size w w') : OcAt w' v o := by
  obtain ⟨wa, wc, pa, pc, h1, h2, h3⟩ := h.ex
  exact ⟨wa, wc, pa, pc, h1, IIn.below h2 hb, IIn.below h3 hb⟩
set_option maxHeartbeats 1600000 in
theorem ahead_any (w : World) (u v : Value) (a b : Oc) (hu : OcAt w u a) (hv : OcAt w v b) (h1 : a.ws.length ≤ 100000) (h2 : b.ws.length ≤ 100000) (h3 : a.pr.length ≤ 100000) (h4 : b.pr.length ≤ 100000) :
    Calls Tryz.prog 94 #[u, v] w fun e w' => e = .returned (.bool (aheadO a b)) ∧ Below w.heap.size w w' := by
  obtain ⟨wa, wc, pa, pc, rfl, k1, k2⟩ := hu.ex
  obtain ⟨va, vc, qa, qc, rfl, k3, k4⟩ := hv.ex
  clear hu hv
  obtain ⟨sa, ws, pr⟩ := a
  obtain ⟨sb, vs, qr⟩ := b
  simp only at h1 h2 h3 h4 k1 k2 k3 k4 ⊢
  obtain ⟨UC, hUC⟩ : ∃ o : Obj, o = .cells #[.int .i64 sa, .slice wa ws.length wc, .slice pa pr.length pc] 50 := ⟨_, rfl⟩
  obtain ⟨VC, hVC⟩ : ∃ o : Obj, o = .cells #[.int .i64 sb, .slice va vs.length vc, .slice qa qr.length qc] 50 := ⟨_, rfl⟩
  have HB0 : Below w.heap.size w ((w.alloc UC).alloc VC) := ((Below.refl _ _).alloc (Nat.le_refl _) _).alloc (by simp) _
  have b1 : ((w.alloc UC).alloc VC).heap[w.heap.size]? = some UC := box_later (heap_alloc_new _ _) _
  have b2 : ((w.alloc UC).alloc VC).heap[w.heap.size + 1]? = some VC := by have := heap_alloc_new (w.alloc UC) VC; rwa [World.size_alloc] at this
  have HI : Hid (Calls Tryz.prog 30 #[.slice wa ws.length wc, .slice va vs.length vc] ((w.alloc UC).alloc VC) fun e w' => e = .returned (.bool (decide (ws = vs))) ∧ Below ((w.alloc UC).alloc VC).heap.size ((w.alloc UC).alloc VC) w') := rints_any wa va ws vs wc vc h1 h2 _ (IIn.below k1 HB0) (IIn.below k3 HB0)
  have HL1 : Hid (∀ W, Below ((w.alloc UC).alloc VC).heap.size ((w.alloc UC).alloc VC) W → Calls Tryz.prog 82 #[.slice wa ws.length wc, .slice va vs.length vc] W fun e w' => e = .returned (.bool (lexL ws vs)) ∧ Below w.heap.size w w') := fun W hb => (less_any wa va ws vs wc vc h1 h2 W (IIn.below (IIn.below k1 HB0) hb) (IIn.below (IIn.below k3 HB0) hb)).mono fun e w' g => ⟨g.1, (HB0.trans (hb.mono HB0.size)).trans (g.2.mono (HB0.trans (hb.mono HB0.size)).size)⟩
  have HL2 : Hid (∀ W, Below ((w.alloc UC).alloc VC).heap.size ((w.alloc UC).alloc VC) W → Calls Tryz.prog 82 #[.slice pa pr.length pc, .slice qa qr.length qc] W fun e w' => e = .returned (.bool (lexL pr qr)) ∧ Below w.heap.size w w') := fun W hb => (less_any pa qa pr qr pc qc h3 h4 W (IIn.below (IIn.below k2 HB0) hb) (IIn.below (IIn.below k4 HB0) hb)).mono fun e w' g => ⟨g.1, (HB0.trans (hb.mono HB0.size)).trans (g.2.mono (HB0.trans (hb.mono HB0.size)).size)⟩
  have HC : Hid (∀ W, Below ((w.alloc UC).alloc VC).heap.size ((w.alloc UC).alloc VC) W → (W.cell? ⟨w.heap.size, 1, none⟩ = some (.slice wa ws.length wc) ∧ W.cell? ⟨w.heap.size, 2, none⟩ = some (.slice pa pr.length pc)) ∧ W.cell? ⟨w.heap.size + 1, 1, none⟩ = some (.slice va vs.length vc) ∧ W.cell? ⟨w.heap.size + 1, 2, none⟩ = some (.slice qa qr.length qc)) := fun W hb => by
    have k1 := ((hb.block _ (by simp; omega)).trans b1).trans (congrArg some hUC)
    have k2 := ((hb.block _ (by simp)).trans b2).trans (congrArg some hVC)
    exact ⟨⟨box_cell k1 rfl, box_cell k1 rfl⟩, box_cell k2 rfl, box_cell k2 rfl⟩
  have HBH := Hid.out (p := Hid _) HB0
  rw [hUC, hVC] at HI HL1 HL2 HC HBH
  clear k1 k2 k3 k4 HB0 b1 b2 hUC hVC h1 h2 h3 h4
  by_cases hst : sa = sb
  rotate_left
  · have HE : Hid (aheadO ⟨sa, ws, pr⟩ ⟨sb, vs, qr⟩ = decide (sa < sb)) := if_pos hst
    go_enter Tryz.func94, Tryz.ntmps94
    go_wp2
    go_ret
    exact ⟨congrArg (fun b => Ending.returned (.bool b)) HE.out.symm, HBH.out⟩
  subst hst
  by_cases hws : ws = vs
  · have HE : Hid (aheadO ⟨sa, ws, pr⟩ ⟨sa, vs, qr⟩ = lexL pr qr) := by
      show _ = _
      unfold aheadO
      rw [if_neg (by simp), if_neg (by simpa using hws)]
    have HD : Hid (decide (ws = vs) = true) := decide_eq_true hws
    clear hws
    go_enter Tryz.func94, Tryz.ntmps94
    go_wp2_with (fail)
    refine Calls.mono HI.out ?_
    rintro e w1 ⟨rfl, hb1⟩
    rw [HD.out]
    obtain ⟨⟨_, c2⟩, _, c4⟩ := HC.out w1 hb1
    have HL := Hid.out (p := Hid _) (HL2.out w1 hb1)
    clear hb1 HI HL1 HL2 HC
    go_wp2_with (fail)
    refine Calls.mono HL.out ?_
    rintro e w2 ⟨rfl, hb2⟩
    go_wp2
    go_ret
    exact ⟨congrArg (fun b => Ending.returned (.bool b)) HE.out.symm, hb2⟩
  · have HE : Hid (aheadO ⟨sa, ws, pr⟩ ⟨sa, vs, qr⟩ = lexL ws vs) := by
      show _ = _
      unfold aheadO
      rw [if_neg (by simp), if_pos hws]
    have HD : Hid (decide (ws = vs) = false) := decide_eq_false hws
    clear hws
    go_enter Tryz.func94, Tryz.ntmps94
    go_wp2_with (fail)
    refine Calls.mono HI.out ?_
    rintro e w1 ⟨rfl, hb1⟩
    rw [HD.out]
    obtain ⟨⟨c1, _⟩, c3, _⟩ := HC.out w1 hb1
    have HL := Hid.out (p := Hid _) (HL1.out w1 hb1)
    clear hb1 HI HL1 HL2 HC
    go_wp2_with (fail)
    refine Calls.mono HL.out ?_
    rintro e w2 ⟨rfl, hb2⟩
    go_wp2
    go_ret
    exact ⟨congrArg (fun b => Ending.returned (.bool b)) HE.out.symm, hb2⟩
end

section
open Go.RowKit

theorem made_nils (n : Nat) : madeCells #[nilV] n = (List.replicate n nilV).toArray := by
  apply Array.ext'
  simp [madeCells]
  apply List.ext_getElem?
  intro i
  simp only [List.getElem?_map, List.getElem?_replicate]
  by_cases h : i < n
  · simp [h, Nat.mod_one]
  · simp [h]
theorem nils_row {w : World} {B g k : Nat} {ty : TypeId} (hB : B ≤ g) (hk : k ≤ 1000) (h : w.heap[g]? = some (.cells (madeCells #[nilV] k) ty (0, 0))) : w.ownsRow B ty 1 (.slice (some ⟨g, 0, none⟩) k k) k (List.replicate k nilV) := by
  rw [made_nils] at h
  refine ⟨by simp, Or.inr ⟨g, k, _, rfl, hB, h, Nat.le_refl _, by unfold maxLen; omega, by simp, ?_⟩⟩
  rw [List.take_of_length_le (by simp)]
theorem Mem0.low {w W0 w3 W : World} {mb lk : Nat} {wv ov : Value} {words : List Int} (h : Mem0 W0 w3 mb wv ov words lk) (h0 : Below w.heap.size w W0) (h3 : Below w3.heap.size w3 W) : Mem0 w W mb wv ov words lk := by
  have hl : mb < w3.heap.size := by
    rcases Nat.lt_or_ge mb w3.heap.size with h1 | h1
    · exact h1
    · have := h.box; rw [Array.getElem?_eq_none h1] at this; cases this
  exact ⟨(h3.block _ hl).trans h.box, fam_keeps (own_low h.wrow h0.size) (fun g e => h3.block g (h.wrow.lt g e).2), fam_keeps (own_low h.orow h0.size) (fun g e => h3.block g (h.orow.lt g e).2), Nat.le_trans h0.size h.lo, h.a1, h.a2, h.a3, (h0.trans (h.below.mono h0.size)).trans (h3.mono (Nat.le_trans h0.size h.below.size))⟩
/-- The rows of a memory with buffers that has just been made. -/
def b0V (mb bb g n : Nat) (wv ov : Value) : Rp → Value
  | .mem => boxV mb
  | .words => wv
  | .own => ov
  | .box => boxV bb
  | .bufs => .slice (some ⟨g, 0, none⟩) n n
  | _ => nilV
theorem Mem0.b {w W : World} {mb lk g n : Nat} {wv ov : Value} {words : List Int} (h : Mem0 w W mb wv ov words lk) (hn : n ≤ 4) (hg : W.heap[g]? = some (.cells (madeCells #[nilV] n) 251 (0, 0))) (hgl : w.heap.size ≤ g) (A : Nat → Option Addr) (L C : Nat → Nat) :
    MemQ ⟨A, L, C, bufK, W.heap.size, n⟩ w (W.alloc (.cells #[.pointer (some ⟨mb, 0, none⟩), .slice (some ⟨g, 0, none⟩) n n] 127)) mb (b0V mb W.heap.size g n wv ov) words lk := by
  have lt : ∀ k o, W.heap[k]? = some o → k < W.heap.size := fun k o hk => by
    rcases Nat.lt_or_ge k W.heap.size with h1 | h1
    · exact h1
    · rw [Array.getElem?_eq_none h1] at hk; cases hk
  have lm := lt _ _ h.box
  have lg := lt _ _ hg
  have c1 : g ≠ mb := fun e => by rw [e, h.box] at hg; simp at hg
  have c2 := own_type h.wrow hg (by decide)
  have c3 := own_type h.orow hg (by decide)
  have c4 : wv.ownBlock ≠ some W.heap.size := fun e => absurd (h.wrow.lt _ e).2 (by omega)
  have c5 : ov.ownBlock ≠ some W.heap.size := fun e => absurd (h.orow.lt _ e).2 (by omega)
  refine ⟨fun r hr => ?_, fun r q k hr hq => ?_, rfl, rfl, rfl, fun _ => rfl, rfl, fun _ => rfl, h.below.alloc h.below.size _⟩
  · cases r with
    | st => exact absurd rfl hr
    | mem => exact (fam_box (xs := [wv, ov]) h.lo h.box).alloc _
    | words => exact h.wrow.alloc _
    | own =>
      show World.ownsRow _ _ _ 1 ov (List.replicate lk (-1 : Int)).length _
      rw [List.length_replicate]
      exact h.orow.alloc _
    | thr => exact World.ownsRow_nil _ _ _ _
    | prints => exact World.ownsRow_nil _ _ _ _
    | regs t => exact World.ownsRow_nil _ _ _ _
    | box => exact fam_box (xs := [.pointer (some ⟨mb, 0, none⟩), .slice (some ⟨g, 0, none⟩) n n]) h.below.size (heap_alloc_new _ _)
    | bufs =>
      have e : pX ⟨A, L, C, bufK, W.heap.size, n⟩ mb (b0V mb W.heap.size g n wv ov) (sB words lk) .bufs = List.replicate n nilV := by
        show (List.range n).map (fun _ => nilV) = _
        exact List.eq_replicate_iff.2 ⟨by rw [List.length_map, List.length_range], fun b hb => by obtain ⟨_, _, e⟩ := List.mem_map.1 hb; exact e.symm⟩
      rw [e]
      exact (nils_row hgl (by omega) hg).alloc _
    | buf t => exact World.ownsRow_nil _ _ _ _
  · have s1 : ∀ b k, (boxV b).ownBlock = some k → k = b := fun b k e => by simpa [Value.ownBlock] using e.symm
    have s2 : ∀ b k, (Value.slice (some ⟨b, 0, none⟩) n n).ownBlock = some k → k = b := fun b k e => by simpa [Value.ownBlock] using e.symm
    have s3 : ∀ k, (nilV).ownBlock = some k → False := fun k e => by simp [Value.ownBlock] at e
    have a1 := h.a1
    have a2 := h.a2
    have a3 := h.a3
    have key : ∀ r k, (b0V mb W.heap.size g n wv ov r).ownBlock = some k → (r = .mem ∧ k = mb) ∨ (r = .words ∧ wv.ownBlock = some k) ∨ (r = .own ∧ ov.ownBlock = some k) ∨ (r = .box ∧ k = W.heap.size) ∨ (r = .bufs ∧ k = g) := fun r k e => by
      cases r with
      | mem => exact .inl ⟨rfl, s1 _ _ e⟩
      | words => exact .inr (.inl ⟨rfl, e⟩)
      | own => exact .inr (.inr (.inl ⟨rfl, e⟩))
      | box => exact .inr (.inr (.inr (.inl ⟨rfl, s1 _ _ e⟩)))
      | bufs => exact .inr (.inr (.inr (.inr ⟨rfl, s2 _ _ e⟩)))
      | st => exact (s3 _ e).elim
      | thr => exact (s3 _ e).elim
      | prints => exact (s3 _ e).elim
      | regs t => exact (s3 _ e).elim
      | buf t => exact (s3 _ e).elim
    rcases key r k hr with ⟨rfl, e1⟩ | ⟨rfl, e1⟩ | ⟨rfl, e1⟩ | ⟨rfl, e1⟩ | ⟨rfl, e1⟩ <;> rcases key q k hq with ⟨rfl, e2⟩ | ⟨rfl, e2⟩ | ⟨rfl, e2⟩ | ⟨rfl, e2⟩ | ⟨rfl, e2⟩ <;> first | rfl | (exfalso; omega) | (exfalso; subst e1; exact absurd e2 (by assumption)) | (exfalso; subst e2; exact absurd e1 (by assumption)) | (exact absurd e2 (a3 _ e1)) | (exact absurd e1 (a3 _ e2))

set_option maxRecDepth 100000 in
set_option maxHeartbeats 3200000 in
theorem newBuffered_any (w : World) (ca : Option Addr) (n cc : Nat) (wa : Option Addr) (wc lk rg : Nat) (words : List Int) (hw : SIs w wa words) (hnil : wa = none → words = [] ∧ wc = 0) (hm : words.length ≤ 64) (hlk : lk ≤ 4) (hn : n ≤ 4) :
    Calls Tryz.prog 31 #[prgV ca n cc wa words.length wc lk rg] w fun e w' => ∃ bb mb v, e = .returned (.pointer (some ⟨bb, 0, none⟩)) ∧ ∀ A L C, MemQ ⟨A, L, C, bufK, bb, n⟩ w w' mb v words lk := by
  have HNEW : Hid (∀ W, Below w.heap.size w W → Calls Tryz.prog 25 #[prgV ca n cc wa words.length wc lk rg] W fun e w' => ∃ mb wv ov, e = .returned (.pointer (some ⟨mb, 0, none⟩)) ∧ Mem0 W w' mb wv ov words lk) := fun W hb => newPlain_any W ca n cc wa wc lk rg words (hw.below hb) hnil hm hlk
  have hmk := fun W => run_make_row' (P := Tryz.prog) 125 251 nilV 24 Tryz.underlying125 (by kernel_rfl) rfl .i64 .i64 n (by omega) (by omega) W
  obtain ⟨m, hmm⟩ : ∃ m, words.length = m := ⟨_, rfl⟩
  rw [hmm] at HNEW ⊢
  clear hw hnil hm hmm
  have HN4 : Hid (n ≤ 4) := hn
  clear hn hlk
  go_enter Tryz.func31, Tryz.ntmps31
  go_wp2
  have q0 : (w.alloc (.cells #[.slice ca n cc, .slice wa m wc, .int .i64 (lk : Int), .int .i64 (rg : Int)] 25)).cell? ⟨w.heap.size, 0, none⟩ = some (.slice ca n cc) := by go_simp
  have q1 : (w.alloc (.cells #[.slice ca n cc, .slice wa m wc, .int .i64 (lk : Int), .int .i64 (rg : Int)] 25)).cell? ⟨w.heap.size, 1, none⟩ = some (.slice wa m wc) := by go_simp
  have q2 : (w.alloc (.cells #[.slice ca n cc, .slice wa m wc, .int .i64 (lk : Int), .int .i64 (rg : Int)] 25)).cell? ⟨w.heap.size, 2, none⟩ = some (.int .i64 (lk : Int)) := by go_simp
  have q3 : (w.alloc (.cells #[.slice ca n cc, .slice wa m wc, .int .i64 (lk : Int), .int .i64 (rg : Int)] 25)).cell? ⟨w.heap.size, 3, none⟩ = some (.int .i64 (rg : Int)) := by go_simp
  have HB1 : Hid (Below w.heap.size w (w.alloc (.cells #[.slice ca n cc, .slice wa m wc, .int .i64 (lk : Int), .int .i64 (rg : Int)] 25))) := (Below.refl _ _).alloc (Nat.le_refl _) _
  have hs1 : (w.alloc (.cells #[.slice ca n cc, .slice wa m wc, .int .i64 (lk : Int), .int .i64 (rg : Int)] 25)).heap.size = w.heap.size + 1 := by simp
  obtain ⟨W1, hW1⟩ : ∃ W1, w.alloc (.cells #[.slice ca n cc, .slice wa m wc, .int .i64 (lk : Int), .int .i64 (rg : Int)] 25) = W1 := ⟨_, rfl⟩
  rw [hW1] at q0 q1 q2 q3 HB1 hs1 ⊢
  clear hW1
  go_region_held3 (fun w' => w'.cell? ⟨w.heap.size, 0, none⟩ = some (.slice ca n cc) ∧ w'.cell? ⟨w.heap.size, 1, none⟩ = some (.slice wa m wc) ∧ w'.cell? ⟨w.heap.size, 2, none⟩ = some (.int .i64 (lk : Int)) ∧ w'.cell? ⟨w.heap.size, 3, none⟩ = some (.int .i64 (rg : Int))) (refine ⟨?_, ?_, ?_, ?_⟩ <;> (repeat (first | with_reducible assumption | with_reducible refine cell_drw ?_ | with_reducible refine cell_up ?_ _))) ((go_at_call 25; refine Calls.mono (HNEW.out _ (by repeat (first | exact HB1.out | refine Below.drew ?_ | refine Below.alloc ?_ (by have := HB1.out.size; simp; omega) _))) ?_; rintro e w3 ⟨mb, wv, ov, rfl, hm⟩; have z0 : w3.cell? ⟨w.heap.size, 0, none⟩ = some (.slice ca n cc) := (hm.below.cell (p := ⟨w.heap.size, 0, none⟩) (by show w.heap.size < _; simp; omega)).trans (by repeat (first | exact q0 | refine cell_drw ?_ | refine cell_up ?_ _)); have z1 : w3.cell? ⟨w.heap.size, 1, none⟩ = some (.slice wa m wc) := (hm.below.cell (p := ⟨w.heap.size, 1, none⟩) (by show w.heap.size < _; simp; omega)).trans (by repeat (first | exact q1 | refine cell_drw ?_ | refine cell_up ?_ _)); have z2 : w3.cell? ⟨w.heap.size, 2, none⟩ = some (.int .i64 (lk : Int)) := (hm.below.cell (p := ⟨w.heap.size, 2, none⟩) (by show w.heap.size < _; simp; omega)).trans (by repeat (first | exact q2 | refine cell_drw ?_ | refine cell_up ?_ _)); have z3 : w3.cell? ⟨w.heap.size, 3, none⟩ = some (.int .i64 (rg : Int)) := (hm.below.cell (p := ⟨w.heap.size, 3, none⟩) (by show w.heap.size < _; simp; omega)).trans (by repeat (first | exact q3 | refine cell_drw ?_ | refine cell_up ?_ _)); have HM := Hid.out (p := Hid _) hm; clear hm))
  all_goals go_wp2
  all_goals go_ret
  · refine ⟨w3.heap.size + 1, mb, b0V mb (w3.heap.size + 1) w3.heap.size n wv ov, rfl, fun A L C => ?_⟩
    have h := (HM.out.low HB1.out.drew ((Below.refl _ _).alloc (Nat.le_refl _) (.cells (madeCells #[nilV] n) 251))).b HN4.out (heap_alloc_new _ _) (Nat.le_trans HB1.out.drew.size HM.out.below.size) A L C
    rw [World.size_alloc] at h
    exact h
  · refine ⟨w3.heap.size, mb, b0V mb w3.heap.size (w.heap.size + 1) n wv ov, rfl, fun A L C => ?_⟩
    have hg : (W1.alloc (.cells (madeCells #[nilV] n) 251)).heap[w.heap.size + 1]? = some (.cells (madeCells #[nilV] n) 251 (0, 0)) := by
      have := heap_alloc_new W1 (.cells (madeCells #[nilV] n) 251)
      rwa [hs1] at this
    exact (HM.out.low (HB1.out.alloc HB1.out.size _).drew (Below.refl _ _)).b HN4.out ((HM.out.below.block _ (by simp [hs1])).trans hg) (Nat.le_succ _) A L C
end

section
open Go.ChangeShapes Go.WideShapes Go.ChangeAt Go.RowKit Go.Joins Go.Deep

section
variable {H : Type} {enc : TypeId × Value → H} {w : World}

theorem four {cs : List Value} (h : cs.length = 4) : ∃ a b c d, cs = [a, b, c, d] := by
  match cs, h with
  | [a, b, c, d], _ => exact ⟨a, b, c, d, rfl⟩

theorem read_order {a : Addr} {k fuel : Nat} {cs : List Value} {x : DataW H × List MemPlace} (hc : w.cells? 0 (a.add k) 4 = some cs) (h : DataW.trod enc Tryz.prog w 0 (fun _ => true) true fuel 65 cs = some x) :
    ∃ Y : Nat → Int, (∀ j, j < 4 → w.cell? (a.add (k + j)) = some (.int .i64 (Y j))) ∧ ∀ j, j < 4 → (Lit.int .i64 (Y j)).wf = true := by
  obtain ⟨_, hl, hcell⟩ := World.cells?_some hc
  obtain ⟨y0, y1, y2, y3, n, _, _, h0, h1, h2, h3⟩ := trod_struct4 Tryz.underlying65 h
  obtain ⟨c0, c1, c2, c3, rfl⟩ := four hl
  simp only [cells3] at h0 h1 h2 h3
  obtain ⟨a0, e0, _, w0⟩ := DataW.trod_int Tryz.underlying3 h0
  obtain ⟨a1, e1, _, w1⟩ := DataW.trod_int Tryz.underlying3 h1
  obtain ⟨a2, e2, _, w2⟩ := DataW.trod_int Tryz.underlying3 h2
  obtain ⟨a3, e3, _, w3⟩ := DataW.trod_int Tryz.underlying3 h3
  simp at e0 e1 e2 e3
  subst e0 e1 e2 e3
  refine ⟨fun j => if j = 0 then a0 else if j = 1 then a1 else if j = 2 then a2 else a3, ?_, ?_⟩
  · intro j hj
    rw [← Addr.add_add, hcell j hj]
    rcases (by omega : j = 0 ∨ j = 1 ∨ j = 2 ∨ j = 3) with rfl | rfl | rfl | rfl <;> rfl
  · intro j hj
    rcases (by omega : j = 0 ∨ j = 1 ∨ j = 2 ∨ j = 3) with rfl | rfl | rfl | rfl <;> assumption

theorem read_thread {v : Value} {fuel : Nat} {x : DataW H × List MemPlace} (h : DataW.trod enc Tryz.prog w 0 (fun _ => true) true fuel 60 [v] = some x) :
    ∃ (a : Option Addr) (l c : Nat) (Y : Nat → Nat → Int), v = .slice a l c ∧ l ≤ maxLen ∧ ∀ i, i < l → (∃ b o, a = some ⟨b, o, none⟩ ∧ ∀ j, j < 4 → w.cell? ⟨b, o + (i * 4 + j), none⟩ = some (.int .i64 (Y i j))) ∧ ∀ j, j < 4 → (Lit.int .i64 (Y i j)).wf = true := by
  rcases open_slice Tryz.underlying60 h with ⟨hcs, _⟩ | ⟨a, len, cap, m, n, D, Pl, hcs, _, hl, hm, hmm, _, hx⟩
  · simp at hcs
    exact ⟨none, 0, 0, fun _ _ => 0, hcs, Nat.zero_le _, fun i hi => absurd hi (Nat.not_lt_zero _)⟩
  · simp at hcs hmm
    obtain ⟨Y, hY⟩ := choose_lt (α := Nat → Int) (p := fun i (Y : Nat → Int) => (∀ j, j < 4 → w.cell? (a.add (i * 4 + j)) = some (.int .i64 (Y j))) ∧ ∀ j, j < 4 → (Lit.int .i64 (Y j)).wf = true) (n := len) (fun i hi => by
      obtain ⟨cs', h1, h2⟩ := hx i (by omega)
      rw [cells65] at h1
      exact read_order h1 h2)
    refine ⟨some a, len, cap, Y, hcs, by omega, fun i hi => ⟨?_, (hY i hi).2⟩⟩
    obtain ⟨b, o, sp⟩ := a
    have hsp : sp = none := by simpa [Addr.add] using World.cell?_spot ((hY 0 (by omega)).1 0 (by omega))
    subst hsp
    exact ⟨b, o, rfl, fun j hj => by rw [← Go.WideShapes.add_plain]; exact (hY i hi).1 j hj⟩

theorem read_code {v : Value} {fuel : Nat} {x : DataW H × List MemPlace} (h : DataW.trod enc Tryz.prog w 0 (fun _ => true) true fuel 22 [v] = some x) :
    ∃ (ca : Option Addr) (n cc : Nat) (A : Nat → Option Addr) (L C : Nat → Nat) (X : Nat → Nat → Nat → Int), v = .slice ca n cc ∧ PIn w ca n A L C X ∧ ∀ t i j, t < n → i < L t → j < 4 → (Lit.int .i64 (X t i j)).wf = true := by
  rcases open_slice1 Tryz.underlying22 cells60 h with ⟨hcs, _⟩ | ⟨a, len, cap, m, n, V, D, Pl, hcs, _, hl, hm, hmm, _, hx⟩
  · simp at hcs
    exact ⟨none, 0, 0, fun _ => none, fun _ => 0, fun _ => 0, fun _ _ _ => 0, hcs, ⟨fun t ht => absurd ht (Nat.not_lt_zero _), fun t i ht _ => absurd ht (Nat.not_lt_zero _), fun t ht => absurd ht (Nat.not_lt_zero _), Nat.zero_le _⟩, fun t i j ht => absurd ht (Nat.not_lt_zero _)⟩
  · simp at hcs hmm
    obtain ⟨A, hA⟩ := choose_lt (α := Option Addr × Nat × Nat × (Nat → Nat → Int)) (n := len) (p := fun t q => V t = .slice q.1 q.2.1 q.2.2.1 ∧ q.2.1 ≤ maxLen ∧ ∀ i, i < q.2.1 → (∃ b o, q.1 = some ⟨b, o, none⟩ ∧ ∀ j, j < 4 → w.cell? ⟨b, o + (i * 4 + j), none⟩ = some (.int .i64 (q.2.2.2 i j))) ∧ ∀ j, j < 4 → (Lit.int .i64 (q.2.2.2 i j)).wf = true)
      (fun t ht => let ⟨a', l, c, Y, h1, h2, h3⟩ := read_thread (hx t (by omega)).2; ⟨(a', l, c, Y), h1, h2, h3⟩)
    refine ⟨some a, len, cap, fun t => (A t).1, fun t => (A t).2.1, fun t => (A t).2.2.1, fun t => (A t).2.2.2, hcs, ⟨fun t ht => ?_, fun t i ht hi => ?_, fun t ht => (hA t ht).2.1, by unfold maxLen at hm; omega⟩, fun t i j ht hi hj => ((hA t ht).2.2 i hi).2 j hj⟩
    · obtain ⟨b, o, sp⟩ := a
      have hsp : sp = none := by simpa [Addr.add] using World.cell?_spot (hx 0 (by omega)).1
      subst hsp
      exact ⟨b, o, rfl, by rw [← Go.WideShapes.add_plain, (hx t (by omega)).1, (hA t ht).1]⟩
    · obtain ⟨b, o, h1, h2⟩ := ((hA t ht).2.2 i hi).1
      exact ⟨b, o, h1, by simpa using h2 0 (by omega), by simpa [Nat.add_assoc] using h2 1 (by omega), by simpa [Nat.add_assoc] using h2 2 (by omega), by simpa [Nat.add_assoc] using h2 3 (by omega)⟩
end
end

section
open Go.ChangeShapes Go.WideShapes Go.ChangeAt Go.RowKit Go.Joins Go.Deep

theorem Tryz.own : ownKnob Tryz.prog.godebug = none := by kernel_rfl
theorem Tryz.laidOut : laidOutB Tryz.prog = true := by kernel_rfl
theorem Tryz.readableP : Tryz.prog.readableRec 25 = true := by kernel_rfl
end

end Go.Proofs.YtipdnfpomdcenabGreatDoor
