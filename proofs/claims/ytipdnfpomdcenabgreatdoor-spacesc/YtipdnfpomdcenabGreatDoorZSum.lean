/-
  The document's sum of numbers; whether two lists are the same, which comes first; the order of outcomes.
  Whether two lists of outcomes are the same, by the document.
-/
import Derived.Test.YtipdnfpomdcenabGreatDoorSameI
import Derived.Test.YtipdnfpomdcenabGreatDoorWorkP
import Derived.Test.YtipdnfpomdcenabGreatDoorFam
import Derived.Test.YtipdnfpomdcenabGreatDoorRDoP
namespace Go.Proofs.YtipdnfpomdcenabGreatDoor
section
open Go.RowKit

theorem bits_pos (op : BinOp) (x y : Int) : 0 ≤ bits op .u64 x y := by
  unfold bits
  simp only [IntKind.wrap_u64]
  exact Int.emod_nonneg _ (by decide)
def sumS (q x : Int) : Int := bits .xor .u64 (IntKind.u64.wrap (bits .xor .u64 q (IntKind.u64.wrap x) * 1099511628211)) (IntKind.u64.wrap (bits .xor .u64 q (IntKind.u64.wrap x) * 1099511628211) / 536870912)
def sumH (l : List Int) : Nat → Int
  | 0 => l.length
  | k + 1 => sumS (sumH l k) (l.getD k 0)
theorem sumH_pos (l : List Int) : ∀ k, 0 ≤ sumH l k
  | 0 => Int.natCast_nonneg _
  | k + 1 => by unfold sumH sumS; exact bits_pos _ _ _
/-- The document's sum of numbers: from 0 to 4095. -/
def sumL (l : List Int) : Nat := (sumH l l.length).toNat % 4096
theorem sumL_lt (l : List Int) : sumL l < 4096 := Nat.mod_lt _ (by decide)
set_option maxHeartbeats 1600000 in
theorem sum_any (a : Option Addr) (l : List Int) (c : Nat) (hn : l.length ≤ 100000) (w : World) (h : IIn w a l.length (fun i => l.getD i 0)) :
    Calls Tryz.prog 92 #[.slice a l.length c] w fun e w' => e = .returned (.int .i64 (sumL l : Nat)) ∧ w' = w := by
  go_enter Tryz.func92, Tryz.ntmps92
  go_wp2
  go_loop [3, 4] (fun s i => ∃ (q : Int) (k : Nat), k ≤ l.length ∧ Hid (q = sumH l k) ∧ s = .int .u64 q ∧ i = .int .i64 k) (fun _ i => l.length - (intOf i).toNat)
  case atStart => exact ⟨_, 0, Nat.zero_le _, rfl, rfl, rfl⟩
  case round =>
    obtain ⟨q, k, hk, hq, rfl, rfl⟩ := hrel
    by_cases hlt : k < l.length
    · obtain ⟨cb, co, rfl, hcell⟩ := h k hlt
      go_wp2
      go_round
      case rel =>
        refine ⟨_, k + 1, by omega, ?_, rfl, by go_num⟩
        show _ = sumS (sumH l k) (l.getD k 0)
        rw [← hq.out, List.getD_eq_getElem?_getD, List.getElem?_eq_getElem hlt]
        rfl
      case measure => simp [intOf]; omega
    · obtain rfl : k = l.length := by omega
      have hp := sumH_pos l l.length
      have e : wrap64 (q.tmod 4096) = (sumL l : Nat) := by
        rw [← hq.out] at hp
        have h1 : q.tmod 4096 = (sumL l : Nat) := by
          unfold sumL
          rw [← hq.out, Int.tmod_eq_emod_of_nonneg hp]
          omega
        rw [h1]
        have := sumL_lt l
        unfold wrap64; omega
      have HE := Hid.out (p := Hid _) e
      clear hp e
      go_wp2
      go_ret
      exact ⟨congrArg (fun n => Ending.returned (.int .i64 n)) HE.out, rfl⟩

/-- A list of numbers, all of it, lies in w. -/
abbrev LI (w : World) (a : Option Addr) (x : List Int) : Prop := IIn w a x.length (fun i => x.getD i 0)
theorem getD_lt {x : List Int} {k : Nat} (h : k < x.length) : x.getD k 0 = x[k] := by rw [List.getD_eq_getElem?_getD, List.getElem?_eq_getElem h]; rfl
theorem take_ext {x y : List Int} {k : Nat} (h : x.take k = y.take k) (h1 : k < x.length) (h2 : k < y.length) (e : x.getD k 0 = y.getD k 0) : x.take (k + 1) = y.take (k + 1) := by
  rw [List.take_add_one, List.take_add_one, h, List.getElem?_eq_getElem h1, List.getElem?_eq_getElem h2, ← getD_lt h1, ← getD_lt h2, e]
theorem lex_drop : ∀ {k : Nat} {x y : List Int}, x.take k = y.take k → lexL x y = lexL (x.drop k) (y.drop k)
  | 0, _, _, _ => rfl
  | k + 1, [], [], _ => rfl
  | k + 1, [], _ :: _, h => by cases h
  | k + 1, _ :: _, [], h => by cases h
  | k + 1, a :: x, b :: y, h => by
    simp only [List.take_succ_cons, List.cons.injEq] at h
    obtain ⟨rfl, h⟩ := h
    show (if a = a then lexL x y else _) = _
    rw [if_pos rfl]
    exact lex_drop h
theorem lex_at {k : Nat} {x y : List Int} (h : x.take k = y.take k) (h1 : k < x.length) (h2 : k < y.length) (e : x.getD k 0 ≠ y.getD k 0) : lexL x y = decide (x.getD k 0 < y.getD k 0) := by
  rw [lex_drop h, List.drop_eq_getElem_cons h1, List.drop_eq_getElem_cons h2, getD_lt h1, getD_lt h2]
  rw [getD_lt h1, getD_lt h2] at e
  show (if x[k] = y[k] then _ else _) = _
  rw [if_neg e]
theorem lex_end {k : Nat} {x y : List Int} (h : x.take k = y.take k) (hk : x.length ≤ k ∨ y.length ≤ k) (hx : k ≤ x.length) (hy : k ≤ y.length) : lexL x y = decide (x.length < y.length) := by
  rw [lex_drop h]
  rcases hk with hk | hk
  · rw [List.drop_of_length_le hk]
    cases hd : y.drop k with
    | nil =>
      have := congrArg List.length hd
      simp only [List.length_drop, List.length_nil] at this
      rw [show decide (x.length < y.length) = false from decide_eq_false (by omega)]
      rfl
    | cons a r =>
      have := congrArg List.length hd
      simp only [List.length_drop, List.length_cons] at this
      rw [show decide (x.length < y.length) = true from decide_eq_true (by omega)]
      rfl
  · rw [List.drop_of_length_le hk, show decide (x.length < y.length) = false from decide_eq_false (by omega)]
    cases x.drop k <;> rfl
set_option maxHeartbeats 1600000 in
theorem less_any (a b : Option Addr) (x y : List Int) (c d : Nat) (hn : x.length ≤ 100000) (_hm : y.length ≤ 100000) (w : World) (h : LI w a x) (h' : LI w b y) :
    Calls Tryz.prog 82 #[.slice a x.length c, .slice b y.length d] w fun e w' => e = .returned (.bool (lexL x y)) ∧ Below w.heap.size w w' := by
  go_enter Tryz.func82, Tryz.ntmps82
  go_wp2
  go_loopw [5] (fun i wr => ∃ k : Nat, k ≤ x.length ∧ k ≤ y.length ∧ Hid (x.take k = y.take k) ∧ i = .int .i64 k ∧ Below w.heap.size w wr) (fun i _ => x.length - (intOf i).toNat)
  case atStart => exact ⟨0, Nat.zero_le _, Nat.zero_le _, rfl, rfl, Below.refl _ _⟩
  case round =>
    obtain ⟨k, hk, hk', ht, rfl, hbr⟩ := hrel
    by_cases hlt : k < x.length
    · by_cases hlt' : k < y.length
      · obtain ⟨b1, o1, rfl, hc⟩ := h.below hbr k hlt
        obtain ⟨b2, o2, rfl, hc'⟩ := h'.below hbr k hlt'
        by_cases he : x.getD k 0 = y.getD k 0
        · have ht' : Hid (x.take (k + 1) = y.take (k + 1)) := take_ext ht.out hlt hlt' he
          simp only [he] at hc
          clear he
          go_wp2
          go_region
          all_goals go_wp2
          all_goals go_roundw
          case rel => exact ⟨k + 1, by omega, by omega, ht', by go_num, hbr.drew⟩
          case measure => simp [intOf]; omega
        · have HE : Hid (lexL x y = decide (x.getD k 0 < y.getD k 0)) := lex_at ht.out hlt hlt' he
          obtain ⟨u, hu⟩ : ∃ u, x.getD k 0 = u := ⟨_, rfl⟩
          obtain ⟨v, hv⟩ : ∃ v, y.getD k 0 = v := ⟨_, rfl⟩
          simp only [hu] at hc
          simp only [hv] at hc'
          rw [hu, hv] at HE he
          clear hu hv
          go_wp2
          go_region
          all_goals go_wp2
          all_goals go_region
          all_goals go_wp2
          all_goals go_ret
          all_goals exact ⟨congrArg (fun b => Ending.returned (.bool b)) HE.out.symm, hbr.drew.drew⟩
      · have HE : Hid (lexL x y = decide (x.length < y.length)) := lex_end ht.out (Or.inr (by omega)) hk hk'
        go_wp2
        go_ret
        exact ⟨congrArg (fun b => Ending.returned (.bool b)) (by rw [HE.out]), hbr⟩
    · have HE : Hid (lexL x y = decide (x.length < y.length)) := lex_end ht.out (Or.inl (by omega)) hk hk'
      go_wp2
      go_ret
      exact ⟨congrArg (fun b => Ending.returned (.bool b)) (by rw [HE.out]), hbr⟩

set_option maxHeartbeats 1600000 in
/-- Whether two lists are the same. -/
theorem rints_any (a b : Option Addr) (x y : List Int) (c d : Nat) (hn : x.length ≤ 100000) (_hm : y.length ≤ 100000) (w : World) (h : LI w a x) (h' : LI w b y) :
    Calls Tryz.prog 30 #[.slice a x.length c, .slice b y.length d] w fun e w' => e = .returned (.bool (decide (x = y))) ∧ Below w.heap.size w w' := by
  by_cases hl : x.length = y.length
  rotate_left
  · have HE : Hid (decide (x = y) = false) := decide_eq_false (fun e => hl (by rw [e]))
    have hl' : ¬ (x.length : Int) = y.length := by omega
    go_enter Tryz.func30, Tryz.ntmps30
    go_wp2
    go_ret
    exact ⟨congrArg (fun b => Ending.returned (.bool b)) HE.out.symm, Below.refl _ _⟩
  obtain ⟨n, hx⟩ : ∃ n, x.length = n := ⟨_, rfl⟩
  have hy : y.length = n := by omega
  have hn' : n ≤ 100000 := by omega
  have h1 : IIn w a n (fun i => x.getD i 0) := by rw [← hx]; exact h
  have h2 : IIn w b n (fun i => y.getD i 0) := by rw [← hy]; exact h'
  have HX : Hid (x.length = n) := hx
  have HY : Hid (y.length = n) := hy
  rw [hx, hy]
  clear h h' hx hy hl hn _hm
  go_enter Tryz.func30, Tryz.ntmps30
  go_wp2
  go_loopw [5] (fun i wr => ∃ k : Nat, k ≤ n ∧ Hid (x.take k = y.take k) ∧ i = .int .i64 k ∧ Below w.heap.size w wr) (fun i _ => n - (intOf i).toNat)
  case atStart => exact ⟨0, Nat.zero_le _, rfl, rfl, Below.refl _ _⟩
  case round =>
    obtain ⟨k, hk, ht, rfl, hbr⟩ := hrel
    by_cases hlt : k < n
    · obtain ⟨b1, o1, rfl, hc⟩ := h1.below hbr k hlt
      obtain ⟨b2, o2, rfl, hc'⟩ := h2.below hbr k hlt
      by_cases he : x.getD k 0 = y.getD k 0
      · have ht' : Hid (x.take (k + 1) = y.take (k + 1)) := take_ext ht.out (by rw [HX.out]; exact hlt) (by rw [HY.out]; exact hlt) he
        simp only [he] at hc
        clear he
        go_wp2
        go_region
        all_goals go_wp2
        all_goals go_roundw
        case rel => exact ⟨k + 1, by omega, ht', by go_num, hbr.drew⟩
        case measure => simp [intOf]; omega
      · have HE : Hid (decide (x = y) = false) := decide_eq_false (fun e => he (by rw [e]))
        obtain ⟨u, hu⟩ : ∃ u, x.getD k 0 = u := ⟨_, rfl⟩
        obtain ⟨v, hv⟩ : ∃ v, y.getD k 0 = v := ⟨_, rfl⟩
        simp only [hu] at hc
        simp only [hv] at hc'
        rw [hu, hv] at he
        clear hu hv
        go_wp2
        go_region
        all_goals go_wp2
        all_goals go_ret
        all_goals exact ⟨congrArg (fun b => Ending.returned (.bool b)) HE.out.symm, hbr.drew⟩
    · have HE : Hid (decide (x = y) = true) := decide_eq_true (by
        have := ht.out
        rwa [List.take_of_length_le (by rw [HX.out]; omega), List.take_of_length_le (by rw [HY.out]; omega)] at this)
      go_wp2
      go_ret
      exact ⟨congrArg (fun b => Ending.returned (.bool b)) HE.out.symm, hbr⟩

/-- An outcome as a value. -/
abbrev ocV (st : Int) (wa : Option Addr) (wl wc : Nat) (pa : Option Addr) (pl pc : Nat) : Value := .agg #[.int .i64 st, .slice wa wl wc, .slice pa pl pc]

/-- An outcome lies in w. -/
structure OcAt (w : World) (v : Value) (o : Oc) : Prop where
  ex : ∃ wa wc pa pc, v = ocV o.st wa o.ws.length wc pa o.pr.length pc ∧ LI w wa o.ws ∧ LI w pa o.pr
theorem OcAt.below {w w' : World} {v : Value} {o : Oc} (h : OcAt w v o) (hb : Below w.heap.size w w') : OcAt w' v o := by
  obtain ⟨wa, wc, pa, pc, h1, h2, h3⟩ := h.ex
  exact ⟨wa, wc, pa, pc, h1, IIn.below h2 hb, IIn.below h3 hb⟩
set_option maxHeartbeats 1600000 in
theorem ahead_any (w : World) (u v : Value) (a b : Oc) (hu : OcAt w u a) (hv : OcAt w v b) (h1 : a.ws.length ≤ 100000) (h2 : b.ws.length ≤ 100000) (h3 : a.pr.length ≤ 100000) (h4 : b.pr.length ≤ 100000) :
    Calls Tryz.prog 94 #[u, v] w fun e w' => e = .returned (.bool (aheadO a b)) ∧ Below w.heap.size w w' := by
  obtain ⟨wa, wc, pa, pc, rfl, k1, k2⟩ := hu.ex
  obtain ⟨va, vc, qa, qc, rfl, k3, k4⟩ := hv.ex
  clear hu hv
  obtain ⟨sa, ws, pr⟩ := a
  obtain ⟨sb, vs, qr⟩ := b
  simp only at h1 h2 h3 h4 k1 k2 k3 k4 ⊢
  obtain ⟨UC, hUC⟩ : ∃ o : Obj, o = .cells #[.int .i64 sa, .slice wa ws.length wc, .slice pa pr.length pc] 50 := ⟨_, rfl⟩
  obtain ⟨VC, hVC⟩ : ∃ o : Obj, o = .cells #[.int .i64 sb, .slice va vs.length vc, .slice qa qr.length qc] 50 := ⟨_, rfl⟩
  have HB0 : Below w.heap.size w ((w.alloc UC).alloc VC) := ((Below.refl _ _).alloc (Nat.le_refl _) _).alloc (by simp) _
  have b1 : ((w.alloc UC).alloc VC).heap[w.heap.size]? = some UC := box_later (heap_alloc_new _ _) _
  have b2 : ((w.alloc UC).alloc VC).heap[w.heap.size + 1]? = some VC := by have := heap_alloc_new (w.alloc UC) VC; rwa [World.size_alloc] at this
  have HI : Hid (Calls Tryz.prog 30 #[.slice wa ws.length wc, .slice va vs.length vc] ((w.alloc UC).alloc VC) fun e w' => e = .returned (.bool (decide (ws = vs))) ∧ Below ((w.alloc UC).alloc VC).heap.size ((w.alloc UC).alloc VC) w') := rints_any wa va ws vs wc vc h1 h2 _ (IIn.below k1 HB0) (IIn.below k3 HB0)
  have HL1 : Hid (∀ W, Below ((w.alloc UC).alloc VC).heap.size ((w.alloc UC).alloc VC) W → Calls Tryz.prog 82 #[.slice wa ws.length wc, .slice va vs.length vc] W fun e w' => e = .returned (.bool (lexL ws vs)) ∧ Below w.heap.size w w') := fun W hb => (less_any wa va ws vs wc vc h1 h2 W (IIn.below (IIn.below k1 HB0) hb) (IIn.below (IIn.below k3 HB0) hb)).mono fun e w' g => ⟨g.1, (HB0.trans (hb.mono HB0.size)).trans (g.2.mono (HB0.trans (hb.mono HB0.size)).size)⟩
  have HL2 : Hid (∀ W, Below ((w.alloc UC).alloc VC).heap.size ((w.alloc UC).alloc VC) W → Calls Tryz.prog 82 #[.slice pa pr.length pc, .slice qa qr.length qc] W fun e w' => e = .returned (.bool (lexL pr qr)) ∧ Below w.heap.size w w') := fun W hb => (less_any pa qa pr qr pc qc h3 h4 W (IIn.below (IIn.below k2 HB0) hb) (IIn.below (IIn.below k4 HB0) hb)).mono fun e w' g => ⟨g.1, (HB0.trans (hb.mono HB0.size)).trans (g.2.mono (HB0.trans (hb.mono HB0.size)).size)⟩
  have HC : Hid (∀ W, Below ((w.alloc UC).alloc VC).heap.size ((w.alloc UC).alloc VC) W → (W.cell? ⟨w.heap.size, 1, none⟩ = some (.slice wa ws.length wc) ∧ W.cell? ⟨w.heap.size, 2, none⟩ = some (.slice pa pr.length pc)) ∧ W.cell? ⟨w.heap.size + 1, 1, none⟩ = some (.slice va vs.length vc) ∧ W.cell? ⟨w.heap.size + 1, 2, none⟩ = some (.slice qa qr.length qc)) := fun W hb => by
    have k1 := ((hb.block _ (by simp; omega)).trans b1).trans (congrArg some hUC)
    have k2 := ((hb.block _ (by simp)).trans b2).trans (congrArg some hVC)
    exact ⟨⟨box_cell k1 rfl, box_cell k1 rfl⟩, box_cell k2 rfl, box_cell k2 rfl⟩
  have HBH := Hid.out (p := Hid _) HB0
  rw [hUC, hVC] at HI HL1 HL2 HC HBH
  clear k1 k2 k3 k4 HB0 b1 b2 hUC hVC h1 h2 h3 h4
  by_cases hst : sa = sb
  rotate_left
  · have HE : Hid (aheadO ⟨sa, ws, pr⟩ ⟨sb, vs, qr⟩ = decide (sa < sb)) := if_pos hst
    go_enter Tryz.func94, Tryz.ntmps94
    go_wp2
    go_ret
    exact ⟨congrArg (fun b => Ending.returned (.bool b)) HE.out.symm, HBH.out⟩
  subst hst
  by_cases hws : ws = vs
  · have HE : Hid (aheadO ⟨sa, ws, pr⟩ ⟨sa, vs, qr⟩ = lexL pr qr) := by
      show _ = _
      unfold aheadO
      rw [if_neg (by simp), if_neg (by simpa using hws)]
    have HD : Hid (decide (ws = vs) = true) := decide_eq_true hws
    clear hws
    go_enter Tryz.func94, Tryz.ntmps94
    go_wp2_with (fail)
    refine Calls.mono HI.out ?_
    rintro e w1 ⟨rfl, hb1⟩
    rw [HD.out]
    obtain ⟨⟨_, c2⟩, _, c4⟩ := HC.out w1 hb1
    have HL := Hid.out (p := Hid _) (HL2.out w1 hb1)
    clear hb1 HI HL1 HL2 HC
    go_wp2_with (fail)
    refine Calls.mono HL.out ?_
    rintro e w2 ⟨rfl, hb2⟩
    go_wp2
    go_ret
    exact ⟨congrArg (fun b => Ending.returned (.bool b)) HE.out.symm, hb2⟩
  · have HE : Hid (aheadO ⟨sa, ws, pr⟩ ⟨sa, vs, qr⟩ = lexL ws vs) := by
      show _ = _
      unfold aheadO
      rw [if_neg (by simp), if_pos hws]
    have HD : Hid (decide (ws = vs) = false) := decide_eq_false hws
    clear hws
    go_enter Tryz.func94, Tryz.ntmps94
    go_wp2_with (fail)
    refine Calls.mono HI.out ?_
    rintro e w1 ⟨rfl, hb1⟩
    rw [HD.out]
    obtain ⟨⟨c1, _⟩, c3, _⟩ := HC.out w1 hb1
    have HL := Hid.out (p := Hid _) (HL1.out w1 hb1)
    clear hb1 HI HL1 HL2 HC
    go_wp2_with (fail)
    refine Calls.mono HL.out ?_
    rintro e w2 ⟨rfl, hb2⟩
    go_wp2
    go_ret
    exact ⟨congrArg (fun b => Ending.returned (.bool b)) HE.out.symm, hb2⟩
end

section
open Go.RowKit

/-- A list of outcomes lies in w. -/
def OsIn (w : World) (a : Option Addr) (l : List Oc) : Prop := ∀ i, i < l.length → ∃ b o wa wc pa pc, a = some ⟨b, o, none⟩ ∧ w.cell? ⟨b, o + i * 3, none⟩ = some (.int .i64 (l.getD i default).st) ∧ w.cell? ⟨b, o + i * 3 + 1, none⟩ = some (.slice wa (l.getD i default).ws.length wc) ∧ w.cell? ⟨b, o + i * 3 + 2, none⟩ = some (.slice pa (l.getD i default).pr.length pc) ∧ LI w wa (l.getD i default).ws ∧ LI w pa (l.getD i default).pr
theorem OsIn.below {w w' : World} {a : Option Addr} {l : List Oc} (h : OsIn w a l) (hb : Below w.heap.size w w') : OsIn w' a l := fun i hi => by
  obtain ⟨b, o, wa, wc, pa, pc, h1, h2, h3, h4, h5, h6⟩ := h i hi
  exact ⟨b, o, wa, wc, pa, pc, h1, (hb.cell (lt_of_cell h2)).trans h2, (hb.cell (lt_of_cell h3)).trans h3, (hb.cell (lt_of_cell h4)).trans h4, IIn.below h5 hb, IIn.below h6 hb⟩
/-- Few outcomes, each with few words and prints. -/
def OBd (l : List Oc) : Prop := l.length ≤ 100000 ∧ ∀ o, o ∈ l → o.ws.length ≤ 100000 ∧ o.pr.length ≤ 100000
theorem OBd.at {l : List Oc} (h : OBd l) {i : Nat} (hi : i < l.length) : (l.getD i default).ws.length ≤ 100000 ∧ (l.getD i default).pr.length ≤ 100000 := by
  refine h.2 _ ?_
  rw [List.getD_eq_getElem?_getD, List.getElem?_eq_getElem hi]
  exact List.getElem_mem hi
theorem otake_ext {x y : List Oc} {k : Nat} (h : x.take k = y.take k) (h1 : k < x.length) (h2 : k < y.length) (e : x.getD k default = y.getD k default) : x.take (k + 1) = y.take (k + 1) := by
  rw [List.getD_eq_getElem?_getD, List.getD_eq_getElem?_getD, List.getElem?_eq_getElem h1, List.getElem?_eq_getElem h2] at e
  rw [List.take_add_one, List.take_add_one, h, List.getElem?_eq_getElem h1, List.getElem?_eq_getElem h2, show x[k] = y[k] from e]

set_option maxRecDepth 100000 in
set_option maxHeartbeats 3200000 in
theorem rsame_any (a b : Option Addr) (x y : List Oc) (c d : Nat) (hx : OBd x) (hy : OBd y) (w : World) (h : OsIn w a x) (h' : OsIn w b y) :
    Calls Tryz.prog 12 #[.slice a x.length c, .slice b y.length d] w fun e w' => e = .returned (.bool (decide (x = y))) ∧ Below w.heap.size w w' := by
  have hn := hx.1
  have hm := hy.1
  by_cases hl : x.length = y.length
  rotate_left
  · have HE : Hid (decide (x = y) = false) := decide_eq_false (fun e => hl (by rw [e]))
    have hl' : ¬ (x.length : Int) = y.length := by omega
    go_enter Tryz.func12, Tryz.ntmps12
    go_wp2
    go_ret
    exact ⟨congrArg (fun b => Ending.returned (.bool b)) HE.out.symm, Below.refl _ _⟩
  obtain ⟨n, hxl⟩ : ∃ n, x.length = n := ⟨_, rfl⟩
  have hyl : y.length = n := by omega
  have hn' : n ≤ 100000 := by omega
  have HX : Hid (OBd x ∧ OsIn w a x ∧ x.length = n) := ⟨hx, h, hxl⟩
  have HY : Hid (OBd y ∧ OsIn w b y ∧ y.length = n) := ⟨hy, h', hyl⟩
  rw [hxl, hyl]
  clear h h' hx hy hl hn hm hxl hyl
  go_enter Tryz.func12, Tryz.ntmps12
  go_wp2
  go_loopw [5] (fun i wr => ∃ k : Nat, k ≤ n ∧ Hid (x.take k = y.take k) ∧ i = .int .i64 k ∧ Below w.heap.size w wr) (fun i _ => n - (intOf i).toNat)
  case atStart => exact ⟨0, Nat.zero_le _, rfl, rfl, Below.refl _ _⟩
  case round =>
    obtain ⟨k, hk, ht, rfl, hbr⟩ := hrel
    by_cases hlt : k < n
    · obtain ⟨x1, x2, x3⟩ := HX.out
      obtain ⟨y1, y2, y3⟩ := HY.out
      have hu1 := x1.at (i := k) (by omega)
      have hv1 := y1.at (i := k) (by omega)
      obtain ⟨b1, o1, wa, wc, pa, pc, rfl, c0, c1, c2, l1, l2⟩ := x2.below hbr k (by omega)
      obtain ⟨b2, o2, va, vc, qa, qc, rfl, d0, d1, d2, m1, m2⟩ := y2.below hbr k (by omega)
      have HT : Hid (x.getD k default = y.getD k default → x.take (k + 1) = y.take (k + 1)) := fun e => otake_ext ht.out (by omega) (by omega) e
      have HF : Hid (x.getD k default ≠ y.getD k default → decide (x = y) = false) := fun e => decide_eq_false (fun e2 => e (by rw [e2]))
      obtain ⟨u, hu⟩ : ∃ u, x.getD k default = u := ⟨_, rfl⟩
      obtain ⟨v, hv⟩ : ∃ v, y.getD k default = v := ⟨_, rfl⟩
      rw [hu] at c0 c1 c2 l1 l2 HT HF hu1
      rw [hv] at d0 d1 d2 m1 m2 HT HF hv1
      clear hu hv x1 x2 x3 y1 y2 y3
      obtain ⟨us, uw, up⟩ := u
      obtain ⟨vs, vw, vp⟩ := v
      simp only at c0 c1 c2 l1 l2 d0 d1 d2 m1 m2 hu1 hv1
      have HI1 : Hid (∀ W, Below wr.heap.size wr W → Calls Tryz.prog 30 #[.slice wa uw.length wc, .slice va vw.length vc] W fun e w' => e = .returned (.bool (decide (uw = vw))) ∧ Below wr.heap.size wr w') := fun W hb => (rints_any wa va uw vw wc vc hu1.1 hv1.1 W (IIn.below l1 hb) (IIn.below m1 hb)).mono fun e w' g => ⟨g.1, hb.trans (g.2.mono hb.size)⟩
      have HI2 : Hid (∀ W, Below wr.heap.size wr W → Calls Tryz.prog 30 #[.slice pa up.length pc, .slice qa vp.length qc] W fun e w' => e = .returned (.bool (decide (up = vp))) ∧ Below wr.heap.size wr w') := fun W hb => (rints_any pa qa up vp pc qc hu1.2 hv1.2 W (IIn.below l2 hb) (IIn.below m2 hb)).mono fun e w' g => ⟨g.1, hb.trans (g.2.mono hb.size)⟩
      clear l1 l2 m1 m2 hu1 hv1
      go_wp2_with (fail)
      refine region_tail 10 (by kernel_rfl) (by kernel_rfl) ?_
      simp only [List.take_succ_cons, List.take_zero, List.drop_succ_cons, List.drop_zero]
      repeat still_step
      refine wpStill_nil ?_
      go_wp2_with (fail)
      refine Calls.mono (HI1.out _ (Below.refl _ _).drew) ?_
      rintro e w1 ⟨rfl, hb1⟩
      have e0 := (hb1.cell (lt_of_cell c0)).trans c0
      have e1 := (hb1.cell (lt_of_cell c2)).trans c2
      have f0 := (hb1.cell (lt_of_cell d0)).trans d0
      have f1 := (hb1.cell (lt_of_cell d2)).trans d2
      go_wp2_with (fail)
      refine region_tail 10 (by kernel_rfl) (by kernel_rfl) ?_
      simp only [List.take_succ_cons, List.take_zero, List.drop_succ_cons, List.drop_zero]
      repeat still_step
      refine wpStill_nil ?_
      go_wp2_with (fail)
      refine Calls.mono (HI2.out _ hb1.drew) ?_
      rintro e w2 ⟨rfl, hb2⟩
      have g0 := (hb2.cell (lt_of_cell c0)).trans c0
      have g1 := (hb2.cell (lt_of_cell d0)).trans d0
      have hB2 : Below w.heap.size w w2 := hbr.trans (hb2.mono hbr.size)
      clear c0 c1 c2 d0 d1 d2 e0 e1 f0 f1 hb1 hb2 HI1 HI2
      by_cases q1 : us = vs
      · subst q1
        by_cases q2 : uw = vw
        · subst q2
          by_cases q3 : up = vp
          · subst q3
            have ht' : Hid (x.take (k + 1) = y.take (k + 1)) := HT.out rfl
            clear HT HF
            go_wp2
            go_region
            all_goals go_wp2
            all_goals go_roundw
            case rel => exact ⟨k + 1, by omega, ht', by go_num, hB2.drew⟩
            case measure => simp [intOf]; omega
          · have HE : Hid (decide (x = y) = false) := HF.out (by simpa using q3)
            rw [decide_eq_false q3]
            clear HT HF q3
            go_wp2
            go_region
            all_goals go_wp2
            all_goals go_ret
            all_goals exact ⟨congrArg (fun b => Ending.returned (.bool b)) HE.out.symm, hB2.drew⟩
        · have HE : Hid (decide (x = y) = false) := HF.out (fun e => q2 (by simp only [Oc.mk.injEq] at e; exact e.2.1))
          rw [decide_eq_false q2]
          clear HT HF q2
          go_wp2
          go_region
          all_goals go_wp2
          all_goals go_ret
          all_goals exact ⟨congrArg (fun b => Ending.returned (.bool b)) HE.out.symm, hB2.drew⟩
      · have HE : Hid (decide (x = y) = false) := HF.out (fun e => q1 (by simp only [Oc.mk.injEq] at e; exact e.1))
        have q1' : (us != vs) = true := by simpa using q1
        obtain ⟨bw, hbw⟩ : ∃ b, decide (uw = vw) = b := ⟨_, rfl⟩
        obtain ⟨bp, hbp⟩ : ∃ b, decide (up = vp) = b := ⟨_, rfl⟩
        rw [hbw, hbp]
        clear HT HF q1 hbw hbp HX HY ht
        go_wp2
        go_region
        all_goals go_wp2
        all_goals go_ret
        all_goals exact ⟨congrArg (fun b => Ending.returned (.bool b)) HE.out.symm, hB2.drew⟩
    · have HE : Hid (decide (x = y) = true) := decide_eq_true (by
        have := ht.out
        rwa [List.take_of_length_le (by rw [HX.out.2.2]; omega), List.take_of_length_le (by rw [HY.out.2.2]; omega)] at this)
      go_wp2
      go_ret
      exact ⟨congrArg (fun b => Ending.returned (.bool b)) HE.out.symm, hbr⟩
end

end Go.Proofs.YtipdnfpomdcenabGreatDoor
