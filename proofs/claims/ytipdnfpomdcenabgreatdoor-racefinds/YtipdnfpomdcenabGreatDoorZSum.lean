/-
  The document's sum of numbers; whether two lists are the same, which comes first; the order of outcomes.
  The numbers that a state of the document is.
-/
import Derived.Test.YtipdnfpomdcenabGreatDoorSameI
import Derived.Test.YtipdnfpomdcenabGreatDoorSpaceP
import Derived.Test.YtipdnfpomdcenabGreatDoorRead
import Derived.Test.YtipdnfpomdcenabGreatDoorRBegin
import Derived.Test.YtipdnfpomdcenabGreatDoorRDoP
import Derived.BigRegion
namespace Go.Proofs.YtipdnfpomdcenabGreatDoor
section
open Go.RowKit

theorem bits_pos (op : BinOp) (x y : Int) : 0 ≤ bits op .u64 x y := by
  unfold bits
  simp only [IntKind.wrap_u64]
  exact Int.emod_nonneg _ (by decide)
def sumS (q x : Int) : Int := bits .xor .u64 (IntKind.u64.wrap (bits .xor .u64 q (IntKind.u64.wrap x) * 1099511628211)) (IntKind.u64.wrap (bits .xor .u64 q (IntKind.u64.wrap x) * 1099511628211) / 536870912)
def sumH (l : List Int) : Nat → Int
  | 0 => l.length
  | k + 1 => sumS (sumH l k) (l.getD k 0)
theorem sumH_pos (l : List Int) : ∀ k, 0 ≤ sumH l k
  | 0 => Int.natCast_nonneg _
  | k + 1 => by unfold sumH sumS; exact bits_pos _ _ _
/-- The document's sum of numbers: from 0 to 4095. -/
def sumL (l : List Int) : Nat := (sumH l l.length).toNat % 4096
theorem sumL_lt (l : List Int) : sumL l < 4096 := Nat.mod_lt _ (by decide)
set_option maxHeartbeats 1600000 in
theorem sum_any (a : Option Addr) (l : List Int) (c : Nat) (hn : l.length ≤ 100000) (w : World) (h : IIn w a l.length (fun i => l.getD i 0)) :
    Calls Tryz.prog 92 #[.slice a l.length c] w fun e w' => e = .returned (.int .i64 (sumL l : Nat)) ∧ w' = w := by
  go_enter Tryz.func92, Tryz.ntmps92
  go_wp2
  go_loop [3, 4] (fun s i => ∃ (q : Int) (k : Nat), k ≤ l.length ∧ Hid (q = sumH l k) ∧ s = .int .u64 q ∧ i = .int .i64 k) (fun _ i => l.length - (intOf i).toNat)
  case atStart => exact ⟨_, 0, Nat.zero_le _, rfl, rfl, rfl⟩
  case round =>
    obtain ⟨q, k, hk, hq, rfl, rfl⟩ := hrel
    by_cases hlt : k < l.length
    · obtain ⟨cb, co, rfl, hcell⟩ := h k hlt
      go_wp2
      go_round
      case rel =>
        refine ⟨_, k + 1, by omega, ?_, rfl, by go_num⟩
        show _ = sumS (sumH l k) (l.getD k 0)
        rw [← hq.out, List.getD_eq_getElem?_getD, List.getElem?_eq_getElem hlt]
        rfl
      case measure => simp [intOf]; omega
    · obtain rfl : k = l.length := by omega
      have hp := sumH_pos l l.length
      have e : wrap64 (q.tmod 4096) = (sumL l : Nat) := by
        rw [← hq.out] at hp
        have h1 : q.tmod 4096 = (sumL l : Nat) := by
          unfold sumL
          rw [← hq.out, Int.tmod_eq_emod_of_nonneg hp]
          omega
        rw [h1]
        have := sumL_lt l
        unfold wrap64; omega
      have HE := Hid.out (p := Hid _) e
      clear hp e
      go_wp2
      go_ret
      exact ⟨congrArg (fun n => Ending.returned (.int .i64 n)) HE.out, rfl⟩

/-- A list of numbers, all of it, lies in w. -/
abbrev LI (w : World) (a : Option Addr) (x : List Int) : Prop := IIn w a x.length (fun i => x.getD i 0)
theorem getD_lt {x : List Int} {k : Nat} (h : k < x.length) : x.getD k 0 = x[k] := by rw [List.getD_eq_getElem?_getD, List.getElem?_eq_getElem h]; rfl
theorem take_ext {x y : List Int} {k : Nat} (h : x.take k = y.take k) (h1 : k < x.length) (h2 : k < y.length) (e : x.getD k 0 = y.getD k 0) : x.take (k + 1) = y.take (k + 1) := by
  rw [List.take_add_one, List.take_add_one, h, List.getElem?_eq_getElem h1, List.getElem?_eq_getElem h2, ← getD_lt h1, ← getD_lt h2, e]
theorem lex_drop : ∀ {k : Nat} {x y : List Int}, x.take k = y.take k → lexL x y = lexL (x.drop k) (y.drop k)
  | 0, _, _, _ => rfl
  | k + 1, [], [], _ => rfl
  | k + 1, [], _ :: _, h => by cases h
  | k + 1, _ :: _, [], h => by cases h
  | k + 1, a :: x, b :: y, h => by
    simp only [List.take_succ_cons, List.cons.injEq] at h
    obtain ⟨rfl, h⟩ := h
    show (if a = a then lexL x y else _) = _
    rw [if_pos rfl]
    exact lex_drop h
theorem lex_at {k : Nat} {x y : List Int} (h : x.take k = y.take k) (h1 : k < x.length) (h2 : k < y.length) (e : x.getD k 0 ≠ y.getD k 0) : lexL x y = decide (x.getD k 0 < y.getD k 0) := by
  rw [lex_drop h, List.drop_eq_getElem_cons h1, List.drop_eq_getElem_cons h2, getD_lt h1, getD_lt h2]
  rw [getD_lt h1, getD_lt h2] at e
  show (if x[k] = y[k] then _ else _) = _
  rw [if_neg e]
theorem lex_end {k : Nat} {x y : List Int} (h : x.take k = y.take k) (hk : x.length ≤ k ∨ y.length ≤ k) (hx : k ≤ x.length) (hy : k ≤ y.length) : lexL x y = decide (x.length < y.length) := by
  rw [lex_drop h]
  rcases hk with hk | hk
  · rw [List.drop_of_length_le hk]
    cases hd : y.drop k with
    | nil =>
      have := congrArg List.length hd
      simp only [List.length_drop, List.length_nil] at this
      rw [show decide (x.length < y.length) = false from decide_eq_false (by omega)]
      rfl
    | cons a r =>
      have := congrArg List.length hd
      simp only [List.length_drop, List.length_cons] at this
      rw [show decide (x.length < y.length) = true from decide_eq_true (by omega)]
      rfl
  · rw [List.drop_of_length_le hk, show decide (x.length < y.length) = false from decide_eq_false (by omega)]
    cases x.drop k <;> rfl
set_option maxHeartbeats 1600000 in
theorem less_any (a b : Option Addr) (x y : List Int) (c d : Nat) (hn : x.length ≤ 100000) (_hm : y.length ≤ 100000) (w : World) (h : LI w a x) (h' : LI w b y) :
    Calls Tryz.prog 82 #[.slice a x.length c, .slice b y.length d] w fun e w' => e = .returned (.bool (lexL x y)) ∧ Below w.heap.size w w' := by
  go_enter Tryz.func82, Tryz.ntmps82
  go_wp2
  go_loopw [5] (fun i wr => ∃ k : Nat, k ≤ x.length ∧ k ≤ y.length ∧ Hid (x.take k = y.take k) ∧ i = .int .i64 k ∧ Below w.heap.size w wr) (fun i _ => x.length - (intOf i).toNat)
  case atStart => exact ⟨0, Nat.zero_le _, Nat.zero_le _, rfl, rfl, Below.refl _ _⟩
  case round =>
    obtain ⟨k, hk, hk', ht, rfl, hbr⟩ := hrel
    by_cases hlt : k < x.length
    · by_cases hlt' : k < y.length
      · obtain ⟨b1, o1, rfl, hc⟩ := h.below hbr k hlt
        obtain ⟨b2, o2, rfl, hc'⟩ := h'.below hbr k hlt'
        by_cases he : x.getD k 0 = y.getD k 0
        · have ht' : Hid (x.take (k + 1) = y.take (k + 1)) := take_ext ht.out hlt hlt' he
          simp only [he] at hc
          clear he
          go_wp2
          go_region
          all_goals go_wp2
          all_goals go_roundw
          case rel => exact ⟨k + 1, by omega, by omega, ht', by go_num, hbr.drew⟩
          case measure => simp [intOf]; omega
        · have HE : Hid (lexL x y = decide (x.getD k 0 < y.getD k 0)) := lex_at ht.out hlt hlt' he
          obtain ⟨u, hu⟩ : ∃ u, x.getD k 0 = u := ⟨_, rfl⟩
          obtain ⟨v, hv⟩ : ∃ v, y.getD k 0 = v := ⟨_, rfl⟩
          simp only [hu] at hc
          simp only [hv] at hc'
          rw [hu, hv] at HE he
          clear hu hv
          go_wp2
          go_region
          all_goals go_wp2
          all_goals go_region
          all_goals go_wp2
          all_goals go_ret
          all_goals exact ⟨congrArg (fun b => Ending.returned (.bool b)) HE.out.symm, hbr.drew.drew⟩
      · have HE : Hid (lexL x y = decide (x.length < y.length)) := lex_end ht.out (Or.inr (by omega)) hk hk'
        go_wp2
        go_ret
        exact ⟨congrArg (fun b => Ending.returned (.bool b)) (by rw [HE.out]), hbr⟩
    · have HE : Hid (lexL x y = decide (x.length < y.length)) := lex_end ht.out (Or.inl (by omega)) hk hk'
      go_wp2
      go_ret
      exact ⟨congrArg (fun b => Ending.returned (.bool b)) (by rw [HE.out]), hbr⟩

set_option maxHeartbeats 1600000 in
/-- Whether two lists are the same. -/
theorem rints_any (a b : Option Addr) (x y : List Int) (c d : Nat) (hn : x.length ≤ 100000) (_hm : y.length ≤ 100000) (w : World) (h : LI w a x) (h' : LI w b y) :
    Calls Tryz.prog 30 #[.slice a x.length c, .slice b y.length d] w fun e w' => e = .returned (.bool (decide (x = y))) ∧ Below w.heap.size w w' := by
  by_cases hl : x.length = y.length
  rotate_left
  · have HE : Hid (decide (x = y) = false) := decide_eq_false (fun e => hl (by rw [e]))
    have hl' : ¬ (x.length : Int) = y.length := by omega
    go_enter Tryz.func30, Tryz.ntmps30
    go_wp2
    go_ret
    exact ⟨congrArg (fun b => Ending.returned (.bool b)) HE.out.symm, Below.refl _ _⟩
  obtain ⟨n, hx⟩ : ∃ n, x.length = n := ⟨_, rfl⟩
  have hy : y.length = n := by omega
  have hn' : n ≤ 100000 := by omega
  have h1 : IIn w a n (fun i => x.getD i 0) := by rw [← hx]; exact h
  have h2 : IIn w b n (fun i => y.getD i 0) := by rw [← hy]; exact h'
  have HX : Hid (x.length = n) := hx
  have HY : Hid (y.length = n) := hy
  rw [hx, hy]
  clear h h' hx hy hl hn _hm
  go_enter Tryz.func30, Tryz.ntmps30
  go_wp2
  go_loopw [5] (fun i wr => ∃ k : Nat, k ≤ n ∧ Hid (x.take k = y.take k) ∧ i = .int .i64 k ∧ Below w.heap.size w wr) (fun i _ => n - (intOf i).toNat)
  case atStart => exact ⟨0, Nat.zero_le _, rfl, rfl, Below.refl _ _⟩
  case round =>
    obtain ⟨k, hk, ht, rfl, hbr⟩ := hrel
    by_cases hlt : k < n
    · obtain ⟨b1, o1, rfl, hc⟩ := h1.below hbr k hlt
      obtain ⟨b2, o2, rfl, hc'⟩ := h2.below hbr k hlt
      by_cases he : x.getD k 0 = y.getD k 0
      · have ht' : Hid (x.take (k + 1) = y.take (k + 1)) := take_ext ht.out (by rw [HX.out]; exact hlt) (by rw [HY.out]; exact hlt) he
        simp only [he] at hc
        clear he
        go_wp2
        go_region
        all_goals go_wp2
        all_goals go_roundw
        case rel => exact ⟨k + 1, by omega, ht', by go_num, hbr.drew⟩
        case measure => simp [intOf]; omega
      · have HE : Hid (decide (x = y) = false) := decide_eq_false (fun e => he (by rw [e]))
        obtain ⟨u, hu⟩ : ∃ u, x.getD k 0 = u := ⟨_, rfl⟩
        obtain ⟨v, hv⟩ : ∃ v, y.getD k 0 = v := ⟨_, rfl⟩
        simp only [hu] at hc
        simp only [hv] at hc'
        rw [hu, hv] at he
        clear hu hv
        go_wp2
        go_region
        all_goals go_wp2
        all_goals go_ret
        all_goals exact ⟨congrArg (fun b => Ending.returned (.bool b)) HE.out.symm, hbr.drew⟩
    · have HE : Hid (decide (x = y) = true) := decide_eq_true (by
        have := ht.out
        rwa [List.take_of_length_le (by rw [HX.out]; omega), List.take_of_length_le (by rw [HY.out]; omega)] at this)
      go_wp2
      go_ret
      exact ⟨congrArg (fun b => Ending.returned (.bool b)) HE.out.symm, hbr⟩

/-- An outcome as a value. -/
abbrev ocV (st : Int) (wa : Option Addr) (wl wc : Nat) (pa : Option Addr) (pl pc : Nat) : Value := .agg #[.int .i64 st, .slice wa wl wc, .slice pa pl pc]

/-- An outcome lies in w. -/
structure OcAt (w : World) (v : Value) (o : Oc) : Prop where
  ex : ∃ wa wc pa pc, v = ocV o.st wa o.ws.length wc pa o.pr.length pc ∧ LI w wa o.ws ∧ LI w pa o.pr
set_option maxHeartbeats 1600000 in
theorem ahead_any (w : World) (u v : Value) (a b : Oc) (hu : OcAt w u a) (hv : OcAt w v b) (h1 : a.ws.length ≤ 100000) (h2 : b.ws.length ≤ 100000) (h3 : a.pr.length ≤ 100000) (h4 : b.pr.length ≤ 100000) :
    Calls Tryz.prog 94 #[u, v] w fun e w' => e = .returned (.bool (aheadO a b)) ∧ Below w.heap.size w w' := by
  obtain ⟨wa, wc, pa, pc, rfl, k1, k2⟩ := hu.ex
  obtain ⟨va, vc, qa, qc, rfl, k3, k4⟩ := hv.ex
  clear hu hv
  obtain ⟨sa, ws, pr⟩ := a
  obtain ⟨sb, vs, qr⟩ := b
  simp only at h1 h2 h3 h4 k1 k2 k3 k4 ⊢
  obtain ⟨UC, hUC⟩ : ∃ o : Obj, o = .cells #[.int .i64 sa, .slice wa ws.length wc, .slice pa pr.length pc] 50 := ⟨_, rfl⟩
  obtain ⟨VC, hVC⟩ : ∃ o : Obj, o = .cells #[.int .i64 sb, .slice va vs.length vc, .slice qa qr.length qc] 50 := ⟨_, rfl⟩
  have HB0 : Below w.heap.size w ((w.alloc UC).alloc VC) := ((Below.refl _ _).alloc (Nat.le_refl _) _).alloc (by simp) _
  have b1 : ((w.alloc UC).alloc VC).heap[w.heap.size]? = some UC := box_later (heap_alloc_new _ _) _
  have b2 : ((w.alloc UC).alloc VC).heap[w.heap.size + 1]? = some VC := by have := heap_alloc_new (w.alloc UC) VC; rwa [World.size_alloc] at this
  have HI : Hid (Calls Tryz.prog 30 #[.slice wa ws.length wc, .slice va vs.length vc] ((w.alloc UC).alloc VC) fun e w' => e = .returned (.bool (decide (ws = vs))) ∧ Below ((w.alloc UC).alloc VC).heap.size ((w.alloc UC).alloc VC) w') := rints_any wa va ws vs wc vc h1 h2 _ (IIn.below k1 HB0) (IIn.below k3 HB0)
  have HL1 : Hid (∀ W, Below ((w.alloc UC).alloc VC).heap.size ((w.alloc UC).alloc VC) W → Calls Tryz.prog 82 #[.slice wa ws.length wc, .slice va vs.length vc] W fun e w' => e = .returned (.bool (lexL ws vs)) ∧ Below w.heap.size w w') := fun W hb => (less_any wa va ws vs wc vc h1 h2 W (IIn.below (IIn.below k1 HB0) hb) (IIn.below (IIn.below k3 HB0) hb)).mono fun e w' g => ⟨g.1, (HB0.trans (hb.mono HB0.size)).trans (g.2.mono (HB0.trans (hb.mono HB0.size)).size)⟩
  have HL2 : Hid (∀ W, Below ((w.alloc UC).alloc VC).heap.size ((w.alloc UC).alloc VC) W → Calls Tryz.prog 82 #[.slice pa pr.length pc, .slice qa qr.length qc] W fun e w' => e = .returned (.bool (lexL pr qr)) ∧ Below w.heap.size w w') := fun W hb => (less_any pa qa pr qr pc qc h3 h4 W (IIn.below (IIn.below k2 HB0) hb) (IIn.below (IIn.below k4 HB0) hb)).mono fun e w' g => ⟨g.1, (HB0.trans (hb.mono HB0.size)).trans (g.2.mono (HB0.trans (hb.mono HB0.size)).size)⟩
  have HC : Hid (∀ W, Below ((w.alloc UC).alloc VC).heap.size ((w.alloc UC).alloc VC) W → (W.cell? ⟨w.heap.size, 1, none⟩ = some (.slice wa ws.length wc) ∧ W.cell? ⟨w.heap.size, 2, none⟩ = some (.slice pa pr.length pc)) ∧ W.cell? ⟨w.heap.size + 1, 1, none⟩ = some (.slice va vs.length vc) ∧ W.cell? ⟨w.heap.size + 1, 2, none⟩ = some (.slice qa qr.length qc)) := fun W hb => by
    have k1 := ((hb.block _ (by simp; omega)).trans b1).trans (congrArg some hUC)
    have k2 := ((hb.block _ (by simp)).trans b2).trans (congrArg some hVC)
    exact ⟨⟨box_cell k1 rfl, box_cell k1 rfl⟩, box_cell k2 rfl, box_cell k2 rfl⟩
  have HBH := Hid.out (p := Hid _) HB0
  rw [hUC, hVC] at HI HL1 HL2 HC HBH
  clear k1 k2 k3 k4 HB0 b1 b2 hUC hVC h1 h2 h3 h4
  by_cases hst : sa = sb
  rotate_left
  · have HE : Hid (aheadO ⟨sa, ws, pr⟩ ⟨sb, vs, qr⟩ = decide (sa < sb)) := if_pos hst
    go_enter Tryz.func94, Tryz.ntmps94
    go_wp2
    go_ret
    exact ⟨congrArg (fun b => Ending.returned (.bool b)) HE.out.symm, HBH.out⟩
  subst hst
  by_cases hws : ws = vs
  · have HE : Hid (aheadO ⟨sa, ws, pr⟩ ⟨sa, vs, qr⟩ = lexL pr qr) := by
      show _ = _
      unfold aheadO
      rw [if_neg (by simp), if_neg (by simpa using hws)]
    have HD : Hid (decide (ws = vs) = true) := decide_eq_true hws
    clear hws
    go_enter Tryz.func94, Tryz.ntmps94
    go_wp2_with (fail)
    refine Calls.mono HI.out ?_
    rintro e w1 ⟨rfl, hb1⟩
    rw [HD.out]
    obtain ⟨⟨_, c2⟩, _, c4⟩ := HC.out w1 hb1
    have HL := Hid.out (p := Hid _) (HL2.out w1 hb1)
    clear hb1 HI HL1 HL2 HC
    go_wp2_with (fail)
    refine Calls.mono HL.out ?_
    rintro e w2 ⟨rfl, hb2⟩
    go_wp2
    go_ret
    exact ⟨congrArg (fun b => Ending.returned (.bool b)) HE.out.symm, hb2⟩
  · have HE : Hid (aheadO ⟨sa, ws, pr⟩ ⟨sa, vs, qr⟩ = lexL ws vs) := by
      show _ = _
      unfold aheadO
      rw [if_neg (by simp), if_pos hws]
    have HD : Hid (decide (ws = vs) = false) := decide_eq_false hws
    clear hws
    go_enter Tryz.func94, Tryz.ntmps94
    go_wp2_with (fail)
    refine Calls.mono HI.out ?_
    rintro e w1 ⟨rfl, hb1⟩
    rw [HD.out]
    obtain ⟨⟨c1, _⟩, c3, _⟩ := HC.out w1 hb1
    have HL := Hid.out (p := Hid _) (HL1.out w1 hb1)
    clear hb1 HI HL1 HL2 HC
    go_wp2_with (fail)
    refine Calls.mono HL.out ?_
    rintro e w2 ⟨rfl, hb2⟩
    go_wp2
    go_ret
    exact ⟨congrArg (fun b => Ending.returned (.bool b)) HE.out.symm, hb2⟩
end

section
open Go.RowKit

/-- 'append(l, src...)': numbers behind a list of one's own. -/
theorem app_all {W : World} {B : Nat} {a : Option Addr} {len c : Nat} {xs ys : List Int} {sa : Option Addr} {sc : Nat} (h : IsI W B a len c xs) (hB : B ≤ W.heap.size) (hs : LI W sa ys) (hl : len + ys.length ≤ 1000000) :
    ∃ a' cap w3, (AppS #[23, 23] 23 #[.slice a len c, .slice sa ys.length sc]).run Tryz.prog W = .ok (.slice a' (len + ys.length) cap) w3 ∧ IsI w3 B a' (len + ys.length) cap (xs ++ ys) ∧ W.grownBy w3 (Value.slice a len c).ownBlock := by
  obtain ⟨i, hi, hz0, hz1, hz2⟩ := info_is infoI
  cases ys with
  | nil =>
    refine ⟨a, c, W, ?_, by simpa using h, ⟨rfl, rfl, rfl, Nat.le_refl _, fun _ _ _ => rfl⟩⟩
    have hsr : Src Tryz.prog i.size 23 (.slice sa 0 sc) 0 [] W := by
      cases sa with
      | none => exact Src.ofNil _ Tryz.underlying23 sc
      | some a => exact Src.ofSlice _ Tryz.underlying23 a 0 sc [] (by simp) (fun j u h => by simp at h) (fun u h => by cases h)
    rcases h.own.2 with ⟨h0, h1⟩ | ⟨g, cap, cur, hv, hg, hh, h2, h3, h4, h5⟩
    · simp only [Value.slice.injEq] at h0
      obtain ⟨rfl, rfl, rfl⟩ := h0
      rcases hsr.kind with ⟨e', hk⟩ | hk <;> simp [AppS, Builtin.append_, run_underlying Tryz.underlying23, sizeOf, typeInfo, hi, hsr.len, hsr.cells]
    · simp only [Value.slice.injEq] at hv
      obtain ⟨rfl, _, rfl⟩ := hv
      exact run_append_room_src (P := Tryz.prog) W 23 23 23 3 i Tryz.underlying23 hi g 0 len c (.slice sa 0 sc) 0 [] hsr h2 (fun j h => by simp at h) (fun j h => by simp at h)
  | cons y r =>
    obtain ⟨b, o, rfl, _⟩ := hs 0 (by simp)
    have hnews : ∀ j u, (intsV (y :: r))[j]? = some u → W.cell? ((⟨b, o, none⟩ : Addr).add j) = some u := fun j u hu => by
      have hj : j < (y :: r).length := by
        rcases Nat.lt_or_ge j (y :: r).length with h | h
        · exact h
        · rw [List.getElem?_eq_none (by rw [intsV_len]; exact h)] at hu; cases hu
      obtain ⟨b', o', e, h1⟩ := hs j hj
      simp only [Option.some.injEq, Addr.mk.injEq, and_true] at e
      obtain ⟨rfl, rfl⟩ := e
      have hadd : (⟨b, o, none⟩ : Addr).add j = ⟨b, o + j, none⟩ := by unfold Addr.add; split <;> simp_all
      rw [intsV_at hj] at hu
      rw [hadd, h1]
      exact hu
    obtain ⟨g, cap, w3, r1, r2, r3, _, _⟩ := run_append_lies (P := Tryz.prog) W 23 23 B 3 i _ 1 8 Tryz.underlying23 hi hz0 hz1 hz2 rfl (by omega) _ len (intsV xs) h.own ⟨b, o, none⟩ (y :: r).length sc (intsV (y :: r)) (by rw [intsV_len]; omega) hnews (intsV_one _) (by simp) (by unfold maxLen; omega) (by omega) hB W.heap.size rfl
    exact ⟨_, cap, w3, r1, ⟨by simp [h.is], by rw [show intsV (xs ++ y :: r) = intsV xs ++ intsV (y :: r) by simp [intsV]]; exact r2⟩, r3⟩

/-- 'append(l, x, y, ..)': some numbers behind a list of one's own. -/
theorem IsI.pushs {w W : World} {B : Nat} {a : Option Addr} {len c : Nat} {xs : List Int} (h : IsI w B a len c xs) (hb : Below w.heap.size w W) (hB : B ≤ w.heap.size) (ys : List Int) (hy : 0 < ys.length) (hlen : len + ys.length ≤ 1000000) :
    ∃ g cap w3, (AppS #[23, 23] 23 #[.slice a len c, .slice (some ⟨W.heap.size, 0, none⟩) ys.length ys.length]).run Tryz.prog (W.alloc (.cells (intsV ys).toArray 3)) = .ok (.slice (some ⟨g, 0, none⟩) (len + ys.length) cap) w3 ∧ IsI w3 B (some ⟨g, 0, none⟩) (len + ys.length) cap (xs ++ ys) ∧ Below w.heap.size w (W.alloc (.cells (intsV ys).toArray 3)) ∧ (W.alloc (.cells (intsV ys).toArray 3)).grownBy w3 (Value.slice a len c).ownBlock := by
  obtain ⟨g, cap, w3, r1, r2, r3, _⟩ := app_row (T := 23) Tryz.underlying23 infoI rfl (by omega) h.own hb hB ys.length (intsV ys).toArray (by simp [intsV_len]) (by simpa using intsV_one ys) hy hlen (by omega)
  exact ⟨g, cap, w3, r1, ⟨by simp [h.is], by rw [show intsV (xs ++ ys) = intsV xs ++ (intsV ys).toArray.toList by simp [intsV]]; exact r2⟩, hb.alloc hb.size _, r3⟩
theorem IsI.grew {w0 W w3 : World} {B : Nat} {a : Option Addr} {len c : Nat} {xs : List Int} (h : IsI W B a len c xs) (h0 : Below B w0 W) (hB : B ≤ W.heap.size) (hg : W.grownBy w3 (Value.slice a len c).ownBlock) : Below B w0 w3 := h0.grown hg hB (fun k hk => (h.own.lt k hk).1)

section
variable (s : Sx)
def numA (j : Nat) : List Int := (List.range j).flatMap fun t => numT (thOf s t)
def numK (j q : Nat) : List Int := numA s j ++ [((thOf s j).pc : Int), ((thOf s j).wait.length : Int)] ++ (thOf s j).regs ++ ((thOf s j).wait.take q).flatMap numW
theorem numA_succ (j : Nat) : numA s (j + 1) = numK s j (thOf s j).wait.length := by
  unfold numA numK numA
  rw [List.range_succ, List.flatMap_append, List.take_of_length_le (Nat.le_refl _)]
  simp [numT]
theorem numK_succ {j q : Nat} (hq : q < (thOf s j).wait.length) : numK s j (q + 1) = numK s j q ++ numW ((thOf s j).wait.getD q default) := by
  unfold numK
  rw [List.take_add_one, List.flatMap_append, List.getD_eq_getElem?_getD, List.getElem?_eq_getElem hq]
  simp
theorem ths_range : s.ths = (List.range s.ths.length).map (thOf s) := by
  refine List.ext_getElem? fun i => ?_
  rw [List.getElem?_map]
  rcases Nat.lt_or_ge i s.ths.length with h | h
  · rw [List.getElem?_range h, List.getElem?_eq_getElem h]
    simp [thOf, List.getD, List.getElem?_eq_getElem h]
  · rw [List.getElem?_eq_none h, List.getElem?_eq_none (by simpa using h)]; rfl
theorem numA_all : numA s s.ths.length = s.ths.flatMap numT := by
  unfold numA
  conv => rhs; rw [ths_range s]
  rw [List.flatMap_map]
theorem numK_len {j q rg : Nat} (hr : (thOf s j).regs.length = rg) (hq : q ≤ 3) : (numK s j q).length ≤ (numA s j).length + 11 + rg := by
  unfold numK
  have h1 : (((thOf s j).wait.take q).flatMap numW).length = ((thOf s j).wait.take q).length * 3 := by
    induction (thOf s j).wait.take q with
    | nil => rfl
    | cons x r ih => rw [List.flatMap_cons, List.length_append, ih, List.length_cons]; show 3 + _ = _; omega
  have h2 : ((thOf s j).wait.take q).length ≤ q := by rw [List.length_take]; omega
  simp only [List.length_append, h1, hr, List.length_cons, List.length_nil]
  omega
theorem numA_len {rg : Nat} (hr : ∀ t, t < s.ths.length → (thOf s t).regs.length = rg) (hw : ∀ t, t < s.ths.length → (thOf s t).wait.length ≤ 3) : ∀ j, j ≤ s.ths.length → (numA s j).length ≤ (11 + rg) * j
  | 0, _ => by simp [numA]
  | j + 1, hj => by
    rw [numA_succ]
    have h1 := numK_len s (hr j (by omega)) (hw j (by omega))
    have h2 := numA_len hr hw j (by omega)
    rw [Nat.mul_succ]
    omega
end

attribute [local go_sem ↓] appS_eq
set_option maxRecDepth 100000 in
set_option maxHeartbeats 3200000 in
theorem nums_any (w : World) (B sb : Nat) (P : Pg) (v : Rl → Value) (s : Sx) (L : Nat → Nat) (m lk rg : Nat) (hn0 : 0 < P.n) (hs : DSt w B P sb v s) (ho : SOk P.n L m lk rg P.mode s) (hN : P.n ≤ 4) (hm64 : m ≤ 64) (hlk4 : lk ≤ 4) (hrg : rg ≤ 200) (hpl : s.prints.length ≤ 100000) :
    Calls Tryz.prog 91 #[.pointer (some ⟨sb, 0, none⟩)] w fun e w' => ∃ a len c, e = .returned (.slice a len c) ∧ IsI w' w.heap.size a len c (numsX s) ∧ Below w.heap.size w w' := by
  have hl := ho.ths
  obtain ⟨tb, tc, hth, htb, _⟩ := hs.thrB (by omega)
  have c5 := hs.c5
  rw [hth, hl] at c5
  have HL : Hid (s.ths.length = P.n) := hl
  have HLEN : Hid (∀ j, j ≤ P.n → (numA s j).length ≤ (11 + rg) * j) := fun j hj => numA_len s (fun t ht => ho.regs t (by omega)) (fun t ht => ho.wlen t (by omega)) j (by omega)
  have HT : Hid (∀ t, t < P.n → ∃ ra rc qa qc, w.cell? ⟨tb, t * 3, none⟩ = some (.int .i64 (thOf s t).pc) ∧ w.cell? ⟨tb, t * 3 + 1, none⟩ = some (.slice ra (thOf s t).regs.length rc) ∧ w.cell? ⟨tb, t * 3 + 2, none⟩ = some (.slice qa (thOf s t).wait.length qc) ∧ (thOf s t).regs.length = rg ∧ (thOf s t).wait.length ≤ 3 ∧ LI w ra (thOf s t).regs ∧ WIn w qa (thOf s t).wait) := fun t ht => by
    obtain ⟨ra, rc, hr⟩ := hs.regsV t
    obtain ⟨qa, qc, hq⟩ := hs.waitV t
    refine ⟨ra, rc, qa, qc, hs.pc htb (by omega), by rw [← hr]; exact hs.regs htb (by omega), by rw [← hq]; exact hs.wait htb (by omega), ho.regs t ht, ho.wlen t ht, ?_, hs.win hq⟩
    exact IsI.iin (B := B) (c := rc) ⟨rfl, by have := hs.fam.own (.regs t); rw [hr] at this; exact this⟩
  obtain ⟨wa, wc, hwv⟩ := hs.wordsV
  obtain ⟨oa, oc, hov⟩ := hs.ownV
  obtain ⟨pa, pc, hpv⟩ := hs.printsV
  have hW : LI w wa s.words := IsI.iin (B := B) (c := wc) ⟨rfl, by have := hs.fam.own .words; rw [hwv] at this; exact this⟩
  have hO : LI w oa s.own := IsI.iin (B := B) (c := oc) ⟨rfl, by have := hs.fam.own .own; rw [hov] at this; exact this⟩
  have hR : LI w pa s.prints := IsI.iin (B := B) (c := pc) ⟨rfl, by have := hs.fam.own .prints; rw [hpv] at this; exact this⟩
  have c6 := hs.c6
  have c7 := hs.c7
  have c8 := hs.c8
  rw [hwv] at c6
  rw [hov] at c7
  rw [hpv] at c8
  have HW : Hid (LI w wa s.words ∧ LI w oa s.own ∧ LI w pa s.prints ∧ s.words.length = m ∧ s.own.length = lk) := ⟨hW, hO, hR, ho.words, ho.own⟩
  obtain ⟨n, hn⟩ : ∃ n, P.n = n := ⟨_, rfl⟩
  rw [hn] at HT c5 hN HL HLEN
  clear hn hs ho hl hth htb hn0 hW hO hR hwv hov hpv
  go_enter Tryz.func91, Tryz.ntmps91
  go_wp2_with fail
  go_loopw [3, 4] (fun l i wr => ∃ (j : Nat) (a : Option Addr) (len c : Nat), j ≤ n ∧ i = .int .i64 j ∧ l = .slice a len c ∧ Hid (IsI wr w.heap.size a len c (numA s j)) ∧ Below w.heap.size w wr) (fun _ i _ => n - (intOf i).toNat)
  case atStart => exact ⟨0, none, 0, 0, Nat.zero_le _, rfl, rfl, IsI.nil _ _, Below.refl _ _⟩
  case round =>
    obtain ⟨j, a, len, c, hj, rfl, rfl, HI, hbr⟩ := hrel
    have c5r := (hbr.cell (lt_of_cell c5)).trans c5
    by_cases hlt : j < n
    · obtain ⟨ra, rc, qa, qc, k0, k1, k2, hrl, hwl, hLR, hWI⟩ := HT.out j hlt
      have k0r := (hbr.cell (lt_of_cell k0)).trans k0
      have k1r := (hbr.cell (lt_of_cell k1)).trans k1
      have k2r := (hbr.cell (lt_of_cell k2)).trans k2
      obtain ⟨k, hk⟩ : ∃ m, (thOf s j).wait.length = m := ⟨_, rfl⟩
      obtain ⟨pcj, hpc⟩ : ∃ m : Nat, (thOf s j).pc = m := ⟨_, rfl⟩
      rw [hk] at k2r hwl
      rw [hpc] at k0r
      rw [hrl] at k1r
      obtain ⟨TC, hTC⟩ : ∃ o : Obj, o = .cells #[.int .i64 (pcj : Int), .slice ra rg rc, .slice qa k qc] 95 := ⟨_, rfl⟩
      have hlj : (numA s j).length ≤ (11 + rg) * j := HLEN.out j (by omega)
      have hlen : len ≤ 1000 := by
        have h1 := HI.out.is
        have h2 : (11 + rg) * j ≤ 211 * 4 := Nat.mul_le_mul (by omega) (by omega)
        omega
      have hBw : w.heap.size ≤ wr.heap.size := hbr.size
      have hb1 : Below wr.heap.size wr (wr.alloc TC) := (Below.refl _ _).alloc (Nat.le_refl _) _
      obtain ⟨g1, cap1, w3, hrun1, hI1, hb2, hg1⟩ := HI.out.pushs hb1 hBw [(pcj : Int), (k : Int)] (by simp) (by simp; omega)
      have hI0 := HI.out.below hb2
      have hT2 : ((wr.alloc TC).alloc (.cells (intsV [(pcj : Int), (k : Int)]).toArray 3)).heap[wr.heap.size]? = some TC := box_later (heap_alloc_new _ _) _
      have hB2 : Below w.heap.size w ((wr.alloc TC).alloc (.cells (intsV [(pcj : Int), (k : Int)]).toArray 3)) := hbr.trans (hb2.mono hbr.size)
      have hB3 := hI0.grew hB2 hB2.size hg1
      have HAP : Hid (∀ W a' len' c' xs', IsI W w.heap.size a' len' c' xs' → W.heap[wr.heap.size]? = some TC → (Value.slice a' len' c').ownBlock ≠ some wr.heap.size) := fun W a' len' c' xs' h1 h2 => own_type (t := 95) h1.own (h2.trans (congrArg some hTC)) (by decide)
      have hT3 : w3.heap[wr.heap.size]? = some TC := (hg1.block _ (by simp; omega) (fun e => HAP.out _ _ _ _ _ hI0 hT2 e.symm)).trans hT2
      have hz3 : wr.heap.size < w3.heap.size := box_lt hT3
      obtain ⟨a2, cap2, w4, hrun2, hI2, hg2⟩ := app_all (sc := rc) hI1 hB3.size (IIn.below hLR hB3) (by simp; omega)
      have hB4 := hI1.grew hB3 hB3.size hg2
      have hT4 : w4.heap[wr.heap.size]? = some TC := (hg2.block _ hz3 (fun e => HAP.out _ _ _ _ _ hI1 hT3 e.symm)).trans hT3
      have t0 := (hT3.trans (congrArg some hTC))
      have t1 : w3.cell? ⟨wr.heap.size, 1, none⟩ = some (.slice ra rg rc) := box_cell t0 rfl
      rw [hrl] at hrun2 hI2
      have HS : Hid (IsI w4 w.heap.size a2 (len + 2 + rg) cap2 (numK s j 0) ∧ Below w.heap.size w w4 ∧ w4.heap[wr.heap.size]? = some TC) := ⟨by
        have e : numK s j 0 = numA s j ++ [(pcj : Int), (k : Int)] ++ (thOf s j).regs := by simp [numK, hk, hpc]
        rw [e]; exact hI2, hB4, hT4⟩
      have HK : Hid ((thOf s j).wait.length = k ∧ WIn w qa (thOf s j).wait ∧ (numA s j).length ≤ 844 ∧ (thOf s j).regs.length = rg) := ⟨hk, hWI, by
        have h2 : (11 + rg) * j ≤ 211 * 4 := Nat.mul_le_mul (by omega) (by omega)
        omega, hrl⟩
      have hrun1' : (AppS #[23, 23] 23 #[.slice a len c, .slice (some ⟨wr.heap.size + 1, 0, none⟩) 2 2]).run Tryz.prog ((wr.alloc (.cells #[.int .i64 (pcj : Int), .slice ra rg rc, .slice qa k qc] 95)).alloc (.cells #[.int .i64 (pcj : Int), .int .i64 (k : Int)] 3)) = .ok (.slice (some ⟨g1, 0, none⟩) (len + 2) cap1) w3 := by
        rw [hTC] at hrun1
        simpa [intsV] using hrun1
      simp only [List.length_cons, List.length_nil, Nat.zero_add, Nat.reduceAdd] at hrun2
      have HTC := Hid.out (p := Hid _) hTC
      clear hI0 hI1 hI2 hB2 hB3 hB4 hT2 hT3 hT4 hg1 hg2 hb1 hb2 hrun1 t0 hWI hLR hk hpc hrl hTC HI hlj hlen k0 k1 k2 HT
      go_wp2_with fail
      go_loopw [3, 6] (fun l i wr2 => ∃ (q : Nat) (a : Option Addr) (len c : Nat), q ≤ k ∧ i = .int .i64 q ∧ l = .slice a len c ∧ Hid (IsI wr2 w.heap.size a len c (numK s j q) ∧ Below w.heap.size w wr2 ∧ wr2.heap[wr.heap.size]? = some TC)) (fun _ i _ => k - (intOf i).toNat)
      case atStart => exact ⟨0, _, _, _, Nat.zero_le _, rfl, rfl, HS⟩
      case round =>
        obtain ⟨q, a5, len5, c5', hq, rfl, rfl, HI5⟩ := hrel
        have u2 := box_cell (i := 2) (HI5.out.2.2.trans (congrArg some HTC.out)) rfl
        by_cases hqk : q < k
        · obtain ⟨qb, qo, rfl, x0, x1, x2⟩ := (HK.out.2.1.below HI5.out.2.1) q (by rw [HK.out.1]; exact hqk)
          have hlen5 : len5 ≤ 2000 := by
            have h1 := HI5.out.1.is
            have h2 := numK_len s HK.out.2.2.2 (q := q) (by omega)
            have h3 := HK.out.2.2.1
            omega
          have HN : Hid (numK s j (q + 1) = numK s j q ++ numW ((thOf s j).wait.getD q default)) := numK_succ s (by rw [HK.out.1]; exact hqk)
          obtain ⟨y, hy⟩ : ∃ y, (thOf s j).wait.getD q default = y := ⟨_, rfl⟩
          rw [hy] at x0 x1 x2 HN
          clear hy
          obtain ⟨yl, yw, yv⟩ := y
          simp only at x0 x1 x2
          have hB5 := HI5.out.2.1
          have hBs := hB5.size
          obtain ⟨g6, cap6, w6, hrun6, hI6, hb6, hg6⟩ := HI5.out.1.pushs (Below.refl _ _).drew hBs [bitI yl, yw, yv] (by simp) (by simp; omega)
          have hI7 := HI5.out.1.below hb6
          have hB6 := hI7.grew (hB5.trans (hb6.mono hBs)) (by have := hb6.size; omega) hg6
          have hT6 := (hb6.block _ (box_lt HI5.out.2.2)).trans HI5.out.2.2
          have hT7 := (hg6.block _ (box_lt hT6) (fun e => HAP.out _ _ _ _ _ hI7 hT6 e.symm)).trans hT6
          have HS6 : Hid (IsI w6 w.heap.size (some ⟨g6, 0, none⟩) (len5 + 3) cap6 (numK s j (q + 1)) ∧ Below w.heap.size w w6 ∧ w6.heap[(_ : Nat)]? = some TC) := ⟨by rw [HN.out]; exact hI6, hB6, hT7⟩
          clear hI6 hI7 hB6 hT6 hT7 hb6 hg6 HN hB5
          have v2 := cell_up u2
          have v3 := cell_up x1
          have v4 := cell_up x2
          cases yl with
          | false =>
            simp only [bitI, Bool.false_eq_true, if_false, intsV, List.map_cons, List.map_nil, List.length_cons, List.length_nil, Nat.zero_add, Nat.reduceAdd, World.size_drew] at hrun6
            have hrun7 : (AppS #[23, 23] 23 #[.slice a5 len5 c5', .slice (some ⟨wr.heap.size, 0, none⟩) 3 3]).run Tryz.prog (wr.alloc (.cells #[.int .i64 0, .int .i64 yw, .int .i64 yv] 3)).drew = .ok (.slice (some ⟨g6, 0, none⟩) (len5 + 3) cap6) w6 := hrun6
            clear hrun6 hrun1' hrun2 HS HI5
            go_wp2
            go_region
            all_goals go_wp2
            all_goals go_roundw
            case rel => exact ⟨q + 1, _, _, _, by omega, by go_num, rfl, HS6⟩
            case measure => simp [intOf]; omega
          | true =>
            simp only [bitI, if_true, intsV, List.map_cons, List.map_nil, List.length_cons, List.length_nil, Nat.zero_add, Nat.reduceAdd, World.size_drew] at hrun6
            have hrun7 : (AppS #[23, 23] 23 #[.slice a5 len5 c5', .slice (some ⟨wr.heap.size, 0, none⟩) 3 3]).run Tryz.prog (wr.alloc (.cells #[.int .i64 1, .int .i64 yw, .int .i64 yv] 3)).drew = .ok (.slice (some ⟨g6, 0, none⟩) (len5 + 3) cap6) w6 := hrun6
            clear hrun6 hrun1' hrun2 HS HI5
            go_wp2
            go_region
            all_goals go_wp2
            all_goals go_roundw
            case rel => exact ⟨q + 1, _, _, _, by omega, by go_num, rfl, HS6⟩
            case measure => simp [intOf]; omega
        · obtain rfl : q = k := by omega
          clear hrun1' hrun2 HS
          go_wp2
          go_roundw
          case rel => exact ⟨j + 1, _, _, _, by omega, by go_num, rfl, by rw [numA_succ, HK.out.1]; exact HI5.out.1, HI5.out.2.1⟩
          case measure => simp [intOf]; omega
    · obtain rfl : j = n := by omega
      have c6r := (hbr.cell (lt_of_cell c6)).trans c6
      have c7r := (hbr.cell (lt_of_cell c7)).trans c7
      have c8r := (hbr.cell (lt_of_cell c8)).trans c8
      obtain ⟨hW, hO, hR, hwm, hol⟩ := HW.out
      have hlen : len ≤ 1000 := by
        have h1 := HI.out.is
        have h0 := HLEN.out j (by omega)
        have h2 : (11 + rg) * j ≤ 211 * 4 := Nat.mul_le_mul (by omega) (by omega)
        omega
      have hHI := HI.out
      rw [← HL.out, numA_all] at hHI
      obtain ⟨a1, cap1, w1, hrun1, hI1, hg1⟩ := app_all (sc := wc) hHI hbr.size (IIn.below hW hbr) (by omega)
      have hB1 := hHI.grew hbr hbr.size hg1
      have d7 := (hB1.cell (lt_of_cell c7)).trans c7
      obtain ⟨a2, cap2, w2, hrun2, hI2, hg2⟩ := app_all (sc := oc) hI1 hB1.size (IIn.below hO hB1) (by omega)
      have hB2 := hI1.grew hB1 hB1.size hg2
      have d8 := (hB2.cell (lt_of_cell c8)).trans c8
      obtain ⟨a3, cap3, w3, hrun3, hI3, hg3⟩ := app_all (sc := pc) hI2 hB2.size (IIn.below hR hB2) (by omega)
      have hB3 := hI2.grew hB2 hB2.size hg3
      have HFIN : Hid (IsI w3 w.heap.size a3 (len + s.words.length + s.own.length + s.prints.length) cap3 (numsX s) ∧ Below w.heap.size w w3) := ⟨hI3, hB3⟩
      clear hI1 hI2 hI3 hg1 hg2 hg3 hB1 hB2 hB3 hHI HI hW hO hR hwm hol HW HT HLEN
      go_wp2
      go_ret
      exact ⟨_, _, _, rfl, HFIN.out.1, HFIN.out.2⟩
end

end Go.Proofs.YtipdnfpomdcenabGreatDoor
