/-
  Orders that clash, as lists of five numbers, rising: plain functions.
  What the document's Ints does with two lists of the same numbers.
  A list of numbers that was made is one that can be read.
  The document's sum of numbers; whether two lists are the same, which comes first; the order of outcomes.
  The word that a thread's next order touches, by the document.
  States are found again by their sums: the last one of a sum, and the one ahead of it: plain functions.
-/
import Derived.Test.YtipdnfpomdcenacGreatDoorRaceP
import Derived.Test.YtipdnfpomdcenacGreatDoorOrder
import Derived.Test.YtipdnfpomdcenacGreatDoorRDone
import Derived.Test.YtipdnfpomdcenacGreatDoorWorkP
import Derived.Test.YtipdnfpomdcenacGreatDoorBox
namespace Go.Proofs.YtipdnfpomdcenacGreatDoor
section
open Go.RowKit

/-- Each comes ahead of all that stand behind it. -/
def SortedL (l : List (List Int)) : Prop := l.Pairwise fun a b => lexL a b = true
theorem lex_asym {a b : List Int} (h : lexL a b = true) : lexL b a = false := by
  cases e : lexL b a with
  | false => rfl
  | true => have := lex_trans h e; rw [lex_irr] at this; cases this
theorem sortedL_same : ∀ {l r : List (List Int)}, SortedL l → SortedL r → (∀ o, o ∈ l ↔ o ∈ r) → l = r
  | [], [], _, _, _ => rfl
  | [], b :: r, _, _, h => by have := (h b).2 (by simp); cases this
  | a :: l, [], _, _, h => by have := (h a).1 (by simp); cases this
  | a :: l, b :: r, hl, hr, h => by
    rw [SortedL, List.pairwise_cons] at hl hr
    have ha := (h a).1 (by simp)
    have hb := (h b).2 (by simp)
    have e : a = b := by
      rcases List.mem_cons.mp ha with e | ha
      · exact e
      · rcases List.mem_cons.mp hb with e | hb
        · exact e.symm
        · have h1 := hl.1 b hb
          have h2 := hr.1 a ha
          rw [lex_asym h1] at h2
          cases h2
    subst e
    have hna : ∀ {o}, o ∈ l → o ≠ a := fun ho e => by
      have := hl.1 _ ho
      rw [e, lex_irr] at this
      cases this
    have hnr : ∀ {o}, o ∈ r → o ≠ a := fun ho e => by
      have := hr.1 _ ho
      rw [e, lex_irr] at this
      cases this
    rw [sortedL_same (l := l) (r := r) hl.2 hr.2 (fun o => ⟨fun ho => by
      rcases List.mem_cons.mp ((h o).1 (by simp [ho])) with e | e
      · exact absurd e (hna ho)
      · exact e, fun ho => by
      rcases List.mem_cons.mp ((h o).2 (by simp [ho])) with e | e
      · exact absurd e (hnr ho)
      · exact e⟩)]
/-- One more, into its place, once. -/
def insL (c : List Int) : List (List Int) → List (List Int)
  | [] => [c]
  | x :: l => if lexL c x then c :: x :: l else if lexL x c then x :: insL c l else x :: l
theorem mem_insL {c o : List Int} : ∀ {l : List (List Int)}, o ∈ insL c l ↔ o = c ∨ o ∈ l
  | [] => by simp [insL]
  | x :: l => by
    unfold insL
    split
    · simp
    · rename_i h1
      split
      · rw [List.mem_cons, mem_insL, List.mem_cons]
        exact ⟨fun h => by rcases h with h | h | h <;> simp [h], fun h => by rcases h with h | h | h <;> simp [h]⟩
      · rename_i h2
        have e : c = x := lex_tri (by simpa using h1) (by simpa using h2)
        rw [e, List.mem_cons]
        exact ⟨Or.inr, fun h => by rcases h with h | h | h <;> simp [h]⟩
theorem sorted_insL {c : List Int} : ∀ {l : List (List Int)}, SortedL l → SortedL (insL c l)
  | [], _ => List.pairwise_singleton _ _
  | x :: l, h => by
    have h' := h
    rw [SortedL, List.pairwise_cons] at h'
    unfold insL
    split
    · rename_i h1
      rw [SortedL, List.pairwise_cons]
      exact ⟨fun y hy => by
        rcases List.mem_cons.mp hy with rfl | hy
        · exact h1
        · exact lex_trans h1 (h'.1 y hy), h⟩
    · split
      · rename_i h2
        rw [SortedL, List.pairwise_cons]
        refine ⟨fun y hy => ?_, sorted_insL h'.2⟩
        rcases mem_insL.mp hy with rfl | hy
        · exact h2
        · exact h'.1 y hy
      · exact h
section
variable (L : Nat → Nat) (X : Nat → Nat → Nat → Int)
/-- The word that a thread touches next, where it is able and there is such a word; whether it only stores there. -/
def okT (s : Sx) (t : Nat) : Option (Int × Bool) :=
  if ableT L X s t then (twX X s t).bind fun p => if 0 ≤ p.1 ∧ p.1 < (s.words.length : Int) then some p else none else none
/-- How two threads' next orders clash. -/
def clP (s : Sx) (a b : Nat) : Option (List Int) :=
  (okT L X s a).bind fun p => (okT L X s b).bind fun q => if p.1 = q.1 ∧ (p.2 || q.2) = true then some [(a : Int), ((thOf s a).pc : Int), (b : Int), ((thOf s b).pc : Int), p.1] else none
/-- The clashes of a state. -/
def ClsX (s : Sx) (c : List Int) : Prop := ∃ a b, a < b ∧ b < s.ths.length ∧ clP L X s a b = some c
/-- What is told of clashes. -/
def ToldC (s0 : Sx) (l : List (List Int)) : Prop := SortedL l ∧ ∀ c, c ∈ l ↔ ∃ s, Rch (nxX L X 0) s0 s ∧ ClsX L X s c
end
section
variable {L : Nat → Nat} {X : Nat → Nat → Nat → Int}
theorem toldC_same {s0 : Sx} {l r : List (List Int)} (h1 : ToldC L X s0 l) (h2 : ToldC L X s0 r) : l = r := sortedL_same h1.1 h2.1 fun o => (h1.2 o).trans (h2.2 o).symm
theorem okT_some {s : Sx} {t : Nat} {w : Int} {p : Bool} : okT L X s t = some (w, p) ↔ ableT L X s t = true ∧ twX X s t = some (w, p) ∧ 0 ≤ w ∧ w < (s.words.length : Int) := by
  unfold okT
  cases ha : ableT L X s t with
  | false => simp
  | true =>
    simp only [if_true, true_and]
    cases ht : twX X s t with
    | none => simp
    | some q =>
      obtain ⟨v, r⟩ := q
      simp only [Option.bind_some]
      split
      · rename_i h
        simp only [Option.some.injEq, Prod.mk.injEq]
        exact ⟨fun e => ⟨e, e.1 ▸ h.1, e.1 ▸ h.2⟩, fun e => e.1⟩
      · rename_i h
        simp only [Option.some.injEq, Prod.mk.injEq, reduceCtorEq, false_iff]
        rintro ⟨⟨rfl, _⟩, h1, h2⟩
        exact h ⟨h1, h2⟩
theorem clP_some {s : Sx} {a b : Nat} {c : List Int} : clP L X s a b = some c ↔ ∃ w p q, okT L X s a = some (w, p) ∧ okT L X s b = some (w, q) ∧ (p || q) = true ∧ c = [(a : Int), ((thOf s a).pc : Int), (b : Int), ((thOf s b).pc : Int), w] := by
  unfold clP
  cases h1 : okT L X s a with
  | none => simp
  | some p =>
    cases h2 : okT L X s b with
    | none => simp
    | some q =>
      obtain ⟨v, p⟩ := p
      obtain ⟨u, q⟩ := q
      simp only [Option.bind_some]
      constructor
      · intro h
        split at h
        · rename_i h3
          obtain ⟨rfl, h4⟩ := h3
          cases h
          exact ⟨v, p, q, rfl, rfl, h4, rfl⟩
        · cases h
      · rintro ⟨w, p', q', e1, e2, h4, rfl⟩
        simp only [Option.some.injEq, Prod.mk.injEq] at e1 e2
        obtain ⟨rfl, rfl⟩ := e1
        obtain ⟨rfl, rfl⟩ := e2
        rw [if_pos ⟨rfl, h4⟩]
/-- What two threads' touches make. -/
theorem clP_no {s : Sx} {a b : Nat} (h : okT L X s a = none ∨ okT L X s b = none) : clP L X s a b = none := by
  unfold clP
  rcases h with h | h
  · rw [h]; rfl
  · rw [h]
    cases okT L X s a <;> rfl
theorem clP_two {s : Sx} {a b : Nat} {x y : Int} {p q : Bool} (h1 : okT L X s a = some (x, p)) (h2 : okT L X s b = some (y, q)) : clP L X s a b = if x = y ∧ (p || q) = true then some [(a : Int), ((thOf s a).pc : Int), (b : Int), ((thOf s b).pc : Int), x] else none := by
  unfold clP
  rw [h1, h2]
  rfl
theorem clash_clP {s : Sx} {a b : Nat} {w : Int} (h : ClashX L X s a b w) : ∃ c, clP L X s a b = some c := by
  obtain ⟨h1, h2, h3, h4, p, q, e1, e2, e3⟩ := h
  exact ⟨_, clP_some.mpr ⟨w, p, q, okT_some.mpr ⟨h1, e1, h3, h4⟩, okT_some.mpr ⟨h2, e2, h3, h4⟩, e3, rfl⟩⟩
theorem clash_swap {s : Sx} {a b : Nat} {w : Int} (h : ClashX L X s a b w) : ClashX L X s b a w := by
  obtain ⟨h1, h2, h3, h4, p, q, e1, e2, e3⟩ := h
  exact ⟨h2, h1, h3, h4, q, p, e2, e1, by rw [Bool.or_comm]; exact e3⟩
/-- Where no clash is told, there is none. -/
theorem toldC_none {s0 : Sx} {n : Nat} (h : ToldC L X s0 []) (hn : ∀ s, Rch (nxX L X 0) s0 s → s.ths.length = n) : ∀ s, Rch (nxX L X 0) s0 s → ∀ a b w, a < n → b < n → a ≠ b → ¬ ClashX L X s a b w := fun s hs a b w ha hb hab hc => by
  have key : ∀ a b, a < b → b < n → ClashX L X s a b w → False := fun a b h1 h2 h3 => by
    obtain ⟨c, e⟩ := clash_clP h3
    have := (h.2 c).mpr ⟨s, hs, a, b, h1, by rw [hn s hs]; exact h2, e⟩
    cases this
  rcases Nat.lt_or_gt_of_ne hab with h1 | h1
  · exact key a b h1 hb hc
  · exact key b a h1 ha (clash_swap hc)
end
end

section
open Go.RowKit

/-- A list of numbers lies in w. -/
def IIn (w : World) (a : Option Addr) (n : Nat) (X : Nat → Int) : Prop := ∀ i, i < n → ∃ b o, a = some ⟨b, o, none⟩ ∧ w.cell? ⟨b, o + i, none⟩ = some (.int .i64 (X i))
theorem IIn.below {w w' : World} {a : Option Addr} {n : Nat} {X : Nat → Int} (h : IIn w a n X) (hb : Below w.heap.size w w') : IIn w' a n X := fun i hi => by
  obtain ⟨b, o, hc, h1⟩ := h i hi
  exact ⟨b, o, hc, (hb.cell (lt_of_cell h1)).trans h1⟩
end

section
open Go.RowKit

theorem IsI.iin {w : World} {B : Nat} {a : Option Addr} {len c : Nat} {xs : List Int} (h : IsI w B a len c xs) : IIn w a len (fun i => xs.getD i 0) := fun i hi => by
  obtain ⟨g, cap, h1, h2, _, _⟩ := fam_block h.own (by omega)
  simp only [Value.slice.injEq] at h1
  exact ⟨g, 0, h1.1, by simpa using fam_cell h.own h2 (intsV_at (by rw [h.is]; exact hi))⟩
end

section
open Go.RowKit

theorem bits_pos (op : BinOp) (x y : Int) : 0 ≤ bits op .u64 x y := by
  unfold bits
  simp only [IntKind.wrap_u64]
  exact Int.emod_nonneg _ (by decide)
def sumS (q x : Int) : Int := bits .xor .u64 (IntKind.u64.wrap (bits .xor .u64 q (IntKind.u64.wrap x) * 1099511628211)) (IntKind.u64.wrap (bits .xor .u64 q (IntKind.u64.wrap x) * 1099511628211) / 536870912)
def sumH (l : List Int) : Nat → Int
  | 0 => l.length
  | k + 1 => sumS (sumH l k) (l.getD k 0)
theorem sumH_pos (l : List Int) : ∀ k, 0 ≤ sumH l k
  | 0 => Int.natCast_nonneg _
  | k + 1 => by unfold sumH sumS; exact bits_pos _ _ _
/-- The document's sum of numbers: from 0 to 4095. -/
def sumL (l : List Int) : Nat := (sumH l l.length).toNat % 4096
theorem sumL_lt (l : List Int) : sumL l < 4096 := Nat.mod_lt _ (by decide)
set_option maxHeartbeats 1600000 in
theorem sum_any (a : Option Addr) (l : List Int) (c : Nat) (hn : l.length ≤ 100000) (w : World) (h : IIn w a l.length (fun i => l.getD i 0)) :
    Calls Tryz.prog 66 #[.slice a l.length c] w fun e w' => e = .returned (.int .i64 (sumL l : Nat)) ∧ w' = w := by
  go_enter Tryz.func66, Tryz.ntmps66
  go_wp2
  go_loop [3, 4] (fun s i => ∃ (q : Int) (k : Nat), k ≤ l.length ∧ Hid (q = sumH l k) ∧ s = .int .u64 q ∧ i = .int .i64 k) (fun _ i => l.length - (intOf i).toNat)
  case atStart => exact ⟨_, 0, Nat.zero_le _, rfl, rfl, rfl⟩
  case round =>
    obtain ⟨q, k, hk, hq, rfl, rfl⟩ := hrel
    by_cases hlt : k < l.length
    · obtain ⟨cb, co, rfl, hcell⟩ := h k hlt
      go_wp2
      go_round
      case rel =>
        refine ⟨_, k + 1, by omega, ?_, rfl, by go_num⟩
        show _ = sumS (sumH l k) (l.getD k 0)
        rw [← hq.out, List.getD_eq_getElem?_getD, List.getElem?_eq_getElem hlt]
        rfl
      case measure => simp [intOf]; omega
    · obtain rfl : k = l.length := by omega
      have hp := sumH_pos l l.length
      have e : wrap64 (q.tmod 4096) = (sumL l : Nat) := by
        rw [← hq.out] at hp
        have h1 : q.tmod 4096 = (sumL l : Nat) := by
          unfold sumL
          rw [← hq.out, Int.tmod_eq_emod_of_nonneg hp]
          omega
        rw [h1]
        have := sumL_lt l
        unfold wrap64; omega
      have HE := Hid.out (p := Hid _) e
      clear hp e
      go_wp2
      go_ret
      exact ⟨congrArg (fun n => Ending.returned (.int .i64 n)) HE.out, rfl⟩

/-- A list of numbers, all of it, lies in w. -/
abbrev LI (w : World) (a : Option Addr) (x : List Int) : Prop := IIn w a x.length (fun i => x.getD i 0)
theorem getD_lt {x : List Int} {k : Nat} (h : k < x.length) : x.getD k 0 = x[k] := by rw [List.getD_eq_getElem?_getD, List.getElem?_eq_getElem h]; rfl
theorem take_ext {x y : List Int} {k : Nat} (h : x.take k = y.take k) (h1 : k < x.length) (h2 : k < y.length) (e : x.getD k 0 = y.getD k 0) : x.take (k + 1) = y.take (k + 1) := by
  rw [List.take_add_one, List.take_add_one, h, List.getElem?_eq_getElem h1, List.getElem?_eq_getElem h2, ← getD_lt h1, ← getD_lt h2, e]
theorem lex_drop : ∀ {k : Nat} {x y : List Int}, x.take k = y.take k → lexL x y = lexL (x.drop k) (y.drop k)
  | 0, _, _, _ => rfl
  | k + 1, [], [], _ => rfl
  | k + 1, [], _ :: _, h => by cases h
  | k + 1, _ :: _, [], h => by cases h
  | k + 1, a :: x, b :: y, h => by
    simp only [List.take_succ_cons, List.cons.injEq] at h
    obtain ⟨rfl, h⟩ := h
    show (if a = a then lexL x y else _) = _
    rw [if_pos rfl]
    exact lex_drop h
theorem lex_at {k : Nat} {x y : List Int} (h : x.take k = y.take k) (h1 : k < x.length) (h2 : k < y.length) (e : x.getD k 0 ≠ y.getD k 0) : lexL x y = decide (x.getD k 0 < y.getD k 0) := by
  rw [lex_drop h, List.drop_eq_getElem_cons h1, List.drop_eq_getElem_cons h2, getD_lt h1, getD_lt h2]
  rw [getD_lt h1, getD_lt h2] at e
  show (if x[k] = y[k] then _ else _) = _
  rw [if_neg e]
theorem lex_end {k : Nat} {x y : List Int} (h : x.take k = y.take k) (hk : x.length ≤ k ∨ y.length ≤ k) (hx : k ≤ x.length) (hy : k ≤ y.length) : lexL x y = decide (x.length < y.length) := by
  rw [lex_drop h]
  rcases hk with hk | hk
  · rw [List.drop_of_length_le hk]
    cases hd : y.drop k with
    | nil =>
      have := congrArg List.length hd
      simp only [List.length_drop, List.length_nil] at this
      rw [show decide (x.length < y.length) = false from decide_eq_false (by omega)]
      rfl
    | cons a r =>
      have := congrArg List.length hd
      simp only [List.length_drop, List.length_cons] at this
      rw [show decide (x.length < y.length) = true from decide_eq_true (by omega)]
      rfl
  · rw [List.drop_of_length_le hk, show decide (x.length < y.length) = false from decide_eq_false (by omega)]
    cases x.drop k <;> rfl
set_option maxHeartbeats 1600000 in
theorem less_any (a b : Option Addr) (x y : List Int) (c d : Nat) (hn : x.length ≤ 100000) (_hm : y.length ≤ 100000) (w : World) (h : LI w a x) (h' : LI w b y) :
    Calls Tryz.prog 100 #[.slice a x.length c, .slice b y.length d] w fun e w' => e = .returned (.bool (lexL x y)) ∧ Below w.heap.size w w' := by
  go_enter Tryz.func100, Tryz.ntmps100
  go_wp2
  go_loopw [5] (fun i wr => ∃ k : Nat, k ≤ x.length ∧ k ≤ y.length ∧ Hid (x.take k = y.take k) ∧ i = .int .i64 k ∧ Below w.heap.size w wr) (fun i _ => x.length - (intOf i).toNat)
  case atStart => exact ⟨0, Nat.zero_le _, Nat.zero_le _, rfl, rfl, Below.refl _ _⟩
  case round =>
    obtain ⟨k, hk, hk', ht, rfl, hbr⟩ := hrel
    by_cases hlt : k < x.length
    · by_cases hlt' : k < y.length
      · obtain ⟨b1, o1, rfl, hc⟩ := h.below hbr k hlt
        obtain ⟨b2, o2, rfl, hc'⟩ := h'.below hbr k hlt'
        by_cases he : x.getD k 0 = y.getD k 0
        · have ht' : Hid (x.take (k + 1) = y.take (k + 1)) := take_ext ht.out hlt hlt' he
          simp only [he] at hc
          clear he
          go_wp2
          go_region
          all_goals go_wp2
          all_goals go_roundw
          case rel => exact ⟨k + 1, by omega, by omega, ht', by go_num, hbr.drew⟩
          case measure => simp [intOf]; omega
        · have HE : Hid (lexL x y = decide (x.getD k 0 < y.getD k 0)) := lex_at ht.out hlt hlt' he
          obtain ⟨u, hu⟩ : ∃ u, x.getD k 0 = u := ⟨_, rfl⟩
          obtain ⟨v, hv⟩ : ∃ v, y.getD k 0 = v := ⟨_, rfl⟩
          simp only [hu] at hc
          simp only [hv] at hc'
          rw [hu, hv] at HE he
          clear hu hv
          go_wp2
          go_region
          all_goals go_wp2
          all_goals go_region
          all_goals go_wp2
          all_goals go_ret
          all_goals exact ⟨congrArg (fun b => Ending.returned (.bool b)) HE.out.symm, hbr.drew.drew⟩
      · have HE : Hid (lexL x y = decide (x.length < y.length)) := lex_end ht.out (Or.inr (by omega)) hk hk'
        go_wp2
        go_ret
        exact ⟨congrArg (fun b => Ending.returned (.bool b)) (by rw [HE.out]), hbr⟩
    · have HE : Hid (lexL x y = decide (x.length < y.length)) := lex_end ht.out (Or.inl (by omega)) hk hk'
      go_wp2
      go_ret
      exact ⟨congrArg (fun b => Ending.returned (.bool b)) (by rw [HE.out]), hbr⟩

set_option maxHeartbeats 1600000 in
/-- Whether two lists are the same. -/
theorem rints_any (a b : Option Addr) (x y : List Int) (c d : Nat) (hn : x.length ≤ 100000) (_hm : y.length ≤ 100000) (w : World) (h : LI w a x) (h' : LI w b y) :
    Calls Tryz.prog 21 #[.slice a x.length c, .slice b y.length d] w fun e w' => e = .returned (.bool (decide (x = y))) ∧ Below w.heap.size w w' := by
  by_cases hl : x.length = y.length
  rotate_left
  · have HE : Hid (decide (x = y) = false) := decide_eq_false (fun e => hl (by rw [e]))
    have hl' : ¬ (x.length : Int) = y.length := by omega
    go_enter Tryz.func21, Tryz.ntmps21
    go_wp2
    go_ret
    exact ⟨congrArg (fun b => Ending.returned (.bool b)) HE.out.symm, Below.refl _ _⟩
  obtain ⟨n, hx⟩ : ∃ n, x.length = n := ⟨_, rfl⟩
  have hy : y.length = n := by omega
  have hn' : n ≤ 100000 := by omega
  have h1 : IIn w a n (fun i => x.getD i 0) := by rw [← hx]; exact h
  have h2 : IIn w b n (fun i => y.getD i 0) := by rw [← hy]; exact h'
  have HX : Hid (x.length = n) := hx
  have HY : Hid (y.length = n) := hy
  rw [hx, hy]
  clear h h' hx hy hl hn _hm
  go_enter Tryz.func21, Tryz.ntmps21
  go_wp2
  go_loopw [5] (fun i wr => ∃ k : Nat, k ≤ n ∧ Hid (x.take k = y.take k) ∧ i = .int .i64 k ∧ Below w.heap.size w wr) (fun i _ => n - (intOf i).toNat)
  case atStart => exact ⟨0, Nat.zero_le _, rfl, rfl, Below.refl _ _⟩
  case round =>
    obtain ⟨k, hk, ht, rfl, hbr⟩ := hrel
    by_cases hlt : k < n
    · obtain ⟨b1, o1, rfl, hc⟩ := h1.below hbr k hlt
      obtain ⟨b2, o2, rfl, hc'⟩ := h2.below hbr k hlt
      by_cases he : x.getD k 0 = y.getD k 0
      · have ht' : Hid (x.take (k + 1) = y.take (k + 1)) := take_ext ht.out (by rw [HX.out]; exact hlt) (by rw [HY.out]; exact hlt) he
        simp only [he] at hc
        clear he
        go_wp2
        go_region
        all_goals go_wp2
        all_goals go_roundw
        case rel => exact ⟨k + 1, by omega, ht', by go_num, hbr.drew⟩
        case measure => simp [intOf]; omega
      · have HE : Hid (decide (x = y) = false) := decide_eq_false (fun e => he (by rw [e]))
        obtain ⟨u, hu⟩ : ∃ u, x.getD k 0 = u := ⟨_, rfl⟩
        obtain ⟨v, hv⟩ : ∃ v, y.getD k 0 = v := ⟨_, rfl⟩
        simp only [hu] at hc
        simp only [hv] at hc'
        rw [hu, hv] at he
        clear hu hv
        go_wp2
        go_region
        all_goals go_wp2
        all_goals go_ret
        all_goals exact ⟨congrArg (fun b => Ending.returned (.bool b)) HE.out.symm, hbr.drew⟩
    · have HE : Hid (decide (x = y) = true) := decide_eq_true (by
        have := ht.out
        rwa [List.take_of_length_le (by rw [HX.out]; omega), List.take_of_length_le (by rw [HY.out]; omega)] at this)
      go_wp2
      go_ret
      exact ⟨congrArg (fun b => Ending.returned (.bool b)) HE.out.symm, hbr⟩

/-- An outcome as a value. -/
abbrev ocV (st : Int) (wa : Option Addr) (wl wc : Nat) (pa : Option Addr) (pl pc : Nat) : Value := .agg #[.int .i64 st, .slice wa wl wc, .slice pa pl pc]

/-- An outcome lies in w. -/
structure OcAt (w : World) (v : Value) (o : Oc) : Prop where
  ex : ∃ wa wc pa pc, v = ocV o.st wa o.ws.length wc pa o.pr.length pc ∧ LI w wa o.ws ∧ LI w pa o.pr
set_option maxHeartbeats 1600000 in
theorem ahead_any (w : World) (u v : Value) (a b : Oc) (hu : OcAt w u a) (hv : OcAt w v b) (h1 : a.ws.length ≤ 100000) (h2 : b.ws.length ≤ 100000) (h3 : a.pr.length ≤ 100000) (h4 : b.pr.length ≤ 100000) :
    Calls Tryz.prog 70 #[u, v] w fun e w' => e = .returned (.bool (aheadO a b)) ∧ Below w.heap.size w w' := by
  obtain ⟨wa, wc, pa, pc, rfl, k1, k2⟩ := hu.ex
  obtain ⟨va, vc, qa, qc, rfl, k3, k4⟩ := hv.ex
  clear hu hv
  obtain ⟨sa, ws, pr⟩ := a
  obtain ⟨sb, vs, qr⟩ := b
  simp only at h1 h2 h3 h4 k1 k2 k3 k4 ⊢
  obtain ⟨UC, hUC⟩ : ∃ o : Obj, o = .cells #[.int .i64 sa, .slice wa ws.length wc, .slice pa pr.length pc] 61 := ⟨_, rfl⟩
  obtain ⟨VC, hVC⟩ : ∃ o : Obj, o = .cells #[.int .i64 sb, .slice va vs.length vc, .slice qa qr.length qc] 61 := ⟨_, rfl⟩
  have HB0 : Below w.heap.size w ((w.alloc UC).alloc VC) := ((Below.refl _ _).alloc (Nat.le_refl _) _).alloc (by simp) _
  have b1 : ((w.alloc UC).alloc VC).heap[w.heap.size]? = some UC := box_later (heap_alloc_new _ _) _
  have b2 : ((w.alloc UC).alloc VC).heap[w.heap.size + 1]? = some VC := by have := heap_alloc_new (w.alloc UC) VC; rwa [World.size_alloc] at this
  have HI : Hid (Calls Tryz.prog 21 #[.slice wa ws.length wc, .slice va vs.length vc] ((w.alloc UC).alloc VC) fun e w' => e = .returned (.bool (decide (ws = vs))) ∧ Below ((w.alloc UC).alloc VC).heap.size ((w.alloc UC).alloc VC) w') := rints_any wa va ws vs wc vc h1 h2 _ (IIn.below k1 HB0) (IIn.below k3 HB0)
  have HL1 : Hid (∀ W, Below ((w.alloc UC).alloc VC).heap.size ((w.alloc UC).alloc VC) W → Calls Tryz.prog 100 #[.slice wa ws.length wc, .slice va vs.length vc] W fun e w' => e = .returned (.bool (lexL ws vs)) ∧ Below w.heap.size w w') := fun W hb => (less_any wa va ws vs wc vc h1 h2 W (IIn.below (IIn.below k1 HB0) hb) (IIn.below (IIn.below k3 HB0) hb)).mono fun e w' g => ⟨g.1, (HB0.trans (hb.mono HB0.size)).trans (g.2.mono (HB0.trans (hb.mono HB0.size)).size)⟩
  have HL2 : Hid (∀ W, Below ((w.alloc UC).alloc VC).heap.size ((w.alloc UC).alloc VC) W → Calls Tryz.prog 100 #[.slice pa pr.length pc, .slice qa qr.length qc] W fun e w' => e = .returned (.bool (lexL pr qr)) ∧ Below w.heap.size w w') := fun W hb => (less_any pa qa pr qr pc qc h3 h4 W (IIn.below (IIn.below k2 HB0) hb) (IIn.below (IIn.below k4 HB0) hb)).mono fun e w' g => ⟨g.1, (HB0.trans (hb.mono HB0.size)).trans (g.2.mono (HB0.trans (hb.mono HB0.size)).size)⟩
  have HC : Hid (∀ W, Below ((w.alloc UC).alloc VC).heap.size ((w.alloc UC).alloc VC) W → (W.cell? ⟨w.heap.size, 1, none⟩ = some (.slice wa ws.length wc) ∧ W.cell? ⟨w.heap.size, 2, none⟩ = some (.slice pa pr.length pc)) ∧ W.cell? ⟨w.heap.size + 1, 1, none⟩ = some (.slice va vs.length vc) ∧ W.cell? ⟨w.heap.size + 1, 2, none⟩ = some (.slice qa qr.length qc)) := fun W hb => by
    have k1 := ((hb.block _ (by simp; omega)).trans b1).trans (congrArg some hUC)
    have k2 := ((hb.block _ (by simp)).trans b2).trans (congrArg some hVC)
    exact ⟨⟨box_cell k1 rfl, box_cell k1 rfl⟩, box_cell k2 rfl, box_cell k2 rfl⟩
  have HBH := Hid.out (p := Hid _) HB0
  rw [hUC, hVC] at HI HL1 HL2 HC HBH
  clear k1 k2 k3 k4 HB0 b1 b2 hUC hVC h1 h2 h3 h4
  by_cases hst : sa = sb
  rotate_left
  · have HE : Hid (aheadO ⟨sa, ws, pr⟩ ⟨sb, vs, qr⟩ = decide (sa < sb)) := if_pos hst
    go_enter Tryz.func70, Tryz.ntmps70
    go_wp2
    go_ret
    exact ⟨congrArg (fun b => Ending.returned (.bool b)) HE.out.symm, HBH.out⟩
  subst hst
  by_cases hws : ws = vs
  · have HE : Hid (aheadO ⟨sa, ws, pr⟩ ⟨sa, vs, qr⟩ = lexL pr qr) := by
      show _ = _
      unfold aheadO
      rw [if_neg (by simp), if_neg (by simpa using hws)]
    have HD : Hid (decide (ws = vs) = true) := decide_eq_true hws
    clear hws
    go_enter Tryz.func70, Tryz.ntmps70
    go_wp2_with (fail)
    refine Calls.mono HI.out ?_
    rintro e w1 ⟨rfl, hb1⟩
    rw [HD.out]
    obtain ⟨⟨_, c2⟩, _, c4⟩ := HC.out w1 hb1
    have HL := Hid.out (p := Hid _) (HL2.out w1 hb1)
    clear hb1 HI HL1 HL2 HC
    go_wp2_with (fail)
    refine Calls.mono HL.out ?_
    rintro e w2 ⟨rfl, hb2⟩
    go_wp2
    go_ret
    exact ⟨congrArg (fun b => Ending.returned (.bool b)) HE.out.symm, hb2⟩
  · have HE : Hid (aheadO ⟨sa, ws, pr⟩ ⟨sa, vs, qr⟩ = lexL ws vs) := by
      show _ = _
      unfold aheadO
      rw [if_neg (by simp), if_pos hws]
    have HD : Hid (decide (ws = vs) = false) := decide_eq_false hws
    clear hws
    go_enter Tryz.func70, Tryz.ntmps70
    go_wp2_with (fail)
    refine Calls.mono HI.out ?_
    rintro e w1 ⟨rfl, hb1⟩
    rw [HD.out]
    obtain ⟨⟨c1, _⟩, c3, _⟩ := HC.out w1 hb1
    have HL := Hid.out (p := Hid _) (HL1.out w1 hb1)
    clear hb1 HI HL1 HL2 HC
    go_wp2_with (fail)
    refine Calls.mono HL.out ?_
    rintro e w2 ⟨rfl, hb2⟩
    go_wp2
    go_ret
    exact ⟨congrArg (fun b => Ending.returned (.bool b)) HE.out.symm, hb2⟩
end

section
open Go.RowKit

theorem tw_word {X : Nat → Nat → Nat → Int} {s : Sx} {t : Nat} {op a b c : Int} (h0 : opT X s t 0 = op) (h1 : opT X s t 1 = a) (h2 : opT X s t 2 = b) (_h3 : opT X s t 3 = c) : twX X s t = if op = 8 then some (b, false) else if op = 9 then some (a, true) else if op = 10 then some (getR s t b, false) else if op = 11 then some (getR s t a, true) else if op = 13 then some (a, false) else none := by
  unfold twX
  rw [h0, h1, h2]
theorem okT_no {L : Nat → Nat} {X : Nat → Nat → Nat → Int} {s : Sx} {t : Nat} (h : ableT L X s t = false) : okT L X s t = none := by
  unfold okT; rw [h]; rfl
theorem okT_in {L : Nat → Nat} {X : Nat → Nat → Nat → Int} {s : Sx} {t : Nat} {w : Int} {p : Bool} (h : ableT L X s t = true) (ht : twX X s t = some (w, p)) (h0 : 0 ≤ w ∧ w < (s.words.length : Int)) : okT L X s t = some (w, p) := okT_some.mpr ⟨h, ht, h0.1, h0.2⟩
theorem okT_out {L : Nat → Nat} {X : Nat → Nat → Nat → Int} {s : Sx} {t : Nat} {w : Int} {p : Bool} (ht : twX X s t = some (w, p)) (h0 : ¬ (0 ≤ w ∧ w < (s.words.length : Int))) : okT L X s t = none := by
  cases e : okT L X s t with
  | none => rfl
  | some q =>
    obtain ⟨v, r⟩ := q
    obtain ⟨_, h2, h3⟩ := okT_some.mp e
    rw [ht] at h2
    cases h2
    exact absurd h3 h0
theorem okT_else {L : Nat → Nat} {X : Nat → Nat → Nat → Int} {s : Sx} {t : Nat} (ht : twX X s t = none) : okT L X s t = none := by
  cases e : okT L X s t with
  | none => rfl
  | some q =>
    obtain ⟨v, r⟩ := q
    have := (okT_some.mp e).2.1
    rw [ht] at this
    cases this
end

section
open Go.RowKit

/-- The last of the first n whose sum is h; -1: none. -/
def lastS (f : Nat → Nat) (h : Nat) : Nat → Int
  | 0 => -1
  | n + 1 => if f n = h then (n : Int) else lastS f h n
section
variable {f : Nat → Nat} {h : Nat}
theorem last_lt : ∀ n, lastS f h n < n
  | 0 => by show (-1 : Int) < _; omega
  | n + 1 => by
    unfold lastS
    split
    · omega
    · have := last_lt n; omega
theorem last_low : ∀ n, -1 ≤ lastS f h n
  | 0 => by show (-1 : Int) ≤ -1; omega
  | n + 1 => by
    unfold lastS
    split
    · omega
    · exact last_low n
/-- The last one is of the sum, and none behind it is. -/
theorem last_is : ∀ n i, lastS f h n = (i : Nat) → f i = h ∧ ∀ j, i < j → j < n → f j ≠ h
  | 0, i, e => by
    have : (-1 : Int) = (i : Nat) := e
    omega
  | n + 1, i, e => by
    unfold lastS at e
    by_cases hn : f n = h
    · rw [if_pos hn] at e
      obtain rfl : n = i := by omega
      exact ⟨hn, fun j h1 h2 => by omega⟩
    · rw [if_neg hn] at e
      obtain ⟨h1, h2⟩ := last_is n i e
      refine ⟨h1, fun j h3 h4 => ?_⟩
      rcases Nat.lt_or_ge j n with h5 | h5
      · exact h2 j h3 h5
      · obtain rfl : j = n := by omega
        exact hn
theorem last_none : ∀ n, lastS f h n < 0 → ∀ j, j < n → f j ≠ h
  | 0, _, j, hj => absurd hj (Nat.not_lt_zero _)
  | n + 1, e, j, hj => by
    unfold lastS at e
    by_cases hn : f n = h
    · rw [if_pos hn] at e; omega
    · rw [if_neg hn] at e
      rcases Nat.lt_or_ge j n with h5 | h5
      · exact last_none n e j h5
      · obtain rfl : j = n := by omega
        exact hn
theorem last_congr {g : Nat → Nat} : ∀ n, (∀ i, i < n → g i = f i) → lastS g h n = lastS f h n
  | 0, _ => rfl
  | n + 1, e => by
    unfold lastS
    rw [e n (by omega), last_congr n (fun i hi => e i (by omega))]
end
end

end Go.Proofs.YtipdnfpomdcenacGreatDoor
