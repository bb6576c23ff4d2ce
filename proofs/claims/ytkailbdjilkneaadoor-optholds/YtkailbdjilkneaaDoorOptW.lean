/-
  Values that are always the same: the program's way to the least solution (what is still to be handed on), the document's passes; what each order becomes.
  What the document's Ints does with two lists of the same numbers.
  A list of numbers that was made is one that can be read.
  The document's sum of numbers; whether two lists are the same, which comes first; the order of outcomes.
  An outcome put into its place, one behind the other: plain functions.
  States are found again by their sums: the last one of a sum, and the one ahead of it: plain functions.
  Values that are always the same, by the document: small functions.
  What an order that reckons makes, by the document.
-/
import Derived.Test.YtkailbdjilkneaaDoorCOkP
import Derived.Test.YtkailbdjilkneaaDoorOrder
import Derived.Test.YtkailbdjilkneaaDoorBase
import Derived.Test.YtkailbdjilkneaaDoorRMoves
import Derived.Test.YtkailbdjilkneaaDoorWorkP
import Derived.Test.YtkailbdjilkneaaDoorRead
import Derived.Test.YtkailbdjilkneaaDoorLivL
import Derived.Deep.LoopGhost
import Derived.BigRegion
namespace Go.Proofs.YtkailbdjilkneaaDoor
section
open Go.RowKit

theorem num_ne (n : Int) : Vl.num n ≠ .no := fun e => by cases e
theorem ne_of_le {a b : Vl} (h : a.le b) (hne : a ≠ .no) : b ≠ .no := fun e => by
  subst e
  exact hne (Vl.le_no h)
/-- What order i makes of register r can hang on what register s holds ahead of it. -/
def depV (X : Nat → Nat → Int) (i r s : Nat) : Prop := r = s ∨ wrX X i = (r : Int) ∨ (X i 0 = 15 ∧ (X i 1).toNat = s)
/-- While it is being found: O is still to be handed on; of P it is being handed on; the first k registers are there ahead of order 0. -/
structure WkV (X : Nat → Nat → Int) (l rg k : Nat) (E : Nat → Nat → Vl) (O : List (Nat × Nat)) (P : Nat → Nat → Nat → Prop) : Prop where
  sound : ∀ F, SolV X l rg F → ∀ i r, i ≤ l → r < rg → (E i r).le (F i r)
  opn : ∀ i s, (i, s) ∈ O → i ≤ l ∧ s < rg ∧ E i s ≠ .no
  z : ∀ r, r < k → r < rg → (Vl.num 0).le (E 0 r)
  cons : ∀ i s, i < l → s < rg → E i s ≠ .no → ∀ j, j ∈ wyX X i (E i) → ∀ r, r < rg → (bhV X i (E i) r).le (E j r) ∨ (∃ q, (i, q) ∈ O ∧ depV X i r q) ∨ P i j r
def newO (E : Nat → Nat → Vl) (i s : Nat) (v : Vl) (O : List (Nat × Nat)) : List (Nat × Nat) := if (E i s).meet v = E i s then O else O ++ [(i, s)]
theorem newO_mem {E : Nat → Nat → Vl} {i s : Nat} {v : Vl} {O : List (Nat × Nat)} {x : Nat × Nat} (h : x ∈ O) : x ∈ newO E i s v O := by
  unfold newO
  split
  · exact h
  · exact List.mem_append_left _ h
section
variable {X : Nat → Nat → Int} {l rg k m lk : Nat} {E : Nat → Nat → Vl} {O : List (Nat × Nat)} {P : Nat → Nat → Nat → Prop}
theorem WkV.mono (h : WkV X l rg k E O P) {Q : Nat → Nat → Nat → Prop} (hq : ∀ i j r, i < l → P i j r → Q i j r) : WkV X l rg k E O Q :=
  ⟨h.sound, h.opn, h.z, fun i s hi hs hne j hj r hr => by
    rcases h.cons i s hi hs hne j hj r hr with h1 | h1 | h1
    · exact Or.inl h1
    · exact Or.inr (Or.inl h1)
    · exact Or.inr (Or.inr (hq i j r hi h1))⟩
theorem updE_self {E : Nat → Nat → Vl} {i s : Nat} {v : Vl} (h : v = E i s) : updE E i s v = E := by
  funext j r
  unfold updE
  split
  · rename_i e
    rw [e.1, e.2, h]
  · rfl
theorem wkV_start : WkV X l rg 0 (fun _ _ => .no) [] P :=
  ⟨fun _ _ _ _ _ _ => Vl.no_le _, fun _ _ h => by (cases h), fun r h => absurd h (Nat.not_lt_zero r), fun _ _ _ _ h => absurd rfl h⟩
/-- A value comes to a register ahead of an order. -/
theorem WkV.meet (h : WkV X l rg k E O P) {i s : Nat} {v : Vl} (hi : i ≤ l) (hs : s < rg) (hv : ∀ F, SolV X l rg F → v.le (F i s)) : WkV X l rg k (updE E i s ((E i s).meet v)) (newO E i s v O) P := by
  by_cases hc : (E i s).meet v = E i s
  · rw [updE_self hc]
    unfold newO
    rw [if_pos hc]
    exact h
  · have hle := fun j r => updE_le (Vl.le_meet_l (E i s) v) j r
    have hO : newO E i s v O = O ++ [(i, s)] := if_neg hc
    refine ⟨fun F hF a r ha hr => ?_, fun a q hq => ?_, fun r hk hr => Vl.le_trans (h.z r hk hr) (hle 0 r), fun a q ha hq hne j hj r hr => ?_⟩
    · unfold updE
      split
      · rename_i e
        rw [e.1, e.2]
        exact Vl.meet_le (h.sound F hF i s hi hs) (hv F hF)
      · exact h.sound F hF a r ha hr
    · rw [hO, List.mem_append] at hq
      rcases hq with hq | hq
      · obtain ⟨h1, h2, h3⟩ := h.opn a q hq
        exact ⟨h1, h2, ne_of_le (hle a q) h3⟩
      · simp only [List.mem_singleton, Prod.mk.injEq] at hq
        obtain ⟨rfl, rfl⟩ := hq
        refine ⟨hi, hs, ?_⟩
        rw [updE_same]
        intro e
        have h1 : (E a q).meet v = .no := e
        have h2 := Vl.le_meet_l (E a q) v
        rw [h1] at h2
        exact hc (by rw [h1, Vl.le_no h2])
    · by_cases ea : a = i
      · subst ea
        by_cases hd : depV X a r s
        · exact Or.inr (Or.inl ⟨s, by rw [hO]; simp, hd⟩)
        · have hrs : r ≠ s := fun e => hd (Or.inl e)
          have hw : wrX X a ≠ (r : Int) := fun e => hd (Or.inr (Or.inl e))
          have eb : bhV X a (updE E a s ((E a s).meet v) a) r = E a r := by
            unfold bhV updE
            rw [if_neg hw, if_neg (fun e => hrs e.2)]
          rw [eb]
          have ew : wyX X a (updE E a s ((E a s).meet v) a) = wyX X a (E a) := by
            unfold wyX wyL
            split
            · rename_i e15
              rw [show updE E a s ((E a s).meet v) a (X a 1).toNat = E a (X a 1).toNat from if_neg fun e => hd (Or.inr (Or.inr ⟨e15, e.2⟩))]
            · rfl
          rw [ew] at hj
          by_cases hn : E a r = .no
          · rw [hn]
            exact Or.inl (Vl.no_le _)
          · have eb2 : bhV X a (E a) r = E a r := by
              unfold bhV
              rw [if_neg hw]
            rcases h.cons a r ha hr hn j hj r hr with h1 | ⟨q', h1, h2⟩ | h1
            · rw [eb2] at h1
              exact Or.inl (Vl.le_trans h1 (hle j r))
            · exact Or.inr (Or.inl ⟨q', newO_mem h1, h2⟩)
            · exact Or.inr (Or.inr h1)
      · rw [updE_row ea] at hne hj ⊢
        rcases h.cons a q ha hq hne j hj r hr with h1 | ⟨q', h1, h2⟩ | h1
        · exact Or.inl (Vl.le_trans h1 (hle j r))
        · exact Or.inr (Or.inl ⟨q', newO_mem h1, h2⟩)
        · exact Or.inr (Or.inr h1)
/-- The order that is being handed on: what comes to order j of it. -/
theorem WkV.bh (h : WkV X l rg k E O P) (hok : ∀ i, i < l → ordE rg m lk l (X i 0) (X i 1) (X i 2) (X i 3) = 0) {a q j s : Nat} (ha : a < l) (hq : q < rg) (hne : E a q ≠ .no) (hs : s < rg) (hj : ∀ F, SolV X l rg F → j ∈ wyX X a (F a)) : ∀ F, SolV X l rg F → (bhV X a (E a) s).le (F j s) := fun F hF => by
  have h1 := h.sound F hF a
  exact Vl.le_trans (bhV_mono hok ha (fun r hr => h1 r (by omega) hr) hs) (hF.s a q ha hq (ne_of_le (h1 q (by omega) hq) hne) j (hj F hF) s hs)
/-- .. and then nothing is left to do there. -/
theorem WkV.give (h : WkV X l rg k E O P) (hok : ∀ i, i < l → ordE rg m lk l (X i 0) (X i 1) (X i 2) (X i 3) = 0) {a q j s : Nat} (ha : a < l) (hq : q < rg) (hne : E a q ≠ .no) (hs : s < rg) (hjl : j ≤ l) (hj : ∀ F, SolV X l rg F → j ∈ wyX X a (F a)) :
    WkV X l rg k (updE E j s ((E j s).meet (bhV X a (E a) s))) (newO E j s (bhV X a (E a) s) O) (fun i b r => P i b r ∧ ¬ (i = a ∧ b = j ∧ r = s)) := by
  have h2 := h.meet hjl hs (h.bh hok ha hq hne hs hj)
  refine ⟨h2.sound, h2.opn, h2.z, fun i s' hi hs' hne' b hb r hr => ?_⟩
  rcases h2.cons i s' hi hs' hne' b hb r hr with h3 | h3 | h3
  · exact Or.inl h3
  · exact Or.inr (Or.inl h3)
  · by_cases e : i = a ∧ b = j ∧ r = s
    · obtain ⟨rfl, rfl, rfl⟩ := e
      by_cases hc : (E b r).meet (bhV X i (E i) r) = E b r
      · rw [updE_self hc]
        left
        have := Vl.le_meet_r (E b r) (bhV X i (E i) r)
        rw [hc] at this
        exact this
      · by_cases eb : b = i
        · subst eb
          exact Or.inr (Or.inl ⟨r, by unfold newO; rw [if_neg hc]; simp, Or.inl rfl⟩)
        · left
          rw [updE_row (fun e => eb e.symm), updE_same]
          exact Vl.le_meet_r _ _
    · exact Or.inr (Or.inr ⟨h3, e⟩)
/-- The last one is taken. -/
theorem WkV.pop {a s : Nat} (h : WkV X l rg k E (O ++ [(a, s)]) (fun _ _ _ => False)) : WkV X l rg k E O (fun i j r => i = a ∧ depV X a r s ∧ j ∈ wyX X a (E a)) :=
  ⟨h.sound, fun i q hq => h.opn i q (List.mem_append_left _ hq), h.z, fun i q hi hq hne j hj r hr => by
    rcases h.cons i q hi hq hne j hj r hr with h1 | ⟨q', h1, h2⟩ | h1
    · exact Or.inl h1
    · rw [List.mem_append] at h1
      rcases h1 with h1 | h1
      · exact Or.inr (Or.inl ⟨q', h1, h2⟩)
      · simp only [List.mem_singleton, Prod.mk.injEq] at h1
        obtain ⟨rfl, rfl⟩ := h1
        exact Or.inr (Or.inr ⟨rfl, h2, hj⟩)
    · exact absurd h1 id⟩
/-- At the end. -/
theorem WkV.done (h : WkV X l rg rg E [] (fun _ _ _ => False)) : LsV X l rg E :=
  ⟨⟨fun r hr => h.z r hr hr, fun i s hi hs hne j hj r hr => by
    rcases h.cons i s hi hs hne j hj r hr with h1 | ⟨q', h1, _⟩ | h1
    · exact h1
    · cases h1
    · exact absurd h1 id⟩, h.sound⟩
theorem newO_meas {E : Nat → Nat → Vl} {i s : Nat} {v : Vl} (hi : i ≤ l) (hs : s < rg) : (newO E i s v O).length + meas l rg (updE E i s ((E i s).meet v)) ≤ O.length + meas l rg E := by
  unfold newO
  split
  · rename_i hc
    rw [updE_self hc]
    exact Nat.le_refl _
  · rename_i hc
    have := meas_lt (l := l) (rg := rg) (E := E) (F := updE E i s ((E i s).meet v)) (fun j r _ _ => updE_le (Vl.le_meet_l (E i s) v) j r) hi hs (by rw [updE_same]; exact hc)
    rw [List.length_append, List.length_singleton]
    omega

/-! The document's passes. -/
section
variable {E0 : Nat → Nat → Vl} {G : Nat → Bool} {ag : Bool}
end
end

/-! What each order becomes. -/
def bConX (X : Nat → Nat → Int) (i : Nat) (e : Nat → Vl) : List I4 :=
  if e 0 = .no then []
  else if X i 0 = 15 then (match e (X i 1).toNat with | .num n => if n = 0 then [(14, X i 2, 0, 0)] else [] | _ => [(X i 0, X i 1, X i 2, X i 3)])
  else if X i 0 = 2 ∨ X i 0 = 3 ∨ X i 0 = 4 ∨ X i 0 = 5 ∨ X i 0 = 6 ∨ X i 0 = 7 then (match mkV (X i 0) (X i 2) (X i 3) e with | .num n => [(1, X i 1, n, 0)] | _ => [(X i 0, X i 1, X i 2, X i 3)])
  else [(X i 0, X i 1, X i 2, X i 3)]
def bCon (X : Nat → Nat → Nat → Int) (E : Nat → Nat → Nat → Vl) : Nat → Nat → List I4 := fun t i => bConX (X t) i (E t i)
theorem bConX_len (X : Nat → Nat → Int) (i : Nat) (e : Nat → Vl) : (bConX X i e).length ≤ 1 := by
  unfold bConX
  repeat' split
  all_goals simp
end

section
open Go.RowKit

/-- A list of numbers lies in w. -/
def IIn (w : World) (a : Option Addr) (n : Nat) (X : Nat → Int) : Prop := ∀ i, i < n → ∃ b o, a = some ⟨b, o, none⟩ ∧ w.cell? ⟨b, o + i, none⟩ = some (.int .i64 (X i))
theorem IIn.below {w w' : World} {a : Option Addr} {n : Nat} {X : Nat → Int} (h : IIn w a n X) (hb : Below w.heap.size w w') : IIn w' a n X := fun i hi => by
  obtain ⟨b, o, hc, h1⟩ := h i hi
  exact ⟨b, o, hc, (hb.cell (lt_of_cell h1)).trans h1⟩
end

section
open Go.RowKit

theorem IsI.iin {w : World} {B : Nat} {a : Option Addr} {len c : Nat} {xs : List Int} (h : IsI w B a len c xs) : IIn w a len (fun i => xs.getD i 0) := fun i hi => by
  obtain ⟨g, cap, h1, h2, _, _⟩ := fam_block h.own (by omega)
  simp only [Value.slice.injEq] at h1
  exact ⟨g, 0, h1.1, by simpa using fam_cell h.own h2 (intsV_at (by rw [h.is]; exact hi))⟩
end

section
open Go.RowKit

theorem bits_pos (op : BinOp) (x y : Int) : 0 ≤ bits op .u64 x y := by
  unfold bits
  simp only [IntKind.wrap_u64]
  exact Int.emod_nonneg _ (by decide)
def sumS (q x : Int) : Int := bits .xor .u64 (IntKind.u64.wrap (bits .xor .u64 q (IntKind.u64.wrap x) * 1099511628211)) (IntKind.u64.wrap (bits .xor .u64 q (IntKind.u64.wrap x) * 1099511628211) / 536870912)
def sumH (l : List Int) : Nat → Int
  | 0 => l.length
  | k + 1 => sumS (sumH l k) (l.getD k 0)
theorem sumH_pos (l : List Int) : ∀ k, 0 ≤ sumH l k
  | 0 => Int.natCast_nonneg _
  | k + 1 => by unfold sumH sumS; exact bits_pos _ _ _
/-- The document's sum of numbers: from 0 to 4095. -/
def sumL (l : List Int) : Nat := (sumH l l.length).toNat % 4096
theorem sumL_lt (l : List Int) : sumL l < 4096 := Nat.mod_lt _ (by decide)
set_option maxHeartbeats 1600000 in
theorem sum_any (a : Option Addr) (l : List Int) (c : Nat) (hn : l.length ≤ 100000) (w : World) (h : IIn w a l.length (fun i => l.getD i 0)) :
    Calls Tryd.prog 112 #[.slice a l.length c] w fun e w' => e = .returned (.int .i64 (sumL l : Nat)) ∧ w' = w := by
  go_enter Tryd.func112, Tryd.ntmps112
  go_wp2
  go_loop [3, 4] (fun s i => ∃ (q : Int) (k : Nat), k ≤ l.length ∧ Hid (q = sumH l k) ∧ s = .int .u64 q ∧ i = .int .i64 k) (fun _ i => l.length - (intOf i).toNat)
  case atStart => exact ⟨_, 0, Nat.zero_le _, rfl, rfl, rfl⟩
  case round =>
    obtain ⟨q, k, hk, hq, rfl, rfl⟩ := hrel
    by_cases hlt : k < l.length
    · obtain ⟨cb, co, rfl, hcell⟩ := h k hlt
      go_wp2
      go_round
      case rel =>
        refine ⟨_, k + 1, by omega, ?_, rfl, by go_num⟩
        show _ = sumS (sumH l k) (l.getD k 0)
        rw [← hq.out, List.getD_eq_getElem?_getD, List.getElem?_eq_getElem hlt]
        rfl
      case measure => simp [intOf]; omega
    · obtain rfl : k = l.length := by omega
      have hp := sumH_pos l l.length
      have e : wrap64 (q.tmod 4096) = (sumL l : Nat) := by
        rw [← hq.out] at hp
        have h1 : q.tmod 4096 = (sumL l : Nat) := by
          unfold sumL
          rw [← hq.out, Int.tmod_eq_emod_of_nonneg hp]
          omega
        rw [h1]
        have := sumL_lt l
        unfold wrap64; omega
      have HE := Hid.out (p := Hid _) e
      clear hp e
      go_wp2
      go_ret
      exact ⟨congrArg (fun n => Ending.returned (.int .i64 n)) HE.out, rfl⟩

/-- A list of numbers, all of it, lies in w. -/
abbrev LI (w : World) (a : Option Addr) (x : List Int) : Prop := IIn w a x.length (fun i => x.getD i 0)
theorem getD_lt {x : List Int} {k : Nat} (h : k < x.length) : x.getD k 0 = x[k] := by rw [List.getD_eq_getElem?_getD, List.getElem?_eq_getElem h]; rfl
theorem take_ext {x y : List Int} {k : Nat} (h : x.take k = y.take k) (h1 : k < x.length) (h2 : k < y.length) (e : x.getD k 0 = y.getD k 0) : x.take (k + 1) = y.take (k + 1) := by
  rw [List.take_add_one, List.take_add_one, h, List.getElem?_eq_getElem h1, List.getElem?_eq_getElem h2, ← getD_lt h1, ← getD_lt h2, e]
theorem lex_drop : ∀ {k : Nat} {x y : List Int}, x.take k = y.take k → lexL x y = lexL (x.drop k) (y.drop k)
  | 0, _, _, _ => rfl
  | k + 1, [], [], _ => rfl
  | k + 1, [], _ :: _, h => by cases h
  | k + 1, _ :: _, [], h => by cases h
  | k + 1, a :: x, b :: y, h => by
    simp only [List.take_succ_cons, List.cons.injEq] at h
    obtain ⟨rfl, h⟩ := h
    show (if a = a then lexL x y else _) = _
    rw [if_pos rfl]
    exact lex_drop h
theorem lex_at {k : Nat} {x y : List Int} (h : x.take k = y.take k) (h1 : k < x.length) (h2 : k < y.length) (e : x.getD k 0 ≠ y.getD k 0) : lexL x y = decide (x.getD k 0 < y.getD k 0) := by
  rw [lex_drop h, List.drop_eq_getElem_cons h1, List.drop_eq_getElem_cons h2, getD_lt h1, getD_lt h2]
  rw [getD_lt h1, getD_lt h2] at e
  show (if x[k] = y[k] then _ else _) = _
  rw [if_neg e]
theorem lex_end {k : Nat} {x y : List Int} (h : x.take k = y.take k) (hk : x.length ≤ k ∨ y.length ≤ k) (hx : k ≤ x.length) (hy : k ≤ y.length) : lexL x y = decide (x.length < y.length) := by
  rw [lex_drop h]
  rcases hk with hk | hk
  · rw [List.drop_of_length_le hk]
    cases hd : y.drop k with
    | nil =>
      have := congrArg List.length hd
      simp only [List.length_drop, List.length_nil] at this
      rw [show decide (x.length < y.length) = false from decide_eq_false (by omega)]
      rfl
    | cons a r =>
      have := congrArg List.length hd
      simp only [List.length_drop, List.length_cons] at this
      rw [show decide (x.length < y.length) = true from decide_eq_true (by omega)]
      rfl
  · rw [List.drop_of_length_le hk, show decide (x.length < y.length) = false from decide_eq_false (by omega)]
    cases x.drop k <;> rfl
set_option maxHeartbeats 1600000 in
theorem less_any (a b : Option Addr) (x y : List Int) (c d : Nat) (hn : x.length ≤ 100000) (_hm : y.length ≤ 100000) (w : World) (h : LI w a x) (h' : LI w b y) :
    Calls Tryd.prog 128 #[.slice a x.length c, .slice b y.length d] w fun e w' => e = .returned (.bool (lexL x y)) ∧ Below w.heap.size w w' := by
  go_enter Tryd.func128, Tryd.ntmps128
  go_wp2
  go_loopw [5] (fun i wr => ∃ k : Nat, k ≤ x.length ∧ k ≤ y.length ∧ Hid (x.take k = y.take k) ∧ i = .int .i64 k ∧ Below w.heap.size w wr) (fun i _ => x.length - (intOf i).toNat)
  case atStart => exact ⟨0, Nat.zero_le _, Nat.zero_le _, rfl, rfl, Below.refl _ _⟩
  case round =>
    obtain ⟨k, hk, hk', ht, rfl, hbr⟩ := hrel
    by_cases hlt : k < x.length
    · by_cases hlt' : k < y.length
      · obtain ⟨b1, o1, rfl, hc⟩ := h.below hbr k hlt
        obtain ⟨b2, o2, rfl, hc'⟩ := h'.below hbr k hlt'
        by_cases he : x.getD k 0 = y.getD k 0
        · have ht' : Hid (x.take (k + 1) = y.take (k + 1)) := take_ext ht.out hlt hlt' he
          simp only [he] at hc
          clear he
          go_wp2
          go_region
          all_goals go_wp2
          all_goals go_roundw
          case rel => exact ⟨k + 1, by omega, by omega, ht', by go_num, hbr.drew⟩
          case measure => simp [intOf]; omega
        · have HE : Hid (lexL x y = decide (x.getD k 0 < y.getD k 0)) := lex_at ht.out hlt hlt' he
          obtain ⟨u, hu⟩ : ∃ u, x.getD k 0 = u := ⟨_, rfl⟩
          obtain ⟨v, hv⟩ : ∃ v, y.getD k 0 = v := ⟨_, rfl⟩
          simp only [hu] at hc
          simp only [hv] at hc'
          rw [hu, hv] at HE he
          clear hu hv
          go_wp2
          go_region
          all_goals go_wp2
          all_goals go_region
          all_goals go_wp2
          all_goals go_ret
          all_goals exact ⟨congrArg (fun b => Ending.returned (.bool b)) HE.out.symm, hbr.drew.drew⟩
      · have HE : Hid (lexL x y = decide (x.length < y.length)) := lex_end ht.out (Or.inr (by omega)) hk hk'
        go_wp2
        go_ret
        exact ⟨congrArg (fun b => Ending.returned (.bool b)) (by rw [HE.out]), hbr⟩
    · have HE : Hid (lexL x y = decide (x.length < y.length)) := lex_end ht.out (Or.inl (by omega)) hk hk'
      go_wp2
      go_ret
      exact ⟨congrArg (fun b => Ending.returned (.bool b)) (by rw [HE.out]), hbr⟩

set_option maxHeartbeats 1600000 in
/-- Whether two lists are the same. -/
theorem rints_any (a b : Option Addr) (x y : List Int) (c d : Nat) (hn : x.length ≤ 100000) (_hm : y.length ≤ 100000) (w : World) (h : LI w a x) (h' : LI w b y) :
    Calls Tryd.prog 42 #[.slice a x.length c, .slice b y.length d] w fun e w' => e = .returned (.bool (decide (x = y))) ∧ Below w.heap.size w w' := by
  by_cases hl : x.length = y.length
  rotate_left
  · have HE : Hid (decide (x = y) = false) := decide_eq_false (fun e => hl (by rw [e]))
    have hl' : ¬ (x.length : Int) = y.length := by omega
    go_enter Tryd.func42, Tryd.ntmps42
    go_wp2
    go_ret
    exact ⟨congrArg (fun b => Ending.returned (.bool b)) HE.out.symm, Below.refl _ _⟩
  obtain ⟨n, hx⟩ : ∃ n, x.length = n := ⟨_, rfl⟩
  have hy : y.length = n := by omega
  have hn' : n ≤ 100000 := by omega
  have h1 : IIn w a n (fun i => x.getD i 0) := by rw [← hx]; exact h
  have h2 : IIn w b n (fun i => y.getD i 0) := by rw [← hy]; exact h'
  have HX : Hid (x.length = n) := hx
  have HY : Hid (y.length = n) := hy
  rw [hx, hy]
  clear h h' hx hy hl hn _hm
  go_enter Tryd.func42, Tryd.ntmps42
  go_wp2
  go_loopw [5] (fun i wr => ∃ k : Nat, k ≤ n ∧ Hid (x.take k = y.take k) ∧ i = .int .i64 k ∧ Below w.heap.size w wr) (fun i _ => n - (intOf i).toNat)
  case atStart => exact ⟨0, Nat.zero_le _, rfl, rfl, Below.refl _ _⟩
  case round =>
    obtain ⟨k, hk, ht, rfl, hbr⟩ := hrel
    by_cases hlt : k < n
    · obtain ⟨b1, o1, rfl, hc⟩ := h1.below hbr k hlt
      obtain ⟨b2, o2, rfl, hc'⟩ := h2.below hbr k hlt
      by_cases he : x.getD k 0 = y.getD k 0
      · have ht' : Hid (x.take (k + 1) = y.take (k + 1)) := take_ext ht.out (by rw [HX.out]; exact hlt) (by rw [HY.out]; exact hlt) he
        simp only [he] at hc
        clear he
        go_wp2
        go_region
        all_goals go_wp2
        all_goals go_roundw
        case rel => exact ⟨k + 1, by omega, ht', by go_num, hbr.drew⟩
        case measure => simp [intOf]; omega
      · have HE : Hid (decide (x = y) = false) := decide_eq_false (fun e => he (by rw [e]))
        obtain ⟨u, hu⟩ : ∃ u, x.getD k 0 = u := ⟨_, rfl⟩
        obtain ⟨v, hv⟩ : ∃ v, y.getD k 0 = v := ⟨_, rfl⟩
        simp only [hu] at hc
        simp only [hv] at hc'
        rw [hu, hv] at he
        clear hu hv
        go_wp2
        go_region
        all_goals go_wp2
        all_goals go_ret
        all_goals exact ⟨congrArg (fun b => Ending.returned (.bool b)) HE.out.symm, hbr.drew⟩
    · have HE : Hid (decide (x = y) = true) := decide_eq_true (by
        have := ht.out
        rwa [List.take_of_length_le (by rw [HX.out]; omega), List.take_of_length_le (by rw [HY.out]; omega)] at this)
      go_wp2
      go_ret
      exact ⟨congrArg (fun b => Ending.returned (.bool b)) HE.out.symm, hbr⟩

/-- An outcome as a value. -/
abbrev ocV (st : Int) (wa : Option Addr) (wl wc : Nat) (pa : Option Addr) (pl pc : Nat) : Value := .agg #[.int .i64 st, .slice wa wl wc, .slice pa pl pc]

/-- An outcome lies in w. -/
structure OcAt (w : World) (v : Value) (o : Oc) : Prop where
  ex : ∃ wa wc pa pc, v = ocV o.st wa o.ws.length wc pa o.pr.length pc ∧ LI w wa o.ws ∧ LI w pa o.pr
set_option maxHeartbeats 1600000 in
theorem ahead_any (w : World) (u v : Value) (a b : Oc) (hu : OcAt w u a) (hv : OcAt w v b) (h1 : a.ws.length ≤ 100000) (h2 : b.ws.length ≤ 100000) (h3 : a.pr.length ≤ 100000) (h4 : b.pr.length ≤ 100000) :
    Calls Tryd.prog 97 #[u, v] w fun e w' => e = .returned (.bool (aheadO a b)) ∧ Below w.heap.size w w' := by
  obtain ⟨wa, wc, pa, pc, rfl, k1, k2⟩ := hu.ex
  obtain ⟨va, vc, qa, qc, rfl, k3, k4⟩ := hv.ex
  clear hu hv
  obtain ⟨sa, ws, pr⟩ := a
  obtain ⟨sb, vs, qr⟩ := b
  simp only at h1 h2 h3 h4 k1 k2 k3 k4 ⊢
  obtain ⟨UC, hUC⟩ : ∃ o : Obj, o = .cells #[.int .i64 sa, .slice wa ws.length wc, .slice pa pr.length pc] 53 := ⟨_, rfl⟩
  obtain ⟨VC, hVC⟩ : ∃ o : Obj, o = .cells #[.int .i64 sb, .slice va vs.length vc, .slice qa qr.length qc] 53 := ⟨_, rfl⟩
  have HB0 : Below w.heap.size w ((w.alloc UC).alloc VC) := ((Below.refl _ _).alloc (Nat.le_refl _) _).alloc (by simp) _
  have b1 : ((w.alloc UC).alloc VC).heap[w.heap.size]? = some UC := box_later (heap_alloc_new _ _) _
  have b2 : ((w.alloc UC).alloc VC).heap[w.heap.size + 1]? = some VC := by have := heap_alloc_new (w.alloc UC) VC; rwa [World.size_alloc] at this
  have HI : Hid (Calls Tryd.prog 42 #[.slice wa ws.length wc, .slice va vs.length vc] ((w.alloc UC).alloc VC) fun e w' => e = .returned (.bool (decide (ws = vs))) ∧ Below ((w.alloc UC).alloc VC).heap.size ((w.alloc UC).alloc VC) w') := rints_any wa va ws vs wc vc h1 h2 _ (IIn.below k1 HB0) (IIn.below k3 HB0)
  have HL1 : Hid (∀ W, Below ((w.alloc UC).alloc VC).heap.size ((w.alloc UC).alloc VC) W → Calls Tryd.prog 128 #[.slice wa ws.length wc, .slice va vs.length vc] W fun e w' => e = .returned (.bool (lexL ws vs)) ∧ Below w.heap.size w w') := fun W hb => (less_any wa va ws vs wc vc h1 h2 W (IIn.below (IIn.below k1 HB0) hb) (IIn.below (IIn.below k3 HB0) hb)).mono fun e w' g => ⟨g.1, (HB0.trans (hb.mono HB0.size)).trans (g.2.mono (HB0.trans (hb.mono HB0.size)).size)⟩
  have HL2 : Hid (∀ W, Below ((w.alloc UC).alloc VC).heap.size ((w.alloc UC).alloc VC) W → Calls Tryd.prog 128 #[.slice pa pr.length pc, .slice qa qr.length qc] W fun e w' => e = .returned (.bool (lexL pr qr)) ∧ Below w.heap.size w w') := fun W hb => (less_any pa qa pr qr pc qc h3 h4 W (IIn.below (IIn.below k2 HB0) hb) (IIn.below (IIn.below k4 HB0) hb)).mono fun e w' g => ⟨g.1, (HB0.trans (hb.mono HB0.size)).trans (g.2.mono (HB0.trans (hb.mono HB0.size)).size)⟩
  have HC : Hid (∀ W, Below ((w.alloc UC).alloc VC).heap.size ((w.alloc UC).alloc VC) W → (W.cell? ⟨w.heap.size, 1, none⟩ = some (.slice wa ws.length wc) ∧ W.cell? ⟨w.heap.size, 2, none⟩ = some (.slice pa pr.length pc)) ∧ W.cell? ⟨w.heap.size + 1, 1, none⟩ = some (.slice va vs.length vc) ∧ W.cell? ⟨w.heap.size + 1, 2, none⟩ = some (.slice qa qr.length qc)) := fun W hb => by
    have k1 := ((hb.block _ (by simp; omega)).trans b1).trans (congrArg some hUC)
    have k2 := ((hb.block _ (by simp)).trans b2).trans (congrArg some hVC)
    exact ⟨⟨box_cell k1 rfl, box_cell k1 rfl⟩, box_cell k2 rfl, box_cell k2 rfl⟩
  have HBH := Hid.out (p := Hid _) HB0
  rw [hUC, hVC] at HI HL1 HL2 HC HBH
  clear k1 k2 k3 k4 HB0 b1 b2 hUC hVC h1 h2 h3 h4
  by_cases hst : sa = sb
  rotate_left
  · have HE : Hid (aheadO ⟨sa, ws, pr⟩ ⟨sb, vs, qr⟩ = decide (sa < sb)) := if_pos hst
    go_enter Tryd.func97, Tryd.ntmps97
    go_wp2
    go_ret
    exact ⟨congrArg (fun b => Ending.returned (.bool b)) HE.out.symm, HBH.out⟩
  subst hst
  by_cases hws : ws = vs
  · have HE : Hid (aheadO ⟨sa, ws, pr⟩ ⟨sa, vs, qr⟩ = lexL pr qr) := by
      show _ = _
      unfold aheadO
      rw [if_neg (by simp), if_neg (by simpa using hws)]
    have HD : Hid (decide (ws = vs) = true) := decide_eq_true hws
    clear hws
    go_enter Tryd.func97, Tryd.ntmps97
    go_wp2_with (fail)
    refine Calls.mono HI.out ?_
    rintro e w1 ⟨rfl, hb1⟩
    rw [HD.out]
    obtain ⟨⟨_, c2⟩, _, c4⟩ := HC.out w1 hb1
    have HL := Hid.out (p := Hid _) (HL2.out w1 hb1)
    clear hb1 HI HL1 HL2 HC
    go_wp2_with (fail)
    refine Calls.mono HL.out ?_
    rintro e w2 ⟨rfl, hb2⟩
    go_wp2
    go_ret
    exact ⟨congrArg (fun b => Ending.returned (.bool b)) HE.out.symm, hb2⟩
  · have HE : Hid (aheadO ⟨sa, ws, pr⟩ ⟨sa, vs, qr⟩ = lexL ws vs) := by
      show _ = _
      unfold aheadO
      rw [if_neg (by simp), if_pos hws]
    have HD : Hid (decide (ws = vs) = false) := decide_eq_false hws
    clear hws
    go_enter Tryd.func97, Tryd.ntmps97
    go_wp2_with (fail)
    refine Calls.mono HI.out ?_
    rintro e w1 ⟨rfl, hb1⟩
    rw [HD.out]
    obtain ⟨⟨c1, _⟩, c3, _⟩ := HC.out w1 hb1
    have HL := Hid.out (p := Hid _) (HL1.out w1 hb1)
    clear hb1 HI HL1 HL2 HC
    go_wp2_with (fail)
    refine Calls.mono HL.out ?_
    rintro e w2 ⟨rfl, hb2⟩
    go_wp2
    go_ret
    exact ⟨congrArg (fun b => Ending.returned (.bool b)) HE.out.symm, hb2⟩
end

section
open Go.RowKit

/-! An outcome put into its place, one behind the other. -/
theorem ins_end {o : Oc} : ∀ {l : List Oc}, (∀ x, x ∈ l → aheadO x o = true) → insO o l = l ++ [o]
  | [], _ => rfl
  | a :: l, h => by
    have h1 := h a (by simp)
    unfold insO
    rw [ahead_asym h1, h1, ins_end (fun x hx => h x (by simp [hx]))]
    rfl
theorem ins_mid {o x : Oc} {r : List Oc} (hx : aheadO o x = true) : ∀ {l : List Oc}, (∀ y, y ∈ l → aheadO y o = true) → insO o (l ++ x :: r) = l ++ o :: x :: r
  | [], _ => by
    show insO o (x :: r) = _
    unfold insO
    rw [hx]
    rfl
  | a :: l, h => by
    have h1 := h a (by simp)
    show insO o (a :: (l ++ x :: r)) = _
    unfold insO
    rw [ahead_asym h1, h1, ins_mid hx (fun y hy => h y (by simp [hy]))]
    rfl
theorem ins_in {o : Oc} {r : List Oc} : ∀ {l : List Oc}, (∀ y, y ∈ l → aheadO y o = true) → insO o (l ++ o :: r) = l ++ o :: r
  | [], _ => by
    show insO o (o :: r) = _
    unfold insO
    rw [ahead_irr]
    rfl
  | a :: l, h => by
    have h1 := h a (by simp)
    show insO o (a :: (l ++ o :: r)) = _
    unfold insO
    rw [ahead_asym h1, h1, ins_in (fun y hy => h y (by simp [hy]))]
    rfl
/-- What has been written so far, of the first k. -/
def putK (o : Oc) (l : List Oc) (done : Bool) (k : Nat) : List Oc := if done then insO o (l.take k) else l.take k
structure PutI (o : Oc) (l : List Oc) (done : Bool) (k : Nat) : Prop where
  no : done = false → ∀ x, x ∈ l.take k → aheadO x o = true
  yes : done = true → ∃ l1 x l2, l.take k = l1 ++ x :: l2 ∧ aheadO o x = true ∧ ∀ y, y ∈ l1 → aheadO y o = true
theorem PutI.start (o : Oc) (l : List Oc) : PutI o l false 0 := ⟨fun _ x hx => (by cases hx), fun h => (by cases h)⟩
section
variable {o : Oc} {l : List Oc} {k : Nat}
theorem take_next (hk : k < l.length) : l.take (k + 1) = l.take k ++ [l.getD k default] := by
  rw [List.take_add_one, List.getElem?_eq_getElem hk, List.getD_eq_getElem?_getD, List.getElem?_eq_getElem hk]
  rfl
theorem PutI.later {done : Bool} (h : PutI o l done k) (hk : k < l.length) (hd : done = true) : PutI o l true (k + 1) ∧ putK o l true (k + 1) = putK o l done k ++ [l.getD k default] := by
  obtain ⟨l1, x, l2, e, hx, hy⟩ := h.yes hd
  have e2 : l.take (k + 1) = l1 ++ x :: (l2 ++ [l.getD k default]) := by rw [take_next hk, e]; simp
  refine ⟨⟨fun h => (by cases h), fun _ => ⟨l1, x, _, e2, hx, hy⟩⟩, ?_⟩
  unfold putK
  rw [if_pos rfl, if_pos hd, e2, e, ins_mid hx hy, ins_mid hx hy]
  simp
theorem PutI.now (h : PutI o l false k) (hk : k < l.length) (ho : aheadO o (l.getD k default) = true) : PutI o l true (k + 1) ∧ putK o l true (k + 1) = putK o l false k ++ [o] ++ [l.getD k default] := by
  refine ⟨⟨fun h => (by cases h), fun _ => ⟨l.take k, _, [], take_next hk, ho, h.no rfl⟩⟩, ?_⟩
  unfold putK
  rw [if_pos rfl, if_neg (by simp), take_next hk, ins_mid ho (h.no rfl)]
  simp
theorem PutI.skip (h : PutI o l false k) (hk : k < l.length) (ho : aheadO (l.getD k default) o = true) : PutI o l false (k + 1) ∧ putK o l false (k + 1) = putK o l false k ++ [l.getD k default] := by
  refine ⟨⟨fun _ x hx => ?_, fun h => by cases h⟩, ?_⟩
  · rw [take_next hk] at hx
    rcases List.mem_append.mp hx with hx | hx
    · exact h.no rfl x hx
    · rw [List.mem_singleton.mp hx]; exact ho
  · unfold putK
    rw [if_neg (by simp), if_neg (by simp), take_next hk]
/-- One that is there already. -/
theorem PutI.there {done : Bool} (h : PutI o l done k) (hs : SortedO l) (hk : k < l.length) (h1 : aheadO o (l.getD k default) = false) (h2 : aheadO (l.getD k default) o = false) : insO o l = l := by
  have e := ahead_tri h1 h2
  have hd : l = l.take k ++ l.getD k default :: l.drop (k + 1) := by
    have := List.take_append_drop (k + 1) l
    rw [take_next hk, List.append_assoc] at this
    exact this.symm
  cases done with
  | false =>
    rw [hd, ← e]
    exact ins_in (h.no rfl)
  | true =>
    obtain ⟨l1, x, l2, e3, hx, hy⟩ := h.yes rfl
    have hp : SortedO l := hs
    rw [hd, e3, SortedO, List.pairwise_append] at hp
    have := hp.2.2 x (by simp) (l.getD k default) (by simp)
    rw [← e, ahead_asym hx] at this
    cases this
theorem PutI.last {done : Bool} (h : PutI o l done l.length) : insO o l = if done then putK o l true l.length else putK o l false l.length ++ [o] := by
  cases done with
  | false =>
    have := h.no rfl
    rw [List.take_length] at this
    rw [if_neg (by simp), ins_end this]
    unfold putK
    rw [if_neg (by simp), List.take_length]
  | true =>
    rw [if_pos rfl]
    unfold putK
    rw [if_pos rfl, List.take_length]
end
end

section
open Go.RowKit

/-- The last of the first n whose sum is h; -1: none. -/
def lastS (f : Nat → Nat) (h : Nat) : Nat → Int
  | 0 => -1
  | n + 1 => if f n = h then (n : Int) else lastS f h n
section
variable {f : Nat → Nat} {h : Nat}
theorem last_lt : ∀ n, lastS f h n < n
  | 0 => by show (-1 : Int) < _; omega
  | n + 1 => by
    unfold lastS
    split
    · omega
    · have := last_lt n; omega
theorem last_low : ∀ n, -1 ≤ lastS f h n
  | 0 => by show (-1 : Int) ≤ -1; omega
  | n + 1 => by
    unfold lastS
    split
    · omega
    · exact last_low n
/-- The last one is of the sum, and none behind it is. -/
theorem last_is : ∀ n i, lastS f h n = (i : Nat) → f i = h ∧ ∀ j, i < j → j < n → f j ≠ h
  | 0, i, e => by
    have : (-1 : Int) = (i : Nat) := e
    omega
  | n + 1, i, e => by
    unfold lastS at e
    by_cases hn : f n = h
    · rw [if_pos hn] at e
      obtain rfl : n = i := by omega
      exact ⟨hn, fun j h1 h2 => by omega⟩
    · rw [if_neg hn] at e
      obtain ⟨h1, h2⟩ := last_is n i e
      refine ⟨h1, fun j h3 h4 => ?_⟩
      rcases Nat.lt_or_ge j n with h5 | h5
      · exact h2 j h3 h5
      · obtain rfl : j = n := by omega
        exact hn
theorem last_none : ∀ n, lastS f h n < 0 → ∀ j, j < n → f j ≠ h
  | 0, _, j, hj => absurd hj (Nat.not_lt_zero _)
  | n + 1, e, j, hj => by
    unfold lastS at e
    by_cases hn : f n = h
    · rw [if_pos hn] at e; omega
    · rw [if_neg hn] at e
      rcases Nat.lt_or_ge j n with h5 | h5
      · exact last_none n e j h5
      · obtain rfl : j = n := by omega
        exact hn
theorem last_congr {g : Nat → Nat} : ∀ n, (∀ i, i < n → g i = f i) → lastS g h n = lastS f h n
  | 0, _ => rfl
  | n + 1, e => by
    unfold lastS
    rw [e n (by omega), last_congr n (fun i hi => e i (by omega))]
end
end

section
open Go.RowKit

def vlV (x : Vl) : Value := .agg #[.int .i64 (x.st : Int), .int .i64 x.nb]
/-! A row of values in a block. -/
section
variable {w w' : World} {g n r : Nat} {e f : Nat → Vl}
end
end

section
open Go.RowKit

theorem low2 (w : World) (o1 o2 : Obj) : Below w.heap.size w ((w.alloc o1).alloc o2) := ((Below.refl _ _).alloc (Nat.le_refl _) _).alloc (by simp) _
theorem low4 (w : World) (o1 o2 o3 o4 : Obj) : Below w.heap.size w ((((w.alloc o1).alloc o2).alloc o3).alloc o4) := ((low2 w o1 o2).alloc (by simp; omega) _).alloc (by simp; omega) _
end

end Go.Proofs.YtkailbdjilkneaaDoor
