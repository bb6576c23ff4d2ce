/-
  Orders that clash, as lists of five numbers, rising: plain functions.
  A copy of a list of numbers, by the program.
  The program's memory ahead of the first step: copies of lists, one number again and again.
  The word that a thread's next order touches, by the document.
-/
import Derived.Test.YtgofbkgfonlceacGreatDoorRaceP
import Derived.Test.YtgofbkgfonlceacGreatDoorOrder
import Derived.WalkKit
import Derived.WalkSpells
import Derived.WalkLawsBesides
import Derived.Lib.SmallJoins
import Derived.Test.YtgofbkgfonlceacGreatDoorRLk
import Derived.Test.YtgofbkgfonlceacGreatDoorRMay
namespace Go.Proofs.YtgofbkgfonlceacGreatDoor
section
open Go.RowKit

/-- Each comes ahead of all that stand behind it. -/
def SortedL (l : List (List Int)) : Prop := l.Pairwise fun a b => lexL a b = true
theorem lex_asym {a b : List Int} (h : lexL a b = true) : lexL b a = false := by
  cases e : lexL b a with
  | false => rfl
  | true => have := lex_trans h e; rw [lex_irr] at this; cases this
theorem sortedL_same : ∀ {l r : List (List Int)}, SortedL l → SortedL r → (∀ o, o ∈ l ↔ o ∈ r) → l = r
  | [], [], _, _, _ => rfl
  | [], b :: r, _, _, h => by have := (h b).2 (by simp); cases this
  | a :: l, [], _, _, h => by have := (h a).1 (by simp); cases this
  | a :: l, b :: r, hl, hr, h => by
    rw [SortedL, List.pairwise_cons] at hl hr
    have ha := (h a).1 (by simp)
    have hb := (h b).2 (by simp)
    have e : a = b := by
      rcases List.mem_cons.mp ha with e | ha
      · exact e
      · rcases List.mem_cons.mp hb with e | hb
        · exact e.symm
        · have h1 := hl.1 b hb
          have h2 := hr.1 a ha
          rw [lex_asym h1] at h2
          cases h2
    subst e
    have hna : ∀ {o}, o ∈ l → o ≠ a := fun ho e => by
      have := hl.1 _ ho
      rw [e, lex_irr] at this
      cases this
    have hnr : ∀ {o}, o ∈ r → o ≠ a := fun ho e => by
      have := hr.1 _ ho
      rw [e, lex_irr] at this
      cases this
    rw [sortedL_same (l := l) (r := r) hl.2 hr.2 (fun o => ⟨fun ho => by
      rcases List.mem_cons.mp ((h o).1 (by simp [ho])) with e | e
      · exact absurd e (hna ho)
      · exact e, fun ho => by
      rcases List.mem_cons.mp ((h o).2 (by simp [ho])) with e | e
      · exact absurd e (hnr ho)
      · exact e⟩)]
/-- One more, into its place, once. -/
def insL (c : List Int) : List (List Int) → List (List Int)
  | [] => [c]
  | x :: l => if lexL c x then c :: x :: l else if lexL x c then x :: insL c l else x :: l
theorem mem_insL {c o : List Int} : ∀ {l : List (List Int)}, o ∈ insL c l ↔ o = c ∨ o ∈ l
  | [] => by simp [insL]
  | x :: l => by
    unfold insL
    split
    · simp
    · rename_i h1
      split
      · rw [List.mem_cons, mem_insL, List.mem_cons]
        exact ⟨fun h => by rcases h with h | h | h <;> simp [h], fun h => by rcases h with h | h | h <;> simp [h]⟩
      · rename_i h2
        have e : c = x := lex_tri (by simpa using h1) (by simpa using h2)
        rw [e, List.mem_cons]
        exact ⟨Or.inr, fun h => by rcases h with h | h | h <;> simp [h]⟩
theorem sorted_insL {c : List Int} : ∀ {l : List (List Int)}, SortedL l → SortedL (insL c l)
  | [], _ => List.pairwise_singleton _ _
  | x :: l, h => by
    have h' := h
    rw [SortedL, List.pairwise_cons] at h'
    unfold insL
    split
    · rename_i h1
      rw [SortedL, List.pairwise_cons]
      exact ⟨fun y hy => by
        rcases List.mem_cons.mp hy with rfl | hy
        · exact h1
        · exact lex_trans h1 (h'.1 y hy), h⟩
    · split
      · rename_i h2
        rw [SortedL, List.pairwise_cons]
        refine ⟨fun y hy => ?_, sorted_insL h'.2⟩
        rcases mem_insL.mp hy with rfl | hy
        · exact h2
        · exact h'.1 y hy
      · exact h
section
variable (L : Nat → Nat) (X : Nat → Nat → Nat → Int)
/-- The word that a thread touches next, where it is able and there is such a word; whether it only stores there. -/
def okT (s : Sx) (t : Nat) : Option (Int × Bool) :=
  if ableT L X s t then (twX X s t).bind fun p => if 0 ≤ p.1 ∧ p.1 < (s.words.length : Int) then some p else none else none
/-- How two threads' next orders clash. -/
def clP (s : Sx) (a b : Nat) : Option (List Int) :=
  (okT L X s a).bind fun p => (okT L X s b).bind fun q => if p.1 = q.1 ∧ (p.2 || q.2) = true then some [(a : Int), ((thOf s a).pc : Int), (b : Int), ((thOf s b).pc : Int), p.1] else none
/-- The clashes of a state. -/
def ClsX (s : Sx) (c : List Int) : Prop := ∃ a b, a < b ∧ b < s.ths.length ∧ clP L X s a b = some c
/-- What is told of clashes. -/
def ToldC (s0 : Sx) (l : List (List Int)) : Prop := SortedL l ∧ ∀ c, c ∈ l ↔ ∃ s, Rch (nxX L X 0) s0 s ∧ ClsX L X s c
end
section
variable {L : Nat → Nat} {X : Nat → Nat → Nat → Int}
theorem toldC_same {s0 : Sx} {l r : List (List Int)} (h1 : ToldC L X s0 l) (h2 : ToldC L X s0 r) : l = r := sortedL_same h1.1 h2.1 fun o => (h1.2 o).trans (h2.2 o).symm
theorem okT_some {s : Sx} {t : Nat} {w : Int} {p : Bool} : okT L X s t = some (w, p) ↔ ableT L X s t = true ∧ twX X s t = some (w, p) ∧ 0 ≤ w ∧ w < (s.words.length : Int) := by
  unfold okT
  cases ha : ableT L X s t with
  | false => simp
  | true =>
    simp only [if_true, true_and]
    cases ht : twX X s t with
    | none => simp
    | some q =>
      obtain ⟨v, r⟩ := q
      simp only [Option.bind_some]
      split
      · rename_i h
        simp only [Option.some.injEq, Prod.mk.injEq]
        exact ⟨fun e => ⟨e, e.1 ▸ h.1, e.1 ▸ h.2⟩, fun e => e.1⟩
      · rename_i h
        simp only [Option.some.injEq, Prod.mk.injEq, reduceCtorEq, false_iff]
        rintro ⟨⟨rfl, _⟩, h1, h2⟩
        exact h ⟨h1, h2⟩
theorem clP_some {s : Sx} {a b : Nat} {c : List Int} : clP L X s a b = some c ↔ ∃ w p q, okT L X s a = some (w, p) ∧ okT L X s b = some (w, q) ∧ (p || q) = true ∧ c = [(a : Int), ((thOf s a).pc : Int), (b : Int), ((thOf s b).pc : Int), w] := by
  unfold clP
  cases h1 : okT L X s a with
  | none => simp
  | some p =>
    cases h2 : okT L X s b with
    | none => simp
    | some q =>
      obtain ⟨v, p⟩ := p
      obtain ⟨u, q⟩ := q
      simp only [Option.bind_some]
      constructor
      · intro h
        split at h
        · rename_i h3
          obtain ⟨rfl, h4⟩ := h3
          cases h
          exact ⟨v, p, q, rfl, rfl, h4, rfl⟩
        · cases h
      · rintro ⟨w, p', q', e1, e2, h4, rfl⟩
        simp only [Option.some.injEq, Prod.mk.injEq] at e1 e2
        obtain ⟨rfl, rfl⟩ := e1
        obtain ⟨rfl, rfl⟩ := e2
        rw [if_pos ⟨rfl, h4⟩]
/-- What two threads' touches make. -/
theorem clP_no {s : Sx} {a b : Nat} (h : okT L X s a = none ∨ okT L X s b = none) : clP L X s a b = none := by
  unfold clP
  rcases h with h | h
  · rw [h]; rfl
  · rw [h]
    cases okT L X s a <;> rfl
theorem clP_two {s : Sx} {a b : Nat} {x y : Int} {p q : Bool} (h1 : okT L X s a = some (x, p)) (h2 : okT L X s b = some (y, q)) : clP L X s a b = if x = y ∧ (p || q) = true then some [(a : Int), ((thOf s a).pc : Int), (b : Int), ((thOf s b).pc : Int), x] else none := by
  unfold clP
  rw [h1, h2]
  rfl
theorem clash_clP {s : Sx} {a b : Nat} {w : Int} (h : ClashX L X s a b w) : ∃ c, clP L X s a b = some c := by
  obtain ⟨h1, h2, h3, h4, p, q, e1, e2, e3⟩ := h
  exact ⟨_, clP_some.mpr ⟨w, p, q, okT_some.mpr ⟨h1, e1, h3, h4⟩, okT_some.mpr ⟨h2, e2, h3, h4⟩, e3, rfl⟩⟩
theorem clash_swap {s : Sx} {a b : Nat} {w : Int} (h : ClashX L X s a b w) : ClashX L X s b a w := by
  obtain ⟨h1, h2, h3, h4, p, q, e1, e2, e3⟩ := h
  exact ⟨h2, h1, h3, h4, q, p, e2, e1, by rw [Bool.or_comm]; exact e3⟩
/-- Where no clash is told, there is none. -/
theorem toldC_none {s0 : Sx} {n : Nat} (h : ToldC L X s0 []) (hn : ∀ s, Rch (nxX L X 0) s0 s → s.ths.length = n) : ∀ s, Rch (nxX L X 0) s0 s → ∀ a b w, a < n → b < n → a ≠ b → ¬ ClashX L X s a b w := fun s hs a b w ha hb hab hc => by
  have key : ∀ a b, a < b → b < n → ClashX L X s a b w → False := fun a b h1 h2 h3 => by
    obtain ⟨c, e⟩ := clash_clP h3
    have := (h.2 c).mpr ⟨s, hs, a, b, h1, by rw [hn s hs]; exact h2, e⟩
    cases this
  rcases Nat.lt_or_gt_of_ne hab with h1 | h1
  · exact key a b h1 hb hc
  · exact key b a h1 ha (clash_swap hc)
end
end

section
open Go.RowKit

attribute [local go_sem ↓] appS_eq
set_option maxRecDepth 100000 in
set_option maxHeartbeats 1600000 in
theorem clone_some (w : World) (sa : Addr) (l : List Int) (c : Nat) (h : SIs w (some sa) l) (hl : l.length * 8 ≤ 140737488355328) :
    Calls Tryz.prog 50 #[.slice (some sa) l.length c] w fun e w' => ∃ g cap, e = .returned (.slice (some ⟨g, 0, none⟩) l.length cap) ∧ w.heap.size ≤ g ∧ w'.ownsRow w.heap.size 3 1 (.slice (some ⟨g, 0, none⟩) l.length cap) l.length (intsV l) ∧ Below w.heap.size w w' := by
  obtain ⟨g, cap, w3, r1, r2, r3, r4, _⟩ := app_src w w.heap.size (Nat.le_refl _) (some sa) l c h hl
  have HF : Hid (Below w.heap.size w w3) := ((Below.refl _ _).alloc (Nat.le_refl _) _).grown r3 (by simp) (fun k hk => by simp at hk; omega)
  have hne := fun W => Lib.run_eql_slice_nil (P := Tryz.prog) W 23 3 (some sa) l.length c 0 0 Tryz.underlying23
  obtain ⟨m, hm⟩ : ∃ m, l.length = m := ⟨_, rfl⟩
  rw [hm] at r1 r2 hne ⊢
  clear h hl r3 hm
  go_enter Tryz.func50, Tryz.ntmps50
  go_wp2
  go_ret
  exact ⟨g, cap, rfl, r4, r2, HF.out⟩
set_option maxRecDepth 100000 in
set_option maxHeartbeats 1600000 in
theorem clone_nil (w : World) : Calls Tryz.prog 50 #[nilV] w fun e w' => e = .returned nilV ∧ w = w' := by
  have hne := fun W => Lib.run_eql_slice_nil (P := Tryz.prog) W 23 3 none 0 0 0 0 Tryz.underlying23
  go_enter Tryz.func50, Tryz.ntmps50
  go_wp2
  go_ret
  exact ⟨rfl, rfl⟩
/-- A copy of a list. -/
theorem clone_any (w : World) (sa : Option Addr) (l : List Int) (c : Nat) (h : SIs w sa l) (hnil : sa = none → l = [] ∧ c = 0) (hl : l.length * 8 ≤ 140737488355328) :
    Calls Tryz.prog 50 #[.slice sa l.length c] w fun e w' => ∃ a cap, e = .returned (.slice a l.length cap) ∧ w'.ownsRow w.heap.size 3 1 (.slice a l.length cap) l.length (intsV l) ∧ Below w.heap.size w w' := by
  cases sa with
  | none =>
    obtain ⟨rfl, rfl⟩ := hnil rfl
    refine (clone_nil w).mono fun e w' h => ⟨none, 0, h.1, World.ownsRow_nil _ _ _ _, ?_⟩
    rw [← h.2]; exact Below.refl _ _
  | some a => exact (clone_some w a l c h hl).mono fun e w' ⟨g, cap, h1, _, h3, h4⟩ => ⟨_, cap, h1, h3, h4⟩
end

section
open Go.RowKit

attribute [local go_sem ↓] appS_eq
set_option maxRecDepth 100000 in
set_option maxHeartbeats 1600000 in
theorem words_any (w : World) (B : Nat) (Q : Cd) (sb mb : Nat) (v : Rp → Value) (s : Sx) (hs : QSt w B Q sb mb v s) (hm : s.words.length ≤ 64) :
    Calls Tryz.prog 188 #[.pointer (some ⟨mb, 0, none⟩)] w fun e w' => ∃ a cap, e = .returned (.slice a s.words.length cap) ∧ w'.ownsRow w.heap.size 3 1 (.slice a s.words.length cap) s.words.length (intsV s.words) ∧ Below w.heap.size w w' := by
  obtain ⟨a, c, hv⟩ := hs.form .words
  change v .words = .slice a s.words.length c at hv
  have k0 := hs.m0
  rw [hv] at k0
  have hown := hs.fam.own .words
  have hsi : SIs w a s.words := fun i hi => by
    obtain ⟨g, cap, h1, h2, _, _⟩ := fam_block hown (by show 0 < s.words.length; omega)
    rw [hv] at h1
    simp only [Value.slice.injEq] at h1
    exact ⟨g, 0, h1.1, by simpa using hs.word h2 hi⟩
  have hnil : a = none → s.words = [] ∧ c = 0 := fun h0 => by
    subst h0
    rw [hv] at hown
    rcases hown.2 with ⟨h1, h2⟩ | ⟨g, cap, cur, h1, _⟩
    · simp only [Value.slice.injEq, true_and] at h1
      exact ⟨List.eq_nil_of_length_eq_zero h1.1, h1.2⟩
    · simp at h1
  have HC := Hid.out (p := Hid _) (clone_any w a s.words c hsi hnil (by omega))
  obtain ⟨m, hmm⟩ : ∃ m, s.words.length = m := ⟨_, rfl⟩
  rw [hmm] at k0 hm HC ⊢
  clear hs hv hown hsi hnil hmm
  go_enter Tryz.func188, Tryz.ntmps188
  go_wp2_with fail
  refine Calls.mono HC.out ?_
  rintro e w1 ⟨g, cap, rfl, h1, h2⟩
  go_wp2_with fail
  go_ret
  exact ⟨g, cap, rfl, h1, h2⟩

/-- A copy's run, kept whole. -/
def CpS (ts : Array TypeId) (ty : TypeId) (args : Array Value) : Sem Value := Builtin.copy_ ts ty args
theorem cpS_eq (ts : Array TypeId) (ty : TypeId) (args : Array Value) : Builtin.copy_ ts ty args = CpS ts ty args := rfl
theorem sizeI : (Tryz.prog.info? 3).map (·.size) = some 1 := by kernel_rfl
/-- The first j of k are there. -/
def repL (j k : Nat) : List Value := intsV (List.replicate j (-1) ++ List.replicate (k - j) 0)
theorem repL_len {j k : Nat} (h : j ≤ k) : (repL j k).length = k := by simp [repL, intsV_len]; omega
theorem heap_setRow {w : World} {g : Nat} {c d : Array Value} {t : TypeId} (h : w.heap[g]? = some (.cells c t (0, 0))) : (w.setRow g d).heap[g]? = some (.cells d t (0, 0)) := by
  unfold World.setRow
  simp only [Array.getElem?_modify, if_true, h, Option.map_some]
theorem heap_setRow_ne {w : World} {g k : Nat} {d : Array Value} (h : k ≠ g) : (w.setRow g d).heap[k]? = w.heap[k]? := by
  unfold World.setRow
  simp only [Array.getElem?_modify]
  rw [if_neg (fun e => h e.symm)]
theorem repL_copy {j k c : Nat} (_hj : j ≤ k) (_hc : c ≤ k - j) : ((repL j k).take j ++ intsV (List.replicate c (-1)) ++ (repL j k).drop (j + c)) = repL (j + c) k := by
  have e : repL j k = intsV (List.replicate j (-1)) ++ intsV (List.replicate (k - j) 0) := by simp [repL, intsV]
  rw [e, List.take_append_of_le_length (by simp [intsV_len]), List.take_of_length_le (by simp [intsV_len]), List.drop_append, List.drop_of_length_le (by simp [intsV_len])]
  simp only [intsV_len, List.length_replicate, List.nil_append]
  rw [show j + c - j = c by omega]
  simp only [repL, intsV, List.map_append, List.map_replicate, List.drop_replicate, List.replicate_append_replicate]
  rw [show k - j - c = k - (j + c) by omega]

theorem mul64_lit (k : Nat) (hk : k ≤ 4) (w : World) : Calls Tryz.prog 114 #[.int .u64 1, .int .u64 (k : Int)] w fun e w' => e = .returned (.tuple #[.int .u64 0, .int .u64 (k : Int)]) ∧ w = w' := by
  rcases (by omega : k = 0 ∨ k = 1 ∨ k = 2 ∨ k = 3 ∨ k = 4) with rfl | rfl | rfl | rfl | rfl
  all_goals
    go_enter Tryz.func114, Tryz.ntmps114
    go_wp2
    go_ret2
    exact ⟨rfl, rfl⟩

theorem mul_lit (k : Nat) (hk : k ≤ 4) (w : World) : Calls Tryz.prog 84 #[.int .u64 1, .int .u64 (k : Int)] w fun e w' => e = .returned (.tuple #[.int .u64 0, .int .u64 (k : Int)]) ∧ w = w' := by
  go_enter Tryz.func84, Tryz.ntmps84
  go_wp2_with fail
  refine (mul64_lit k hk w).mono ?_
  rintro e w1 ⟨rfl, rfl⟩
  go_wp2_with fail
  go_ret2
  exact ⟨rfl, rfl⟩

attribute [local go_sem ↓] cpS_eq
set_option maxRecDepth 100000 in
set_option maxHeartbeats 3200000 in
theorem repeat_any (w : World) (xb k : Nat) (hx : w.cell? ⟨xb, 0, none⟩ = some (.int .i64 (-1))) (hk : k ≤ 4) :
    Calls Tryz.prog 51 #[.slice (some ⟨xb, 0, none⟩) 1 1, .int .i64 (k : Int)] w fun e w' => e = .returned (.slice (some ⟨w.heap.size, 0, none⟩) k k) ∧ w'.heap[w.heap.size]? = some (.cells (intsV (List.replicate k (-1))).toArray 3 (0, 0)) ∧ Below w.heap.size w w' := by
  have hmk := fun W => run_make_row' (P := Tryz.prog) 23 3 (.int .i64 0) 8 Tryz.underlying23 infoI rfl .i64 .i64 k (by omega) (by omega) W
  have hlx := lt_of_cell hx
  obtain ⟨W1, hW1⟩ : ∃ W, W = w.alloc (.cells (madeCells #[.int .i64 0] k) 3) := ⟨_, rfl⟩
  have hh1 : W1.heap[w.heap.size]? = some (.cells (repL 0 k).toArray 3 (0, 0)) := by
    rw [hW1, heap_alloc_new, made_ints]; simp [repL]
  have hx1 : W1.cell? ⟨xb, 0, none⟩ = some (.int .i64 (-1)) := by rw [hW1]; exact cell_up hx _
  have hc1 := run_copy_row (P := Tryz.prog) W1 23 23 3 3 w.heap.size 0 k k ⟨xb, 0, none⟩ 1 1 (repL 0 k).toArray 3 (intsV (List.replicate (min 1 k) (-1))) Tryz.underlying23 sizeI hh1 (by simp [intsV_len, Nat.min_def]) (fun j u hu => by
    have hj : j = 0 := by
      rcases Nat.lt_or_ge j (min 1 k) with h | h
      · omega
      · rw [List.getElem?_eq_none (by simp [intsV_len]; omega)] at hu; cases hu
    subst hj
    have hu' : u = .int .i64 (-1) := by
      simp only [intsV, List.map_replicate, List.getElem?_replicate] at hu
      split at hu
      · simpa using hu.symm
      · cases hu
    rw [hu']
    exact hx1) (by simp [intsV_len, repL_len (Nat.zero_le k)]; omega) (intsV_one _)
  obtain ⟨W2, hW2⟩ : ∃ W, W = W1.setRow w.heap.size ((repL 0 k).toArray.toList.take 0 ++ intsV (List.replicate (min 1 k) (-1)) ++ (repL 0 k).toArray.toList.drop (0 + (intsV (List.replicate (min 1 k) (-1))).length)).toArray := ⟨_, rfl⟩
  rw [← hW2] at hc1
  have hh2 : W2.heap[w.heap.size]? = some (.cells (repL (min 1 k) k).toArray 3 (0, 0)) := by
    rw [hW2, heap_setRow hh1]
    have := repL_copy (j := 0) (k := k) (c := min 1 k) (Nat.zero_le _) (by omega)
    simp only [intsV_len, List.length_replicate]
    rw [Nat.zero_add] at this ⊢
    rw [← this]
  have hb2 : Below w.heap.size w W2 := by
    rw [hW2, hW1]
    exact ⟨rfl, rfl, rfl, by simp [World.setRow], fun j hj => by rw [heap_setRow_ne (by omega), Below.heap_alloc _ _ _ hj]⟩
  have hcl : (intsV (List.replicate (min 1 k) (-1))).length = min 1 k := by simp [intsV_len]
  rw [hcl, hW1] at hc1
  have hrun1 : (CpS #[23, 23] 3 #[.slice (some ⟨w.heap.size, 0, none⟩) k k, .slice (some ⟨xb, 0, none⟩) 1 1]).run Tryz.prog (w.alloc (.cells (madeCells #[.int .i64 0] k) 3)) = .ok (.int .i64 ((min 1 k : Nat) : Int)) W2 := hc1
  have HRND : Hid (∀ wr j, 1 ≤ j → j < k → wr.heap[w.heap.size]? = some (.cells (repL j k).toArray 3 (0, 0)) → Below w.heap.size w wr → ∃ W3, (CpS #[23, 23] 3 #[.slice (some ⟨w.heap.size, j, none⟩) (k - j) (k - j), .slice (some ⟨w.heap.size, 0, none⟩) j k]).run Tryz.prog wr.drew = .ok (.int .i64 ((min j (k - j) : Nat) : Int)) W3 ∧ W3.heap[w.heap.size]? = some (.cells (repL (j + min j (k - j)) k).toArray 3 (0, 0)) ∧ Below w.heap.size w W3) := fun wr j h1 hj hh hb => by
    have hh' : wr.drew.heap[w.heap.size]? = some (.cells (repL j k).toArray 3 (0, 0)) := hh
    have hc := run_copy_row (P := Tryz.prog) wr.drew 23 23 3 3 w.heap.size j (k - j) (k - j) ⟨w.heap.size, 0, none⟩ j k (repL j k).toArray 3 (intsV (List.replicate (min j (k - j)) (-1))) Tryz.underlying23 sizeI hh' (by simp [intsV_len, Nat.min_def]) (fun p u hu => by
      have hp : p < min j (k - j) := by
        rcases Nat.lt_or_ge p (min j (k - j)) with h | h
        · exact h
        · rw [List.getElem?_eq_none (by simp [intsV_len]; omega)] at hu; cases hu
      have hu' : u = .int .i64 (-1) := by
        simp only [intsV, List.map_replicate, List.getElem?_replicate, if_pos hp] at hu
        simpa using hu.symm
      have hadd : (⟨w.heap.size, 0, none⟩ : Addr).add p = ⟨w.heap.size, p, none⟩ := by unfold Addr.add; split <;> simp_all
      rw [hu', hadd, cell_of_row _ _ _ _ _ _ hh']
      have : p < j := by omega
      simp [repL, intsV, List.getElem?_append, this]) (by simp [intsV_len, repL_len (Nat.le_of_lt hj)]; omega) (intsV_one _)
    have hcl2 : (intsV (List.replicate (min j (k - j)) (-1))).length = min j (k - j) := by simp [intsV_len]
    rw [hcl2] at hc
    refine ⟨_, hc, ?_, ?_⟩
    · rw [heap_setRow hh']
      have := repL_copy (j := j) (k := k) (c := min j (k - j)) (by omega) (by omega)
      rw [← this]
    · exact ⟨hb.os, hb.tape, hb.output, by simp [World.setRow]; exact hb.size, fun p hp => by rw [heap_setRow_ne (by omega)]; exact hb.block p hp⟩
  have HFIN : Hid (repL k k = intsV (List.replicate k (-1))) := by show _ = _; simp [repL]
  clear hc1 hW2 hW1 hh1 hx1 hcl
  go_enter Tryz.func51, Tryz.ntmps51
  go_wp2_with fail
  refine (mul_lit k hk w).mono ?_
  rintro e w1 ⟨rfl, rfl⟩
  go_wp2
  go_loopw [8] (fun nv wr => ∃ j : Nat, j ≤ k ∧ (0 < k → 1 ≤ j) ∧ nv = .int .i64 j ∧ Hid (wr.heap[w.heap.size]? = some (.cells (repL j k).toArray 3 (0, 0)) ∧ Below w.heap.size w wr)) (fun nv _ => k - (intOf nv).toNat)
  case atStart => exact ⟨min 1 k, by omega, by omega, rfl, hh2, hb2⟩
  case round =>
    obtain ⟨j, hj, hj1, rfl, HJ⟩ := hrel
    by_cases hlt : j < k
    · obtain ⟨W3, hrun3, h3, h4⟩ := HRND.out wr j (by omega) hlt HJ.out.1 HJ.out.2
      have HN := Hid.out (p := Hid _) (And.intro h3 h4)
      clear h3 h4
      go_wp2
      go_region
      all_goals go_wp2
      all_goals go_roundw
      case rel => exact ⟨j + min j (k - j), by omega, by omega, by go_num, HN⟩
      case measure => simp [intOf]; omega
    · obtain rfl : j = k := by omega
      go_wp2
      go_ret
      exact ⟨rfl, by rw [← HFIN.out]; exact HJ.out.1, HJ.out.2⟩
end

section
open Go.RowKit

theorem tw_word {X : Nat → Nat → Nat → Int} {s : Sx} {t : Nat} {op a b c : Int} (h0 : opT X s t 0 = op) (h1 : opT X s t 1 = a) (h2 : opT X s t 2 = b) (_h3 : opT X s t 3 = c) : twX X s t = if op = 8 then some (b, false) else if op = 9 then some (a, true) else if op = 10 then some (getR s t b, false) else if op = 11 then some (getR s t a, true) else if op = 13 then some (a, false) else none := by
  unfold twX
  rw [h0, h1, h2]
theorem okT_no {L : Nat → Nat} {X : Nat → Nat → Nat → Int} {s : Sx} {t : Nat} (h : ableT L X s t = false) : okT L X s t = none := by
  unfold okT; rw [h]; rfl
theorem okT_in {L : Nat → Nat} {X : Nat → Nat → Nat → Int} {s : Sx} {t : Nat} {w : Int} {p : Bool} (h : ableT L X s t = true) (ht : twX X s t = some (w, p)) (h0 : 0 ≤ w ∧ w < (s.words.length : Int)) : okT L X s t = some (w, p) := okT_some.mpr ⟨h, ht, h0.1, h0.2⟩
theorem okT_out {L : Nat → Nat} {X : Nat → Nat → Nat → Int} {s : Sx} {t : Nat} {w : Int} {p : Bool} (ht : twX X s t = some (w, p)) (h0 : ¬ (0 ≤ w ∧ w < (s.words.length : Int))) : okT L X s t = none := by
  cases e : okT L X s t with
  | none => rfl
  | some q =>
    obtain ⟨v, r⟩ := q
    obtain ⟨_, h2, h3⟩ := okT_some.mp e
    rw [ht] at h2
    cases h2
    exact absurd h3 h0
theorem okT_else {L : Nat → Nat} {X : Nat → Nat → Nat → Int} {s : Sx} {t : Nat} (ht : twX X s t = none) : okT L X s t = none := by
  cases e : okT L X s t with
  | none => rfl
  | some q =>
    obtain ⟨v, r⟩ := q
    have := (okT_some.mp e).2.1
    rw [ht] at this
    cases this
end

end Go.Proofs.YtgofbkgfonlceacGreatDoor
