/-
  Orders that are moved to other places; what orders let wait; what runs come to: plain functions.
  Fences behind orders, by the program.
-/
import Derived.Test.YtgofbkgfonlceadGreatDoorReachP
import Derived.Test.YtgofbkgfonlceadGreatDoorAppB
import Derived.Test.YtgofbkgfonlceadGreatDoorRead
import Derived.Test.YtgofbkgfonlceadGreatDoorRDoP
import Derived.Deep.RegionHeld3
namespace Go.Proofs.YtgofbkgfonlceadGreatDoor
section
open Go.RowKit

/-- An order that lets something wait. -/
def wtO (op : Int) : Bool := decide (op = 9) || decide (op = 11) || decide (op = 18)
theorem wtO_yes {op : Int} (h : wtO op = true) : op = 9 ∨ op = 11 ∨ op = 18 := by simpa [wtO, or_assoc] using h
theorem wtO_no {op : Int} (h : wtO op = false) : op ≠ 9 ∧ op ≠ 11 ∧ op ≠ 18 := by simpa [wtO, and_assoc] using h
/-- An order at its new place: the numbers that tell places tell the new ones. -/
structure MovO (pl : Nat → Nat) (op a b c op' a' b' c' : Int) : Prop where
  o : op' = op
  a : a' = if op = 14 then (pl a.toNat : Int) else a
  b : b' = if op = 15 then (pl b.toNat : Int) else b
  c : c' = c
theorem eff_mov {pl : Nat → Nat} {op a b c op' a' b' c' : Int} (h : MovO pl op a b c op' a' b' c') (pc : Nat) (rs : List Int) (rd : Int → Int) (fr : Int → Bool) (m : Nat) :
    effX (pl pc) rs rd fr m op' a' b' c' = (effX pc rs rd fr m op a b c).map fun x => (pl x.1, x.2) := by
  obtain ⟨rfl, rfl, rfl, rfl⟩ := h
  unfold effX
  rcases op_cases op' with h | rfl | rfl | rfl | rfl | rfl | rfl | rfl | rfl | rfl | rfl | rfl | rfl | rfl | rfl | rfl | rfl | rfl | rfl
  · repeat rw [if_neg (by omega)]
    rfl
  all_goals simp only [Int.reduceEq, ↓reduceIte, Option.map_some]
  all_goals first
    | rfl
    | (split <;> rfl)
/-- What an order puts into its thread's buffer. -/
def StoreOf (X : Nat → Nat → Nat → Int) (s : Sx) (t : Nat) (x : Wt) : Prop :=
  (opT X s t 0 = 9 ∧ x = ⟨false, opT X s t 1, getR s t (opT X s t 2)⟩) ∨
  (opT X s t 0 = 11 ∧ (0 ≤ getR s t (opT X s t 1) ∧ getR s t (opT X s t 1) < s.words.length) ∧ x = ⟨false, getR s t (opT X s t 1), getR s t (opT X s t 2)⟩) ∨
  (opT X s t 0 = 18 ∧ s.own.getD (opT X s t 1).toNat 0 = (t : Int) ∧ x = ⟨true, opT X s t 1, 0⟩)
def akOf (x : Wt) : Ak := if x.lk then .free x.wh else .put x.wh x.what
theorem act_ak {mode : Int} {s : Sx} {t : Nat} {x : Wt} (h : x.lk = true → x.what = 0) : actX mode s t (akOf x) = storeW mode s t x := by
  obtain ⟨l, w, v⟩ := x
  cases l with
  | false => rfl
  | true =>
    have : v = 0 := h rfl
    subst this
    rfl
theorem StoreOf.zero {X : Nat → Nat → Nat → Int} {s : Sx} {t : Nat} {x : Wt} (h : StoreOf X s t x) : x.lk = true → x.what = 0 := by
  rcases h with ⟨_, rfl⟩ | ⟨_, _, rfl⟩ | ⟨_, _, rfl⟩ <;> intro h <;> first | rfl | cases h
theorem StoreOf.wt {X : Nat → Nat → Nat → Int} {s : Sx} {t : Nat} {x : Wt} (h : StoreOf X s t x) : wtO (opT X s t 0) = true := by
  rcases h with ⟨h, _⟩ | ⟨h, _⟩ | ⟨h, _⟩ <;> rw [h] <;> rfl
theorem store_eff {X : Nat → Nat → Nat → Int} {s : Sx} {t : Nat} (ho : wtO (opT X s t 0) = true) :
    effT X s t = none ∨ ∃ x, StoreOf X s t x ∧ effT X s t = some ((thOf s t).pc + 1, (thOf s t).regs, akOf x) := by
  unfold effT effX
  rcases wtO_yes ho with h | h | h
  all_goals rw [h]
  all_goals simp only [Int.reduceEq, ↓reduceIte]
  · exact Or.inr ⟨_, Or.inl ⟨h, rfl⟩, rfl⟩
  · split
    · exact Or.inl rfl
    · rename_i h1
      exact Or.inr ⟨⟨false, getR s t (opT X s t 1), getR s t (opT X s t 2)⟩, Or.inr (Or.inl ⟨h, by unfold getR; omega, rfl⟩), rfl⟩
  · split
    · rename_i h1
      refine Or.inr ⟨⟨true, opT X s t 1, 0⟩, Or.inr (Or.inr ⟨h, ?_, rfl⟩), rfl⟩
      unfold freesW at h1
      simp only [Bool.and_eq_true, decide_eq_true_eq] at h1
      exact h1.1
    · exact Or.inl rfl
theorem StoreOf.eff {X : Nat → Nat → Nat → Int} {s : Sx} {t : Nat} {x : Wt} (h : StoreOf X s t x) (hw : (thOf s t).wait = []) : effT X s t = some ((thOf s t).pc + 1, (thOf s t).regs, akOf x) := by
  unfold effT effX
  rcases h with ⟨h, rfl⟩ | ⟨h, h1, rfl⟩ | ⟨h, h1, rfl⟩
  all_goals rw [h]
  all_goals simp only [Int.reduceEq, ↓reduceIte]
  · rfl
  · unfold getR at h1
    rw [if_neg (by omega)]
    rfl
  · have : freesW s t (opT X s t 1) = true := by
      unfold freesW
      rw [hw, h1]
      simp
    rw [this]
    rfl
/-- What another thread's order leaves of it. -/
theorem StoreOf.same {X : Nat → Nat → Nat → Int} {s r : Sx} {t : Nat} {x : Wt} (h : StoreOf X s t x) (ht : thOf r t = thOf s t) (hm : r.words.length = s.words.length) (ho : ∀ a, s.own.getD a 0 = (t : Int) → r.own.getD a 0 = (t : Int)) : StoreOf X r t x := by
  unfold StoreOf opT getR at *
  rw [ht, hm]
  rcases h with h | h | ⟨h1, h2, h3⟩
  · exact Or.inl h
  · exact Or.inr (Or.inl h)
  · exact Or.inr (Or.inr ⟨h1, ho _ h2, h3⟩)
/-- An order that lets nothing wait puts nothing into a buffer. -/
theorem eff_no {pc : Nat} {rs : List Int} {rd : Int → Int} {fr : Int → Bool} {m : Nat} {op a b c : Int} {p : Nat} {r : List Int} {k : Ak} (ho : wtO op = false) (h : effX pc rs rd fr m op a b c = some (p, r, k)) : (∀ a v, k ≠ .put a v) ∧ ∀ a, k ≠ .free a := by
  obtain ⟨h1, h2, h3⟩ := wtO_no ho
  refine ⟨fun y v e => ?_, fun y e => ?_⟩
  · subst e
    rcases eff_put h with ⟨h, _⟩ | ⟨h, _⟩
    · exact h1 h
    · exact h2 h
  · subst e
    exact h3 (eff_free h).1
theorem moves_nil {L : Nat → Nat} {X : Nat → Nat → Nat → Int} {mode : Int} {s : Sx} : movesX L X mode s = [] ↔ ∀ t, t < s.ths.length → ableT L X s t = false ∧ (thOf s t).wait = [] := by
  constructor
  · intro h t ht
    refine ⟨?_, Classical.byContradiction fun hne => mem_wait ht hne h⟩
    cases e : ableT L X s t with
    | false => rfl
    | true =>
      have := mem_order (mode := mode) ht e
      rw [h] at this
      cases this
  · intro h
    unfold movesX
    rw [List.flatMap_eq_nil_iff]
    intro t ht
    obtain ⟨h1, h2⟩ := h t (by simpa using ht)
    unfold movesT
    rw [h1, h2]
    rfl
theorem rch_ord {L : Nat → Nat} {X : Nat → Nat → Nat → Int} {mode : Int} {s0 s : Sx} (h : Rch (nxX L X mode) s0 s) {t : Nat} (ht : t < s.ths.length) (ha : ableT L X s t = true) (hf : (doX X mode s (8 * t)).fell = false) : Rch (nxX L X mode) s0 (doX X mode s (8 * t)) :=
  h.step (mem_nx.mpr ⟨8 * (t : Int), mem_order ht ha, do_nat, hf⟩)
theorem outs_end {L : Nat → Nat} {X : Nat → Nat → Nat → Int} {mode : Int} {s : Sx} (h : movesX L X mode s = []) : (⟨if endedX L s then 0 else 2, s.words, s.prints⟩ : Oc) ∈ outsX L X mode s := by
  unfold outsX
  rw [if_pos h, List.mem_append]
  exact Or.inl (by simp)
theorem outs_fall {L : Nat → Nat} {X : Nat → Nat → Nat → Int} {mode : Int} {s : Sx} {t : Nat} (ht : t < s.ths.length) (ha : ableT L X s t = true) (he : effT X s t = none) : (⟨1, [], s.prints⟩ : Oc) ∈ outsX L X mode s := by
  unfold outsX
  rw [List.mem_append, List.mem_filterMap]
  refine Or.inr ⟨8 * (t : Int), mem_order ht ha, ?_⟩
  rw [do_nat, do_eff ht (fun e => able_13 ha (Or.inr (Or.inl e))), he]
  rfl
/-- What runs come to: none can go on, or one falls. -/
theorem outs_cases {L : Nat → Nat} {X : Nat → Nat → Nat → Int} {mode : Int} {s : Sx} (hf : s.fell = false) (hwl : ∀ t, t < s.ths.length → (thOf s t).wait.length ≤ 3) {o : Oc} (h : o ∈ outsX L X mode s) :
    (movesX L X mode s = [] ∧ o = ⟨if endedX L s then 0 else 2, s.words, s.prints⟩) ∨ ∃ t, t < s.ths.length ∧ ableT L X s t = true ∧ effT X s t = none ∧ o = ⟨1, [], s.prints⟩ := by
  unfold outsX at h
  rw [List.mem_append] at h
  rcases h with h | h
  · by_cases e : movesX L X mode s = []
    · rw [if_pos e] at h
      exact Or.inl ⟨e, by simpa using h⟩
    · rw [if_neg e] at h; cases h
  · rw [List.mem_filterMap] at h
    obtain ⟨mv, hmv, ho⟩ := h
    split at ho
    · rename_i hfe
      cases ho
      rcases movesX_mem hmv with ⟨t, ht, rfl, ha⟩ | ⟨t, k, ht, hk2, rfl, hmay⟩
      · have e13 : opT X s t 0 = 13 → (thOf s t).wait = [] := fun e => able_13 ha (Or.inr (Or.inl e))
        rw [do_nat, do_eff ht e13] at hfe ⊢
        rw [eff_fell hf] at hfe
        have heff : effT X s t = none := by
          cases e : effT X s t with
          | none => rfl
          | some q => rw [e] at hfe; cases hfe
        refine Or.inr ⟨t, ht, ha, heff, ?_⟩
        rw [heff]
        rfl
      · have hk3 := hwl t ht
        rw [show (8 * (t : Int) + (k : Int) + 1).toNat = 8 * t + k + 1 by omega, fell_wait (by omega), hf] at hfe
        cases hfe
    · cases ho
/-- What a state can become: a thread does its order, or one that waits is done. -/
theorem nx_cases {L : Nat → Nat} {X : Nat → Nat → Nat → Int} {mode : Int} {s r : Sx} (hf : s.fell = false) (hwl : ∀ t, t < s.ths.length → (thOf s t).wait.length ≤ 3) (h : r ∈ nxX L X mode s) :
    (∃ t p rs k, t < s.ths.length ∧ ableT L X s t = true ∧ effT X s t = some (p, rs, k) ∧ r = actX mode (setTh s t ⟨p, rs, (thOf s t).wait⟩) t k) ∨
    ∃ t k, t < s.ths.length ∧ k < (thOf s t).wait.length ∧ mayW mode (thOf s t).wait k = true ∧ r = setTh (doneW s ((thOf s t).wait.getD k default)) t { thOf s t with wait := (thOf s t).wait.eraseIdx k } := by
  obtain ⟨mv, hmv, rfl, hfe⟩ := mem_nx.mp h
  rcases movesX_mem hmv with ⟨t, ht, rfl, ha⟩ | ⟨t, k, ht, hk2, rfl, hmay⟩
  · have e13 : opT X s t 0 = 13 → (thOf s t).wait = [] := fun e => able_13 ha (Or.inr (Or.inl e))
    rw [do_nat, do_eff ht e13] at hfe ⊢
    rw [eff_fell hf] at hfe
    cases e : effT X s t with
    | none => rw [e] at hfe; cases hfe
    | some q =>
      obtain ⟨p, rs, k⟩ := q
      exact Or.inl ⟨t, p, rs, k, ht, ha, e, rfl⟩
  · have hk3 := hwl t ht
    refine Or.inr ⟨t, k, ht, hk2, hmay, ?_⟩
    rw [show (8 * (t : Int) + (k : Int) + 1).toNat = 8 * t + k + 1 by omega, doX_wait (by omega)]
/-- A step by a thread's order. -/
theorem rch_eff {L : Nat → Nat} {X : Nat → Nat → Nat → Int} {mode : Int} {s0 s : Sx} (h : Rch (nxX L X mode) s0 s) (hf : s.fell = false) {t : Nat} (ht : t < s.ths.length) (ha : ableT L X s t = true) {p : Nat} {rs : List Int} {k : Ak} (he : effT X s t = some (p, rs, k)) : Rch (nxX L X mode) s0 (actX mode (setTh s t ⟨p, rs, (thOf s t).wait⟩) t k) := by
  have e1 := do_eff (mode := mode) ht (fun e => able_13 ha (Or.inr (Or.inl e)))
  rw [he] at e1
  have := rch_ord h ht ha (by rw [e1, eff_fell hf]; rfl)
  rw [e1] at this
  exact this
end

section
open Go.RowKit

theorem letsWait_any (w : World) (op : Int) : Calls Tryz.prog 21 #[.int .i64 op] w fun e w' => e = .returned (.bool (wtO op)) ∧ w' = w := by
  unfold wtO
  by_cases h9 : op = 9
  · subst h9
    go_enter Tryz.func21, Tryz.ntmps21
    go_wp2
    go_ret
    exact ⟨rfl, rfl⟩
  · have h9' : (op == 9) = false := by simpa using h9
    by_cases h11 : op = 11
    · subst h11
      go_enter Tryz.func21, Tryz.ntmps21
      go_wp2
      go_ret
      exact ⟨rfl, rfl⟩
    · have h11' : (op == 11) = false := by simpa using h11
      by_cases h18 : op = 18
      · subst h18
        go_enter Tryz.func21, Tryz.ntmps21
        go_wp2
        go_ret
        exact ⟨rfl, rfl⟩
      · have h18' : (op == 18) = false := by simpa using h18
        rw [decide_eq_false h9, decide_eq_false h11, decide_eq_false h18]
        go_enter Tryz.func21, Tryz.ntmps21
        go_wp2
        go_ret
        exact ⟨rfl, rfl⟩
set_option maxRecDepth 100000 in
set_option maxHeartbeats 1600000 in
theorem orderAt_any (w : World) (ca : Option Addr) (n cc : Nat) (wa : Option Addr) (m wc : Nat) (lk rg : Int) (A : Nat → Option Addr) (L C : Nat → Nat) (X : Nat → Nat → Nat → Int) (t i : Nat) (hp : PIn w ca n A L C X) (ht : t < n) (hi : i < L t) :
    Calls Tryz.prog 22 #[prgV ca n cc wa m wc lk rg, .agg #[.int .i64 t, .int .i64 i]] w fun e w' => e = .returned (ints4 (X t i 0) (X t i 1) (X t i 2) (X t i 3)) ∧ Below w.heap.size w w' := by
  have i0 : ∀ W, (Instr.index 33 (.agg #[.int .i64 (t : Int), .int .i64 (i : Int)]) (.int .i64 0)).run Tryz.prog W = .ok (.int .i64 t) W := fun _ => by kernel_rfl
  have i1 : ∀ W, (Instr.index 33 (.agg #[.int .i64 (t : Int), .int .i64 (i : Int)]) (.int .i64 1)).run Tryz.prog W = .ok (.int .i64 i) W := fun _ => by kernel_rfl
  obtain ⟨cb, co, rfl, hc⟩ := hp.code t ht
  obtain ⟨ab, ao, hA, c0, c1, c2, c3⟩ := hp.ord t i ht hi
  rw [hA] at hc
  have hln := hp.len t ht
  have hnn := hp.num
  obtain ⟨x0, h0⟩ : ∃ x, X t i 0 = x := ⟨_, rfl⟩
  obtain ⟨x1, h1⟩ : ∃ x, X t i 1 = x := ⟨_, rfl⟩
  obtain ⟨x2, h2⟩ : ∃ x, X t i 2 = x := ⟨_, rfl⟩
  obtain ⟨x3, h3⟩ : ∃ x, X t i 3 = x := ⟨_, rfl⟩
  obtain ⟨l, hl⟩ : ∃ x, L t = x := ⟨_, rfl⟩
  rw [h0] at c0; rw [h1] at c1; rw [h2] at c2; rw [h3] at c3
  rw [h0, h1, h2, h3]
  rw [hl] at hc hi hln
  have u0 := fun o1 o2 o3 => cell_up (cell_up (cell_up c0 o1) o2) o3
  have u1 := fun o1 o2 o3 => cell_up (cell_up (cell_up c1 o1) o2) o3
  have u2 := fun o1 o2 o3 => cell_up (cell_up (cell_up c2 o1) o2) o3
  have u3 := fun o1 o2 o3 => cell_up (cell_up (cell_up c3 o1) o2) o3
  have uc := fun o1 o2 o3 => cell_up (cell_up (cell_up hc o1) o2) o3
  clear hp hA h0 h1 h2 h3 hl c0 c1 c2 c3 hc
  go_enter Tryz.func22, Tryz.ntmps22
  go_wp2
  refine region_tail 10 (by kernel_rfl) (by kernel_rfl) ?_
  simp only [List.take_succ_cons, List.take_zero, List.drop_succ_cons, List.drop_zero]
  repeat still_step
  refine wpStill_nil ?_
  go_wp2
  exact bodyPost_ret (v := ints4 x0 x1 x2 x3) (by simp [results, Tryz.results22, go_sem]) rfl ⟨rfl, ((((Below.refl _ _).alloc (Nat.le_refl _) _).alloc (by simp) _).alloc (by simp; omega) _).drew⟩
set_option maxRecDepth 100000 in
set_option maxHeartbeats 1600000 in
/-- Does an order let something wait? As Full asks. -/
theorem full1_any (w : World) (pb : Nat) (ca : Option Addr) (n cc : Nat) (wa : Option Addr) (m wc : Nat) (lk rg : Int) (A : Nat → Option Addr) (L C : Nat → Nat) (X : Nat → Nat → Nat → Int) (t i : Nat) (hp : PIn w ca n A L C X) (ht : t < n) (hi : i < L t) (hb : w.heap[pb]? = some (.cells #[.slice ca n cc, .slice wa m wc, .int .i64 lk, .int .i64 rg] 25)) :
    Calls Tryz.prog 20 #[.agg #[.int .i64 t, .int .i64 i], .pointer (some ⟨pb, 0, none⟩)] w fun e w' => e = .returned (.bool (wtO (X t i 0))) ∧ Below w.heap.size w w' := by
  have hbl := box_lt hb
  have HO : Hid (∀ V, Below w.heap.size w V → Calls Tryz.prog 22 #[.agg #[.slice ca n cc, .slice wa m wc, .int .i64 lk, .int .i64 rg], .agg #[.int .i64 t, .int .i64 i]] V fun e w' => e = .returned (ints4 (X t i 0) (X t i 1) (X t i 2) (X t i 3)) ∧ Below V.heap.size V w') := fun V hV => orderAt_any V ca n cc wa m wc lk rg A L C X t i (hp.below hV) ht hi
  have b0 := box_cell (i := 0) hb rfl
  have b1 := box_cell (i := 1) hb rfl
  have b2 := box_cell (i := 2) hb rfl
  have b3 := box_cell (i := 3) hb rfl
  clear hp hb
  have HB1 : Hid (∀ o, Below w.heap.size w (w.alloc o)) := fun o => (Below.refl _ _).alloc (Nat.le_refl _) _
  have hfd : ∀ W, (Instr.field 37 (ints4 (X t i 0) (X t i 1) (X t i 2) (X t i 3)) 0).run Tryz.prog W = .ok (.int .i64 (X t i 0)) W := fun _ => by kernel_rfl
  go_enter Tryz.func20, Tryz.ntmps20
  go_wp2_with (first | (go_at_call 22; refine Calls.mono (HO.out _ (HB1.out _)) ?_; rintro e w1 ⟨rfl, hb1⟩; have H1 : Hid (Below w.heap.size w w1) := (HB1.out _).trans (hb1.mono (by simp)); clear hb1) | (go_at_call 21; refine (letsWait_any _ _).mono ?_; rintro e w2 ⟨rfl, rfl⟩))
  go_ret
  exact ⟨rfl, H1.out⟩
set_option maxRecDepth 100000 in
set_option maxHeartbeats 1600000 in
/-- What an order becomes, as put asks. -/
theorem put1_any (w : World) (pb fb fid : Nat) (caps : Array Value) (ca : Option Addr) (n cc : Nat) (wa : Option Addr) (m wc : Nat) (lk rg : Int) (A : Nat → Option Addr) (L C : Nat → Nat) (X : Nat → Nat → Nat → Int) (t i : Nat) (d : Bool) (hp : PIn w ca n A L C X) (ht : t < n) (hi : i < L t) (hb : w.heap[pb]? = some (.cells #[.slice ca n cc, .slice wa m wc, .int .i64 lk, .int .i64 rg] 25)) (hfb : w.cell? ⟨fb, 0, none⟩ = some (.func (.func fid) #[] caps))
    (hfn : ∀ (xs : Array Value) (w : World), (callFunc fid xs).run Tryz.prog w = .ok (.enter fid xs) w) (hd : ∀ V, Below w.heap.size w V → Calls Tryz.prog fid (#[.agg #[.int .i64 t, .int .i64 i]] ++ caps) V fun e w' => e = .returned (.bool d) ∧ Below V.heap.size V w') :
    Calls Tryz.prog 32 #[.int .i64 t, .int .i64 i, .pointer (some ⟨fb, 0, none⟩), .pointer (some ⟨pb, 0, none⟩)] w fun e w' => ∃ sa c, e = .returned (.slice sa (bWith d (ordAt X t i)).length c) ∧ SrcL w' sa (cellsT (bWith d (ordAt X t i))) ∧ Below w.heap.size w w' := by
  have hbl := box_lt hb
  have hfl := lt_of_cell hfb
  have HO : Hid (∀ V, Below w.heap.size w V → Calls Tryz.prog 22 #[.agg #[.slice ca n cc, .slice wa m wc, .int .i64 lk, .int .i64 rg], .agg #[.int .i64 t, .int .i64 i]] V fun e w' => e = .returned (ints4 (X t i 0) (X t i 1) (X t i 2) (X t i 3)) ∧ Below V.heap.size V w') := fun V hV => orderAt_any V ca n cc wa m wc lk rg A L C X t i (hp.below hV) ht hi
  have HD := Hid.out (p := Hid _) hd
  have b0 := box_cell (i := 0) hb rfl
  have b1 := box_cell (i := 1) hb rfl
  have b2 := box_cell (i := 2) hb rfl
  have b3 := box_cell (i := 3) hb rfl
  have HB1 : Hid (∀ o, Below w.heap.size w (w.alloc o)) := fun o => (Below.refl _ _).alloc (Nat.le_refl _) _
  clear hp hd
  have HST : Hid (∀ V, Below (w.heap.size + 1) (w.alloc (.cells #[.int .i64 (t : Int), .int .i64 (i : Int)] 33)) V → Below w.heap.size w V ∧ V.cell? ⟨w.heap.size, 0, none⟩ = some (.int .i64 t) ∧ V.cell? ⟨w.heap.size, 1, none⟩ = some (.int .i64 i) ∧ V.cell? ⟨pb, 0, none⟩ = some (.slice ca n cc) ∧ V.cell? ⟨pb, 1, none⟩ = some (.slice wa m wc) ∧ V.cell? ⟨pb, 2, none⟩ = some (.int .i64 lk) ∧ V.cell? ⟨pb, 3, none⟩ = some (.int .i64 rg)) := fun V hV => by
    have hB := (HB1.out (.cells #[.int .i64 (t : Int), .int .i64 (i : Int)] 33)).trans (hV.mono (by simp))
    have hh := (hV.block w.heap.size (by omega)).trans (heap_alloc_new w (.cells #[.int .i64 (t : Int), .int .i64 (i : Int)] 33))
    have hq := (hB.block pb hbl).trans hb
    exact ⟨hB, box_cell hh rfl, box_cell hh rfl, box_cell hq rfl, box_cell hq rfl, box_cell hq rfl, box_cell hq rfl⟩
  clear hb
  cases d with
  | true =>
    go_enter Tryz.func32, Tryz.ntmps32
    go_wp2_with fail
    refine Calls.mono (HD.out _ (HB1.out _)) ?_
    rintro e w1 ⟨rfl, hb1⟩
    have hb1' : Below (w.heap.size + 1) (w.alloc (.cells #[.int .i64 (t : Int), .int .i64 (i : Int)] 33)) w1 := by simpa using hb1
    obtain ⟨hw1, h0, h1, q0, q1, q2, q3⟩ := HST.out w1 hb1'
    have hl1 : w.heap.size < w1.heap.size := lt_of_cell h0
    have H1 : Hid (Below (w.heap.size + 1) (w.alloc (.cells #[.int .i64 (t : Int), .int .i64 (i : Int)] 33)) w1 ∧ Below w.heap.size w w1) := ⟨hb1', hw1⟩
    clear hb1 hb1' hw1 HD b0 b1 b2 b3 hfb hfn
    go_wp2_with fail
    refine Calls.mono (HO.out _ H1.out.2) ?_
    rintro e w2 ⟨rfl, hb2⟩
    have H2 : Hid (Below w.heap.size w w2) := H1.out.2.trans (hb2.mono H1.out.2.size)
    clear hb2 h0 h1 q0 q1 q2 q3
    go_wp2_with fail
    go_ret
    exact ⟨_, _, rfl, srcL_block (heap_alloc_new w2 _), H2.out.alloc H2.out.size _⟩
  | false =>
    go_enter Tryz.func32, Tryz.ntmps32
    go_wp2_with fail
    refine Calls.mono (HD.out _ (HB1.out _)) ?_
    rintro e w1 ⟨rfl, hb1⟩
    have hb1' : Below (w.heap.size + 1) (w.alloc (.cells #[.int .i64 (t : Int), .int .i64 (i : Int)] 33)) w1 := by simpa using hb1
    obtain ⟨hw1, h0, h1, q0, q1, q2, q3⟩ := HST.out w1 hb1'
    have hl1 : w.heap.size < w1.heap.size := lt_of_cell h0
    have H1 : Hid (Below (w.heap.size + 1) (w.alloc (.cells #[.int .i64 (t : Int), .int .i64 (i : Int)] 33)) w1 ∧ Below w.heap.size w w1) := ⟨hb1', hw1⟩
    clear hb1 hb1' hw1 HD b0 b1 b2 b3 hfb hfn
    go_wp2_with fail
    refine Calls.mono (HO.out _ H1.out.2) ?_
    rintro e w2 ⟨rfl, hb2⟩
    have H2 : Hid (Below w.heap.size w w2) := H1.out.2.trans (hb2.mono H1.out.2.size)
    clear hb2 h0 h1 q0 q1 q2 q3
    go_wp2_with fail
    go_ret
    exact ⟨_, _, rfl, srcL_block (heap_alloc_new w2 _), H2.out.alloc H2.out.size _⟩
end

end Go.Proofs.YtgofbkgfonlceadGreatDoor
