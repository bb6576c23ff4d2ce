/-
  A move of the document's run: what lies ahead of a thread's order.
  A move of the document's run: a thread's order, whichever it is.
  What the document's Run goes by: a script's picks, the run as a plain function, the round's invariant.
  A move of the document's run that does one that waits; what can be picked, whichever the mode.
  Who lets a lock become free has it until then, and lets it become free once.
  What the document's Ints does with two lists of the same numbers.
  A list of numbers that was made is one that can be read.
  The document's sum of numbers; whether two lists are the same, which comes first; the order of outcomes.
  Whether two lists of outcomes are the same, by the document.
-/
import Derived.Test.YtgofbkgfonlceadGreatDoorDSt
import Derived.StillTailTactics
import Derived.Test.YtgofbkgfonlceadGreatDoorRead
import Derived.Test.YtgofbkgfonlceadGreatDoorOrder
namespace Go.Proofs.YtgofbkgfonlceadGreatDoor
section
open Go.RowKit

/-- A region that draws its order, of operations that only read, and at its end some that wait for all of them. -/
theorem region_tail {P : Program} {id : Nat} {Q : Exit → Act → World → Prop} {a : Act} {w : World} {l : List Oper} (n : Nat) (hm : P.follows .mixedOrders = true) (hB : Region.lexTailB .any l.toArray n = true)
    (h : wpStill P l.toArray w.drew (fun a' => wpList P l.toArray Q (l.drop n) a' w.drew) (l.take n) a) : (Code.region id l.toArray true).wp P Q a w := wp_region_still_tail n hm hB h

/-- The state when the thread stands behind its order. -/
def stepS (s : Sx) (t : Nat) : Sx := setTh s t { thOf s t with pc := (thOf s t).pc + 1 }
theorem stepS_len (s : Sx) (t : Nat) : (stepS s t).ths.length = s.ths.length := ths_set _ _ _
theorem stepS_regs {s : Sx} {t : Nat} (ht : t < s.ths.length) (u : Nat) : (thOf (stepS s t) u).regs = (thOf s u).regs := by
  unfold stepS
  rw [thOf_set ht]
  split
  · rename_i h; rw [h]
  · rfl
theorem stepS_wait {s : Sx} {t : Nat} (ht : t < s.ths.length) (u : Nat) : (thOf (stepS s t) u).wait = (thOf s u).wait := by
  unfold stepS
  rw [thOf_set ht]
  split
  · rename_i h; rw [h]
  · rfl
theorem stepS_getR {s : Sx} {t : Nat} (ht : t < s.ths.length) (u : Nat) (r : Int) : getR (stepS s t) u r = getR s u r := by
  unfold getR
  rw [stepS_regs ht]
theorem stepS_jump {s : Sx} {t : Nat} (ht : t < s.ths.length) (k : Nat) : setTh (stepS s t) t { thOf (stepS s t) t with pc := k } = setTh s t { thOf s t with pc := k } := by
  have e : thOf (stepS s t) t = { thOf s t with pc := (thOf s t).pc + 1 } := by unfold stepS; rw [thOf_set ht, if_pos rfl]
  rw [e]
  unfold stepS setTh
  simp

theorem Moved.same {ι : Type} {w w1 w2 : World} {v v1 : ι → Value} (h : Moved w w1 v v1) (e : w2.heap = w1.heap) (e1 : w2.os = w1.os) (e2 : w2.tape = w1.tape) (e3 : w2.output = w1.output) : Moved w w2 v v1 :=
  ⟨e1.trans h.os, e2.trans h.tape, e3.trans h.output, by rw [e]; exact h.size, fun k hk hr => by rw [e]; exact h.block k hk hr, h.fresh⟩
end

section
open Go.RowKit

theorem doX_order {X : Nat → Nat → Nat → Int} {mode : Int} {s : Sx} {t : Nat} : doX X mode s (8 * t) = orderX mode (stepS s t) t (opT X s t 0) (opT X s t 1) (opT X s t 2) (opT X s t 3) := by
  unfold doX
  simp only [show 8 * t / 8 = t by omega, show 8 * t % 8 = 0 by omega]
  rfl
theorem SOk.step {n : Nat} {L : Nat → Nat} {X : Nat → Nat → Nat → Int} {m lk rg : Nat} {mode : Int} {s : Sx} (h : SOk n L m lk rg mode s) (hc : COk n L X m lk rg) (hm : 0 ≤ mode) {t : Nat} (ht : t < n) (ha : ableT L X s t = true) : SOk n L m lk rg mode (doX X mode s (8 * t)) := by
  rw [doX_order]
  have hlt := able_lt ha
  have h1 : SOk n L m lk rg mode (stepS s t) := h.setPc ht (by omega)
  have htl : t < s.ths.length := by rw [h.ths]; exact ht
  exact h1.order ht hm (fun ho => by rw [stepS_wait htl]; exact able_room ha ho) (hc.ord t _ ht hlt)
theorem prints_step {X : Nat → Nat → Nat → Int} {mode : Int} {s : Sx} {t : Nat} : (doX X mode s (8 * t)).prints.length ≤ s.prints.length + 2 := by
  rw [doX_order]
  exact prints_order (stepS s t) t _ _ _ _
end

section
open Go.RowKit

theorem begin_ok {n : Nat} {L : Nat → Nat} {words : List Int} {lk rg : Nat} {mode : Int} : SOk n L words.length lk rg mode (beginX n words lk rg) := by
  have e : ∀ t, t < n → thOf (beginX n words lk rg) t = { pc := 0, regs := List.replicate ((rg : Int)).toNat 0, wait := [] } := fun t ht => by
    unfold thOf beginX
    simp [List.getD, ht]
  refine ⟨by simp [beginX], fun t ht => ?_, fun t ht => ?_, rfl, by simp [beginX], fun t ht => ?_, fun t ht => ?_, fun _ t ht => ?_⟩
  all_goals rw [e t ht]
  · exact Nat.zero_le _
  · simp
  · simp
  · intro x hx; cases hx

theorem cell_set (w : World) (b o : Nat) (x : Value) : (w.setCell ⟨b, o, none⟩ x).cell? ⟨b, o, none⟩ = if (w.cell? ⟨b, o, none⟩).isSome then some x else none := by
  unfold World.cell? World.setCell
  simp only [Array.getElem?_modify, if_true]
  cases h : w.heap[b]? with
  | none => simp
  | some ob =>
    cases ob with
    | cells c e f =>
      simp only [Option.map_some, Option.isSome_none, Bool.false_eq_true, if_false]
      rw [Array.getElem?_setIfInBounds]
      by_cases ho : o < c.size
      · simp [ho]
      · simp [ho]
    | _ => simp
end

section
open Go.RowKit

/-- Cells that are stored one behind the other. -/
def putL (xs : List Value) (o : Nat) : List Value → List Value
  | [] => xs
  | u :: us => putL (xs.set o u) (o + 1) us
theorem fam_puts {B : Nat} {e : TypeId} {size : Nat} {v : Value} {n g : Nat} (hg : v.ownBlock = some g) : ∀ (us : List Value) (o : Nat) (w : World) (xs : List Value), w.ownsRow B e size v n xs → (w.setCells g o us).ownsRow B e size v n (putL xs o us)
  | [], _, _, _, h => h
  | u :: us, o, w, _, h => fam_puts hg us (o + 1) (w.setCell ⟨g, o, none⟩ u) _ (fam_put h hg o u)
theorem fam_shrink {w : World} {B : Nat} {e : TypeId} {size : Nat} {n m g cap : Nat} {xs : List Value} (h : w.ownsRow B e size (.slice (some ⟨g, 0, none⟩) n cap) n xs) (hm : m ≤ n) : w.ownsRow B e size (.slice (some ⟨g, 0, none⟩) m cap) m (xs.take (m * size)) := by
  obtain ⟨h0, h1⟩ := h
  have hmul : m * size ≤ n * size := Nat.mul_le_mul_right _ hm
  refine ⟨by rw [List.length_take, h0]; omega, ?_⟩
  rcases h1 with ⟨h1, _⟩ | ⟨g', cap', cur, hv, hg, hh, h2, h3, h4, h5⟩
  · simp at h1
  · simp only [Value.slice.injEq, Option.some.injEq, Addr.mk.injEq, and_true] at hv
    obtain ⟨rfl, _, rfl⟩ := hv
    exact Or.inr ⟨g, cap, cur, rfl, hg, hh, Nat.le_trans hm h2, h3, h4, by rw [← h5, List.take_take, Nat.min_eq_left hmul]⟩
theorem grown_puts (g : Nat) : ∀ (vs : List Value) (o : Nat) (w : World), w.grownBy (w.setCells g o vs) (some g)
  | [], _, _ => ⟨rfl, rfl, rfl, Nat.le_refl _, fun _ _ _ => rfl⟩
  | u :: us, o, w => by
    have h := grown_puts g us (o + 1) (w.setCell ⟨g, o, none⟩ u)
    have hz : (w.setCell ⟨g, o, none⟩ u).heap.size = w.heap.size := by simp [World.setCell]
    exact ⟨h.os, h.tape, h.output, by have := h.size; rw [hz] at this; exact this, fun k hk hne => (h.block k (by rw [hz]; exact hk) hne).trans (Below.heap_setCell _ _ _ _ (fun e => hne (by rw [e])))⟩
theorem waitV_1 (a : Wt) : waitV [a] = [.bool a.lk, .int .i64 a.wh, .int .i64 a.what] := waitV_snoc [] a
theorem waitV_2 (a b : Wt) : waitV [a, b] = [.bool a.lk, .int .i64 a.wh, .int .i64 a.what, .bool b.lk, .int .i64 b.wh, .int .i64 b.what] := by
  rw [show [a, b] = [a] ++ [b] from rfl, waitV_snoc, waitV_1]; rfl
theorem waitV_3 (a b c : Wt) : waitV [a, b, c] = [.bool a.lk, .int .i64 a.wh, .int .i64 a.what, .bool b.lk, .int .i64 b.wh, .int .i64 b.what, .bool c.lk, .int .i64 c.wh, .int .i64 c.what] := by
  rw [show [a, b, c] = [a, b] ++ [c] from rfl, waitV_snoc, waitV_2]; rfl
/-- One taken out of at most three that wait. -/
theorem waitV_cut {l : List Wt} {k : Nat} (hl : l.length ≤ 3) (hk : k < l.length) : (putL (waitV l) (k * 3) ((waitV l).drop ((k + 1) * 3))).take ((l.length - 1) * 3) = waitV (l.eraseIdx k) := by
  match l, k, hl, hk with
  | [a], 0, _, _ => rfl
  | [a, b], 0, _, _ => rw [waitV_2]; rw [show [a, b].eraseIdx 0 = [b] from rfl, waitV_1]; rfl
  | [a, b], 1, _, _ => rw [waitV_2]; rw [show [a, b].eraseIdx 1 = [a] from rfl, waitV_1]; rfl
  | [a, b, c], 0, _, _ => rw [waitV_3]; rw [show [a, b, c].eraseIdx 0 = [b, c] from rfl, waitV_2]; rfl
  | [a, b, c], 1, _, _ => rw [waitV_3]; rw [show [a, b, c].eraseIdx 1 = [a, c] from rfl, waitV_2]; rfl
  | [a, b, c], 2, _, _ => rw [waitV_3]; rw [show [a, b, c].eraseIdx 2 = [a, b] from rfl, waitV_2]; rfl
theorem waitC_one (x : Wt) (j : Nat) : (waitC x j).oneCell' = true := by
  unfold waitC
  split
  · rfl
  · split <;> rfl
theorem waitV_len (l : List Wt) : (waitV l).length = l.length * 3 := rows3_len _ _

/-- What can be picked: an order of a thread that is able, or one that waits and may be done. -/
theorem movesX_mem {L : Nat → Nat} {X : Nat → Nat → Nat → Int} {mode : Int} {s : Sx} {mv : Int} (h : mv ∈ movesX L X mode s) : (∃ t, t < s.ths.length ∧ mv = 8 * (t : Int) ∧ ableT L X s t = true) ∨ ∃ t k, t < s.ths.length ∧ k < (thOf s t).wait.length ∧ mv = 8 * (t : Int) + (k : Int) + 1 ∧ mayW mode (thOf s t).wait k = true := by
  unfold movesX at h
  rw [List.mem_flatMap] at h
  obtain ⟨t, ht, h⟩ := h
  have htn : t < s.ths.length := by simpa using ht
  unfold movesT at h
  rw [List.mem_append] at h
  rcases h with h | h
  · by_cases ha : ableT L X s t = true
    · rw [if_pos ha] at h
      exact Or.inl ⟨t, htn, by simpa using h, ha⟩
    · rw [if_neg ha] at h
      cases h
  · rw [List.mem_map] at h
    obtain ⟨k, hk, e⟩ := h
    rw [List.mem_filter] at hk
    exact Or.inr ⟨t, k, htn, by simpa using hk.1, e.symm, hk.2⟩
theorem doX_wait {X : Nat → Nat → Nat → Int} {mode : Int} {s : Sx} {t k : Nat} (hk : k < 7) : doX X mode s (8 * t + k + 1) = setTh (doneW s ((thOf s t).wait.getD k default)) t { thOf s t with wait := (thOf s t).wait.eraseIdx k } := by
  have hth : ∀ x, thOf (doneW s x) t = thOf s t := fun x => by unfold doneW; split <;> rfl
  unfold doX
  simp only [show (8 * t + k + 1) / 8 = t by omega, show (8 * t + k + 1) % 8 = k + 1 by omega]
  rw [if_pos (by omega)]
  simp only [Nat.add_sub_cancel, hth]
theorem SOk.wait {n : Nat} {L : Nat → Nat} {X : Nat → Nat → Nat → Int} {m lk rg : Nat} {mode : Int} {s : Sx} (h : SOk n L m lk rg mode s) {t k : Nat} (ht : t < n) (hk : k < (thOf s t).wait.length) : SOk n L m lk rg mode (doX X mode s (8 * t + k + 1)) := by
  have hw := h.wlen t ht
  rw [doX_wait (by omega)]
  have h1 := h.done ((thOf s t).wait.getD k default)
  refine h1.th ht (h.pc t ht) (h.regs t ht) ?_ (fun y hy => h.wok t ht y (List.mem_of_mem_eraseIdx hy)) (fun h0 => ?_)
  · have := List.length_eraseIdx_le (thOf s t).wait k
    show ((thOf s t).wait.eraseIdx k).length ≤ 3
    omega
  · show (thOf s t).wait.eraseIdx k = []
    rw [h.bare h0 t ht]; rfl
theorem prints_wait {X : Nat → Nat → Nat → Int} {mode : Int} {s : Sx} {t k : Nat} (hk : k < 7) : (doX X mode s (8 * t + k + 1)).prints = s.prints := by
  rw [doX_wait hk]
  show (doneW s _).prints = _
  unfold doneW
  split <;> rfl
theorem fell_wait {X : Nat → Nat → Nat → Int} {mode : Int} {s : Sx} {t k : Nat} (hk : k < 7) : (doX X mode s (8 * t + k + 1)).fell = s.fell := by
  rw [doX_wait hk]
  show (doneW s _).fell = _
  unfold doneW
  split <;> rfl

attribute [local go_sem ↓] appS_eq
end

section
open Go.RowKit

structure LkI (s : Sx) : Prop where
  own : ∀ t, t < s.ths.length → ∀ x, x ∈ (thOf s t).wait → x.lk = true → s.own.getD x.wh.toNat 0 = (t : Int)
  one : ∀ t, t < s.ths.length → (((thOf s t).wait.filter fun x => x.lk).map fun x => x.wh).Nodup
/-- Locks and what waits are as they were. -/
theorem LkI.same {s s' : Sx} (h : LkI s) (hl : s'.ths.length = s.ths.length) (hw : ∀ t, t < s.ths.length → (thOf s' t).wait = (thOf s t).wait) (ho : s'.own = s.own) : LkI s' :=
  ⟨fun t ht x hx hk => by rw [hl] at ht; rw [hw t ht] at hx; rw [ho]; exact h.own t ht x hx hk, fun t ht => by rw [hl] at ht; rw [hw t ht]; exact h.one t ht⟩
theorem LkI.bare {s : Sx} (h : ∀ t, t < s.ths.length → (thOf s t).wait = []) : LkI s :=
  ⟨fun t ht x hx => absurd hx (by rw [h t ht]; simp), fun t ht => by rw [h t ht]; exact List.nodup_nil⟩
section
variable {s : Sx} {t : Nat}
theorem LkI.th (h : LkI s) (ht : t < s.ths.length) (x : Th) (hx : x.wait = (thOf s t).wait) : LkI (setTh s t x) :=
  h.same (ths_set _ _ _) (fun u _ => by
    rw [thOf_set ht]
    split
    · rename_i e; rw [e, hx]
    · rfl) rfl
theorem LkI.setR (h : LkI s) (ht : t < s.ths.length) (r v : Int) : LkI (setR s t r v) := h.th ht _ rfl
theorem LkI.words (h : LkI s) (l : List Int) : LkI { s with words := l } := h.same rfl (fun _ _ => rfl) rfl
/-- A store into a word waits. -/
theorem LkI.store (h : LkI s) (ht : t < s.ths.length) (mode a y : Int) : LkI (storeW mode s t ⟨false, a, y⟩) := by
  unfold storeW
  split
  · refine ⟨fun u hu x hx hk => ?_, fun u hu => ?_⟩
    · rw [ths_set] at hu
      rw [thOf_set ht] at hx
      split at hx
      · rename_i e
        subst e
        simp only [List.mem_append, List.mem_singleton] at hx
        rcases hx with hx | rfl
        · exact h.own u hu x hx hk
        · cases hk
      · exact h.own u hu x hx hk
    · rw [ths_set] at hu
      rw [thOf_set ht]
      split
      · rename_i e
        subst e
        have := h.one u hu
        simpa [List.filter_append] using this
      · exact h.one u hu
  · exact h.words _
/-- A lock waits to become free. -/
theorem LkI.free (h : LkI s) (ht : t < s.ths.length) {mode : Int} (hm : 0 < mode) {a : Int} (ha : 0 ≤ a) (ho : s.own.getD a.toNat 0 = (t : Int)) (hn : ((thOf s t).wait.any fun x => x.lk && decide (x.wh = a)) = false) : LkI (storeW mode s t ⟨true, a, 0⟩) := by
  unfold storeW
  rw [if_pos hm]
  refine ⟨fun u hu x hx hk => ?_, fun u hu => ?_⟩
  · rw [ths_set] at hu
    rw [thOf_set ht] at hx
    split at hx
    · rename_i e
      subst e
      simp only [List.mem_append, List.mem_singleton] at hx
      rcases hx with hx | rfl
      · exact h.own u hu x hx hk
      · exact ho
    · exact h.own u hu x hx hk
  · rw [ths_set] at hu
    rw [thOf_set ht]
    split
    · rename_i e
      subst e
      have h1 := h.one u hu
      rw [List.filter_append, List.map_append]
      simp only [List.filter_cons, List.filter_nil, if_true, List.map_cons, List.map_nil]
      rw [List.nodup_append]
      refine ⟨h1, by simp, fun x hx y hy => ?_⟩
      simp only [List.mem_singleton] at hy
      subst hy
      rw [List.mem_map] at hx
      obtain ⟨z, hz, rfl⟩ := hx
      rw [List.mem_filter] at hz
      intro e
      rw [List.any_eq_false] at hn
      exact hn z hz.1 (by simp [hz.2, e])
    · exact h.one u hu
theorem LkI.lock (h : LkI s) {a : Int} (ho : s.own.getD a.toNat 0 = -1) (hok : ∀ u, u < s.ths.length → ∀ x, x ∈ (thOf s u).wait → 0 ≤ x.wh) (v : Int) : LkI { s with own := s.own.set a.toNat v } := by
  refine ⟨fun u hu x hx hk => ?_, h.one⟩
  have h1 := h.own u hu x hx hk
  have h2 := hok u hu x hx
  have hne : a.toNat ≠ x.wh.toNat := fun e => by rw [← e, ho] at h1; omega
  show (s.own.set a.toNat v).getD x.wh.toNat 0 = _
  rw [List.getD_eq_getElem?_getD, List.getElem?_set_ne hne, ← List.getD_eq_getElem?_getD]
  exact h1
end
theorem nodup_map_inj {l : List Wt} (h : ((l.filter fun x => x.lk).map fun x => x.wh).Nodup) {i j : Nat} (hi : i < l.length) (hj : j < l.length) (h1 : l[i].lk = true) (h2 : l[j].lk = true) (e : l[i].wh = l[j].wh) (hl : l.length ≤ 3) : i = j := by
  match l, i, j, hi, hj, hl with
  | [a], 0, 0, _, _, _ => rfl
  | [a, b], 0, 0, _, _, _ => rfl
  | [a, b], 1, 1, _, _, _ => rfl
  | [a, b], 0, 1, _, _, _ => simp at h1 h2 e; simp [h1, h2, e] at h
  | [a, b], 1, 0, _, _, _ => simp at h1 h2 e; simp [h1, h2, e] at h
  | [a, b, c], 0, 0, _, _, _ => rfl
  | [a, b, c], 1, 1, _, _, _ => rfl
  | [a, b, c], 2, 2, _, _, _ => rfl
  | [a, b, c], 0, 1, _, _, _ => simp at h1 h2 e; simp [h1, h2, e, List.filter_cons] at h
  | [a, b, c], 1, 0, _, _, _ => simp at h1 h2 e; simp [h1, h2, e, List.filter_cons] at h
  | [a, b, c], 0, 2, _, _, _ => simp at h1 h2 e; cases hb : b.lk <;> simp [h1, h2, e, hb] at h
  | [a, b, c], 2, 0, _, _, _ => simp at h1 h2 e; cases hb : b.lk <;> simp [h1, h2, e, hb] at h
  | [a, b, c], 1, 2, _, _, _ => simp at h1 h2 e; cases ha : a.lk <;> simp [h1, h2, e, ha] at h
  | [a, b, c], 2, 1, _, _, _ => simp at h1 h2 e; cases ha : a.lk <;> simp [h1, h2, e, ha] at h
theorem nodup_erase {l : List Wt} (h : ((l.filter fun x => x.lk).map fun x => x.wh).Nodup) (k : Nat) : (((l.eraseIdx k).filter fun x => x.lk).map fun x => x.wh).Nodup :=
  h.sublist (((List.eraseIdx_sublist l k).filter _).map _)

/-- Whatever can be picked keeps it. -/
theorem LkI.move {n : Nat} {L : Nat → Nat} {X : Nat → Nat → Nat → Int} {m lk rg : Nat} {mode : Int} {s : Sx} (h : LkI s) (ho : SOk n L m lk rg mode s) (hc : COk n L X m lk rg) (hm : 0 ≤ mode) {mv : Int} (hmv : mv ∈ movesX L X mode s) : LkI (doX X mode s mv.toNat) := by
  rcases movesX_mem hmv with ⟨t, ht, rfl, ha⟩ | ⟨t, k, ht, hk, rfl, _⟩
  · have ht' : t < n := by rw [← ho.ths]; exact ht
    rw [show (8 * (t : Int)).toNat = 8 * t by omega, doX_order]
    have hlt := able_lt ha
    have hord := hc.ord t (thOf s t).pc ht' hlt
    change ordE rg m lk (L t) (opT X s t 0) (opT X s t 1) (opT X s t 2) (opT X s t 3) = 0 at hord
    have h0 : LkI (stepS s t) := h.th ht _ rfl
    have hl : t < (stepS s t).ths.length := by rw [stepS_len]; exact ht
    have hwt : ∀ u, (thOf (stepS s t) u).wait = (thOf s u).wait := fun u => stepS_wait ht u
    have hown : (stepS s t).own = s.own := rfl
    have hab := ableT_more (X := X) hlt
    rw [ha] at hab
    generalize opT X s t 0 = op at hord hab ⊢
    generalize opT X s t 1 = a at hord hab ⊢
    generalize opT X s t 2 = b at hord ⊢
    generalize opT X s t 3 = c at hord ⊢
    unfold orderX
    by_cases h1 : op = 1; · rw [if_pos h1]; exact h0.setR hl _ _
    rw [if_neg h1]
    by_cases h1 : op = 2; · rw [if_pos h1]; exact h0.setR hl _ _
    rw [if_neg h1]
    by_cases h1 : op = 3; · rw [if_pos h1]; exact h0.setR hl _ _
    rw [if_neg h1]
    by_cases h1 : op = 4; · rw [if_pos h1]; exact h0.setR hl _ _
    rw [if_neg h1]
    by_cases h1 : op = 5; · rw [if_pos h1]; exact h0.setR hl _ _
    rw [if_neg h1]
    by_cases h1 : op = 6; · rw [if_pos h1]; exact h0.setR hl _ _
    rw [if_neg h1]
    by_cases h1 : op = 7; · rw [if_pos h1]; exact h0.setR hl _ _
    rw [if_neg h1]
    by_cases h1 : op = 8; · rw [if_pos h1]; exact h0.setR hl _ _
    rw [if_neg h1]
    by_cases h1 : op = 9; · rw [if_pos h1]; exact h0.store hl _ _ _
    rw [if_neg h1]
    by_cases h1 : op = 10
    · rw [if_pos h1]
      split
      · exact h0.same rfl (fun _ _ => rfl) rfl
      · exact h0.setR hl _ _
    rw [if_neg h1]
    by_cases h1 : op = 11
    · rw [if_pos h1]
      split
      · exact h0.same rfl (fun _ _ => rfl) rfl
      · exact h0.store hl _ _ _
    rw [if_neg h1]
    by_cases h1 : op = 13
    · rw [if_pos h1]
      split
      · exact (h0.words ((stepS s t).words.set a.toNat (getR (stepS s t) t c))).setR hl _ _
      · exact h0.setR hl _ _
    rw [if_neg h1]
    by_cases h1 : op = 14; · rw [if_pos h1]; exact h0.th hl _ rfl
    rw [if_neg h1]
    by_cases h1 : op = 15
    · rw [if_pos h1]
      split
      · exact h0.th hl _ rfl
      · exact h0
    rw [if_neg h1]
    by_cases h1 : op = 16; · rw [if_pos h1]; exact h0.same rfl (fun _ _ => rfl) rfl
    rw [if_neg h1]
    by_cases h1 : op = 17
    · rw [if_pos h1]
      subst h1
      have hlk := ok_lock (Or.inl rfl) hord
      have ho1 : s.own.getD a.toNat 0 = -1 := by
        unfold ableO at hab
        simp at hab
        simpa [List.getD_eq_getElem?_getD] using hab.2
      exact h0.lock ho1 (fun u hu x hx => by
        rw [hwt u] at hx
        rw [stepS_len] at hu
        exact (ho.wok u (by rw [← ho.ths]; exact hu) x hx).1.1) _
    rw [if_neg h1]
    by_cases h1 : op = 18
    · rw [if_pos h1]
      subst h1
      have hlk := ok_lock (Or.inr rfl) hord
      split
      · exact h0.same rfl (fun _ _ => rfl) rfl
      · rename_i hno
        by_cases hmz : mode = 0
        · refine LkI.bare fun u hu => ?_
          have e : ∀ x, (thOf (storeW mode (stepS s t) t x) u).wait = (thOf (stepS s t) u).wait := fun x => by
            unfold storeW doneW
            rw [if_neg (by omega)]
            split <;> rfl
          have e2 : ∀ x, (storeW mode (stepS s t) t x).ths.length = (stepS s t).ths.length := fun x => by
            unfold storeW doneW
            rw [if_neg (by omega)]
            split <;> rfl
          rw [e2, stepS_len] at hu
          rw [e, hwt]
          exact ho.bare hmz u (by rw [← ho.ths]; exact hu)
        · refine h0.free hl (by omega) hlk.1 (Classical.not_not.mp fun h => hno (Or.inl h)) (Bool.eq_false_iff.mpr fun h => hno (Or.inr h))
    rw [if_neg h1]
    exact h0
  · have ht' : t < n := by rw [← ho.ths]; exact ht
    have hw3 := ho.wlen t ht'
    rw [show (8 * (t : Int) + (k : Int) + 1).toNat = 8 * t + k + 1 by omega, doX_wait (by omega)]
    obtain ⟨x, hx⟩ : ∃ x, (thOf s t).wait.getD k default = x := ⟨_, rfl⟩
    have hxm : (thOf s t).wait[k] = x := by rw [← hx]; simp [List.getD, hk]
    rw [hx]
    have hl : t < (doneW s x).ths.length := by unfold doneW; split <;> exact ht
    have hlen : (doneW s x).ths.length = s.ths.length := by unfold doneW; split <;> rfl
    have hth : ∀ u, thOf (doneW s x) u = thOf s u := fun u => by unfold doneW; split <;> rfl
    refine ⟨fun u hu y hy hyk => ?_, fun u hu => ?_⟩
    · rw [ths_set, hlen] at hu
      rw [thOf_set hl] at hy
      have hys : y ∈ (thOf s u).wait ∧ (u = t → ∃ j, j < (thOf s t).wait.length ∧ j ≠ k ∧ (thOf s t).wait[j]? = some y) := by
        split at hy
        · rename_i e
          subst e
          refine ⟨List.mem_of_mem_eraseIdx hy, fun _ => ?_⟩
          rw [List.mem_eraseIdx_iff_getElem] at hy
          obtain ⟨j, hj, hjk, e⟩ := hy
          exact ⟨j, hj, hjk, by rw [List.getElem?_eq_getElem hj, e]⟩
        · rename_i e
          rw [hth] at hy
          exact ⟨hy, fun e2 => absurd e2 e⟩
      have h1 := h.own u hu y hys.1 hyk
      show (doneW s x).own.getD y.wh.toNat 0 = _
      unfold doneW
      split
      · rename_i hxk
        have h2 := h.own t ht x (by rw [← hxm]; exact List.getElem_mem _) hxk
        have hy0 := (ho.wok u (by rw [← ho.ths]; exact hu) y hys.1).1.1
        have hx0 := (ho.wok t ht' x (by rw [← hxm]; exact List.getElem_mem _)).1.1
        have hne : x.wh.toNat ≠ y.wh.toNat := fun e => by
          have ee : x.wh = y.wh := by omega
          rw [e, h1] at h2
          have hut : u = t := by omega
          obtain ⟨j, hj, hjk, ej⟩ := hys.2 hut
          have ej' : (thOf s t).wait[j] = y := by rw [List.getElem?_eq_getElem hj] at ej; simpa using ej
          exact hjk (nodup_map_inj (h.one t ht) hj hk (by rw [ej']; exact hyk) (by rw [hxm]; exact hxk) (by rw [ej', hxm, ee]) hw3)
        show (s.own.set x.wh.toNat (-1)).getD y.wh.toNat 0 = _
        rw [List.getD_eq_getElem?_getD, List.getElem?_set_ne hne, ← List.getD_eq_getElem?_getD]
        exact h1
      · exact h1
    · rw [ths_set, hlen] at hu
      rw [thOf_set hl]
      split
      · exact nodup_erase (h.one t ht) k
      · rw [hth]; exact h.one u hu
theorem LkI.begin {n : Nat} {words : List Int} {lk rg : Nat} : LkI (beginX n words lk rg) := LkI.bare fun t ht => by
  have : t < n := by simpa [beginX] using ht
  unfold thOf beginX
  simp [List.getD, this]
end

section
open Go.RowKit

/-- A list of numbers lies in w. -/
def IIn (w : World) (a : Option Addr) (n : Nat) (X : Nat → Int) : Prop := ∀ i, i < n → ∃ b o, a = some ⟨b, o, none⟩ ∧ w.cell? ⟨b, o + i, none⟩ = some (.int .i64 (X i))
theorem IIn.below {w w' : World} {a : Option Addr} {n : Nat} {X : Nat → Int} (h : IIn w a n X) (hb : Below w.heap.size w w') : IIn w' a n X := fun i hi => by
  obtain ⟨b, o, hc, h1⟩ := h i hi
  exact ⟨b, o, hc, (hb.cell (lt_of_cell h1)).trans h1⟩
end

section
open Go.RowKit

theorem IsI.iin {w : World} {B : Nat} {a : Option Addr} {len c : Nat} {xs : List Int} (h : IsI w B a len c xs) : IIn w a len (fun i => xs.getD i 0) := fun i hi => by
  obtain ⟨g, cap, h1, h2, _, _⟩ := fam_block h.own (by omega)
  simp only [Value.slice.injEq] at h1
  exact ⟨g, 0, h1.1, by simpa using fam_cell h.own h2 (intsV_at (by rw [h.is]; exact hi))⟩
end

section
open Go.RowKit

/-- A list of numbers, all of it, lies in w. -/
abbrev LI (w : World) (a : Option Addr) (x : List Int) : Prop := IIn w a x.length (fun i => x.getD i 0)
/-- An outcome as a value. -/
abbrev ocV (st : Int) (wa : Option Addr) (wl wc : Nat) (pa : Option Addr) (pl pc : Nat) : Value := .agg #[.int .i64 st, .slice wa wl wc, .slice pa pl pc]
end

section
open Go.RowKit

theorem otake_ext {x y : List Oc} {k : Nat} (h : x.take k = y.take k) (h1 : k < x.length) (h2 : k < y.length) (e : x.getD k default = y.getD k default) : x.take (k + 1) = y.take (k + 1) := by
  rw [List.getD_eq_getElem?_getD, List.getD_eq_getElem?_getD, List.getElem?_eq_getElem h1, List.getElem?_eq_getElem h2] at e
  rw [List.take_add_one, List.take_add_one, h, List.getElem?_eq_getElem h1, List.getElem?_eq_getElem h2, show x[k] = y[k] from e]
end

end Go.Proofs.YtgofbkgfonlceadGreatDoor
