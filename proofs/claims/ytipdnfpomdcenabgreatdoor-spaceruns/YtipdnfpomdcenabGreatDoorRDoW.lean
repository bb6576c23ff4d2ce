/-
  How vast a program is.
  A program that passed Check.
  A move of the document's run that does one that waits; what can be picked, whichever the mode.
  How vast a program is, whether two lists are the same, by the second set of statements; runs by scripts that go on with noughts, and of one thread.
  Who lets a lock become free has it until then, and lets it become free once.
-/
import Derived.Test.YtipdnfpomdcenabGreatDoorOrder
import Derived.Test.YtipdnfpomdcenabGreatDoorSOk
import Derived.Test.YtipdnfpomdcenabGreatDoorPRow
import Derived.Test.YtipdnfpomdcenabGreatDoorSpaceP
namespace Go.Proofs.YtipdnfpomdcenabGreatDoor
section
open Go.RowKit

/-- It answers yes or no. -/
def IsBool (e : Ending) : Prop := ∃ b, e = .returned (.bool b)
end

section
open Go.RowKit

theorem bad_none {E : Nat → Int} : ∀ (f k : Nat), firstBad E f k = none → ∀ i, k ≤ i → i < k + f → E i = 0
  | 0, k, _, i, h1, h2 => by omega
  | f + 1, k, h, i, h1, h2 => by
    rw [firstBad] at h
    split at h
    · rename_i h0
      by_cases e : i = k
      · subst e; exact h0
      · exact bad_none f (k + 1) h i (by omega) (by omega)
    · cases h
theorem thread_ok {R : Nat → Option (Int × Int)} (hR : ∀ t c a, R t = some (c, a) → c ≠ 0) : ∀ (f k : Nat), (firstThread R f k).1 = 0 → ∀ i, k ≤ i → i < k + f → R i = none
  | 0, k, _, i, h1, h2 => by omega
  | f + 1, k, h, i, h1, h2 => by
    rw [firstThread] at h
    split at h
    · rename_i h0
      by_cases e : i = k
      · subst e; exact h0
      · exact thread_ok hR f (k + 1) h i (by omega) (by omega)
    · rename_i c a h0
      exact absurd h (hR k c a h0)
theorem thread_zero {R : Nat → Option (Int × Int)} (hR : ∀ t c a, R t = some (c, a) → c ≠ 0) : ∀ (f k : Nat), (firstThread R f k).1 = 0 → firstThread R f k = (0, 0, 0)
  | 0, _, _ => rfl
  | f + 1, k, h => by
    rw [firstThread] at h ⊢
    split at h
    · exact thread_zero hR f (k + 1) h
    · rename_i c a h0
      exact absurd h (hR k c a h0)
theorem bad_ne {E : Nat → Int} : ∀ (f k : Nat) (c a : Int), firstBad E f k = some (c, a) → c ≠ 0
  | 0, k, c, a, h => by simp [firstBad] at h
  | f + 1, k, c, a, h => by
    rw [firstBad] at h
    split at h
    · exact bad_ne f (k + 1) c a h
    · rename_i h0
      simp only [Option.some.injEq, Prod.mk.injEq] at h
      rw [← h.1]; exact h0
theorem thr_ne {rg wd lk : Int} {L : Nat → Nat} {X : Nat → Nat → Nat → Int} : ∀ t c a, thr rg wd lk L X t = some (c, a) → c ≠ 0 := fun t c a e => by
  unfold thr at e
  split at e
  · simp at e; omega
  · exact bad_ne _ _ _ _ e

/-- What Check lets pass: the sizes, every order. -/
theorem chk_cok {n m : Nat} {L : Nat → Nat} {X : Nat → Nat → Nat → Int} {lk rg x y z : Int} (h : chk n L X m lk rg = (x, y, z)) (hx : x = 0) : y = 0 ∧ z = 0 ∧ 0 < n ∧ ∃ lk' rg' : Nat, lk = lk' ∧ rg = rg' ∧ COk n L X m lk' rg' := by
  subst hx
  unfold chk at h
  split at h
  · rename_i h1
    simp only [Prod.mk.injEq] at h
    exact absurd h.1 h1
  · rename_i h1
    have h1 : sizesE n m lk rg = 0 := by simpa using h1
    unfold sizesE at h1
    split at h1
    · cases h1
    · split at h1
      · cases h1
      · rename_i h2 h3
        have hz := thread_zero thr_ne n 0 (by rw [h])
        rw [h] at hz
        simp only [Prod.mk.injEq] at hz
        have hR : ∀ t, t < n → thr rg m lk L X t = none := fun t ht => thread_ok thr_ne n 0 (by rw [h]) t (Nat.zero_le _) (by omega)
        have hL : ∀ t, t < n → L t ≤ 400 ∧ firstBad (fun i => ordE rg m lk (L t) (X t i 0) (X t i 1) (X t i 2) (X t i 3)) (L t) 0 = none := fun t ht => by
          have := hR t ht
          unfold thr at this
          split at this
          · cases this
          · exact ⟨by omega, this⟩
        obtain ⟨lk', rfl⟩ := Int.eq_ofNat_of_zero_le (by omega : 0 ≤ lk)
        obtain ⟨rg', rfl⟩ := Int.eq_ofNat_of_zero_le (by omega : 0 ≤ rg)
        exact ⟨hz.2.1, hz.2.2, by omega, lk', rg', rfl, rfl, by omega, fun t ht => (hL t ht).1, by omega, by omega, by omega, by omega, fun t i ht hi => bad_none (L t) 0 (hL t ht).2 i (Nat.zero_le _) (by omega)⟩
end

section
open Go.RowKit

/-- Cells that are stored one behind the other. -/
def putL (xs : List Value) (o : Nat) : List Value → List Value
  | [] => xs
  | u :: us => putL (xs.set o u) (o + 1) us
theorem fam_puts {B : Nat} {e : TypeId} {size : Nat} {v : Value} {n g : Nat} (hg : v.ownBlock = some g) : ∀ (us : List Value) (o : Nat) (w : World) (xs : List Value), w.ownsRow B e size v n xs → (w.setCells g o us).ownsRow B e size v n (putL xs o us)
  | [], _, _, _, h => h
  | u :: us, o, w, _, h => fam_puts hg us (o + 1) (w.setCell ⟨g, o, none⟩ u) _ (fam_put h hg o u)
theorem fam_shrink {w : World} {B : Nat} {e : TypeId} {size : Nat} {n m g cap : Nat} {xs : List Value} (h : w.ownsRow B e size (.slice (some ⟨g, 0, none⟩) n cap) n xs) (hm : m ≤ n) : w.ownsRow B e size (.slice (some ⟨g, 0, none⟩) m cap) m (xs.take (m * size)) := by
  obtain ⟨h0, h1⟩ := h
  have hmul : m * size ≤ n * size := Nat.mul_le_mul_right _ hm
  refine ⟨by rw [List.length_take, h0]; omega, ?_⟩
  rcases h1 with ⟨h1, _⟩ | ⟨g', cap', cur, hv, hg, hh, h2, h3, h4, h5⟩
  · simp at h1
  · simp only [Value.slice.injEq, Option.some.injEq, Addr.mk.injEq, and_true] at hv
    obtain ⟨rfl, _, rfl⟩ := hv
    exact Or.inr ⟨g, cap, cur, rfl, hg, hh, Nat.le_trans hm h2, h3, h4, by rw [← h5, List.take_take, Nat.min_eq_left hmul]⟩
theorem grown_puts (g : Nat) : ∀ (vs : List Value) (o : Nat) (w : World), w.grownBy (w.setCells g o vs) (some g)
  | [], _, _ => ⟨rfl, rfl, rfl, Nat.le_refl _, fun _ _ _ => rfl⟩
  | u :: us, o, w => by
    have h := grown_puts g us (o + 1) (w.setCell ⟨g, o, none⟩ u)
    have hz : (w.setCell ⟨g, o, none⟩ u).heap.size = w.heap.size := by simp [World.setCell]
    exact ⟨h.os, h.tape, h.output, by have := h.size; rw [hz] at this; exact this, fun k hk hne => (h.block k (by rw [hz]; exact hk) hne).trans (Below.heap_setCell _ _ _ _ (fun e => hne (by rw [e])))⟩
theorem waitV_1 (a : Wt) : waitV [a] = [.bool a.lk, .int .i64 a.wh, .int .i64 a.what] := waitV_snoc [] a
theorem waitV_2 (a b : Wt) : waitV [a, b] = [.bool a.lk, .int .i64 a.wh, .int .i64 a.what, .bool b.lk, .int .i64 b.wh, .int .i64 b.what] := by
  rw [show [a, b] = [a] ++ [b] from rfl, waitV_snoc, waitV_1]; rfl
theorem waitV_3 (a b c : Wt) : waitV [a, b, c] = [.bool a.lk, .int .i64 a.wh, .int .i64 a.what, .bool b.lk, .int .i64 b.wh, .int .i64 b.what, .bool c.lk, .int .i64 c.wh, .int .i64 c.what] := by
  rw [show [a, b, c] = [a, b] ++ [c] from rfl, waitV_snoc, waitV_2]; rfl
/-- One taken out of at most three that wait. -/
theorem waitV_cut {l : List Wt} {k : Nat} (hl : l.length ≤ 3) (hk : k < l.length) : (putL (waitV l) (k * 3) ((waitV l).drop ((k + 1) * 3))).take ((l.length - 1) * 3) = waitV (l.eraseIdx k) := by
  match l, k, hl, hk with
  | [a], 0, _, _ => rfl
  | [a, b], 0, _, _ => rw [waitV_2]; rw [show [a, b].eraseIdx 0 = [b] from rfl, waitV_1]; rfl
  | [a, b], 1, _, _ => rw [waitV_2]; rw [show [a, b].eraseIdx 1 = [a] from rfl, waitV_1]; rfl
  | [a, b, c], 0, _, _ => rw [waitV_3]; rw [show [a, b, c].eraseIdx 0 = [b, c] from rfl, waitV_2]; rfl
  | [a, b, c], 1, _, _ => rw [waitV_3]; rw [show [a, b, c].eraseIdx 1 = [a, c] from rfl, waitV_2]; rfl
  | [a, b, c], 2, _, _ => rw [waitV_3]; rw [show [a, b, c].eraseIdx 2 = [a, b] from rfl, waitV_2]; rfl
theorem waitC_one (x : Wt) (j : Nat) : (waitC x j).oneCell' = true := by
  unfold waitC
  split
  · rfl
  · split <;> rfl
theorem waitV_len (l : List Wt) : (waitV l).length = l.length * 3 := rows3_len _ _

/-- What can be picked: an order of a thread that is able, or one that waits and may be done. -/
theorem movesX_mem {L : Nat → Nat} {X : Nat → Nat → Nat → Int} {mode : Int} {s : Sx} {mv : Int} (h : mv ∈ movesX L X mode s) : (∃ t, t < s.ths.length ∧ mv = 8 * (t : Int) ∧ ableT L X s t = true) ∨ ∃ t k, t < s.ths.length ∧ k < (thOf s t).wait.length ∧ mv = 8 * (t : Int) + (k : Int) + 1 ∧ mayW mode (thOf s t).wait k = true := by
  unfold movesX at h
  rw [List.mem_flatMap] at h
  obtain ⟨t, ht, h⟩ := h
  have htn : t < s.ths.length := by simpa using ht
  unfold movesT at h
  rw [List.mem_append] at h
  rcases h with h | h
  · by_cases ha : ableT L X s t = true
    · rw [if_pos ha] at h
      exact Or.inl ⟨t, htn, by simpa using h, ha⟩
    · rw [if_neg ha] at h
      cases h
  · rw [List.mem_map] at h
    obtain ⟨k, hk, e⟩ := h
    rw [List.mem_filter] at hk
    exact Or.inr ⟨t, k, htn, by simpa using hk.1, e.symm, hk.2⟩
theorem doX_wait {X : Nat → Nat → Nat → Int} {mode : Int} {s : Sx} {t k : Nat} (hk : k < 7) : doX X mode s (8 * t + k + 1) = setTh (doneW s ((thOf s t).wait.getD k default)) t { thOf s t with wait := (thOf s t).wait.eraseIdx k } := by
  have hth : ∀ x, thOf (doneW s x) t = thOf s t := fun x => by unfold doneW; split <;> rfl
  unfold doX
  simp only [show (8 * t + k + 1) / 8 = t by omega, show (8 * t + k + 1) % 8 = k + 1 by omega]
  rw [if_pos (by omega)]
  simp only [Nat.add_sub_cancel, hth]
theorem SOk.wait {n : Nat} {L : Nat → Nat} {X : Nat → Nat → Nat → Int} {m lk rg : Nat} {mode : Int} {s : Sx} (h : SOk n L m lk rg mode s) {t k : Nat} (ht : t < n) (hk : k < (thOf s t).wait.length) : SOk n L m lk rg mode (doX X mode s (8 * t + k + 1)) := by
  have hw := h.wlen t ht
  rw [doX_wait (by omega)]
  have h1 := h.done ((thOf s t).wait.getD k default)
  refine h1.th ht (h.pc t ht) (h.regs t ht) ?_ (fun y hy => h.wok t ht y (List.mem_of_mem_eraseIdx hy)) (fun h0 => ?_)
  · have := List.length_eraseIdx_le (thOf s t).wait k
    show ((thOf s t).wait.eraseIdx k).length ≤ 3
    omega
  · show (thOf s t).wait.eraseIdx k = []
    rw [h.bare h0 t ht]; rfl
theorem prints_wait {X : Nat → Nat → Nat → Int} {mode : Int} {s : Sx} {t k : Nat} (hk : k < 7) : (doX X mode s (8 * t + k + 1)).prints = s.prints := by
  rw [doX_wait hk]
  show (doneW s _).prints = _
  unfold doneW
  split <;> rfl
theorem fell_wait {X : Nat → Nat → Nat → Int} {mode : Int} {s : Sx} {t k : Nat} (hk : k < 7) : (doX X mode s (8 * t + k + 1)).fell = s.fell := by
  rw [doX_wait hk]
  show (doneW s _).fell = _
  unfold doneW
  split <;> rfl

attribute [local go_sem ↓] appS_eq
end

section
open Go.RowKit

set_option maxHeartbeats 1000000 in
theorem kvast_any (ca : Option Addr) (n cc : Nat) (wa : Option Addr) (m wc : Nat) (lk rg : Int) (A : Nat → Option Addr) (L C : Nat → Nat) (X : Nat → Nat → Nat → Int) (_hm : m ≤ 9223372036854775807) (w : World) (hp : PIn w ca n A L C X) :
    Calls Tryz.prog 16 #[prgV ca n cc wa m wc lk rg] w fun e w' => IsBool e ∧ Below w.heap.size w w' := by
  have hn := hp.num
  have HB : Below w.heap.size w (w.alloc (.cells #[.slice ca n cc, .slice wa m wc, .int .i64 lk, .int .i64 rg] 25)) := (Below.refl _ _).alloc (Nat.le_refl _) _
  have hp2 := hp.below HB
  clear hp
  go_enter Tryz.func16, Tryz.ntmps16
  go_wp2
  go_loop [3, 4] (fun s i => ∃ (q : Int) (k : Nat), k ≤ n ∧ s = .int .i64 q ∧ i = .int .i64 k) (fun _ i => n - (intOf i).toNat)
  case atStart => exact ⟨_, 0, Nat.zero_le _, rfl, rfl⟩
  case round =>
    obtain ⟨q, k, hk, rfl, rfl⟩ := hrel
    by_cases hlt : k < n
    · obtain ⟨cb, co, rfl, hcell⟩ := hp2.code k hlt
      have hl := hp2.len k hlt
      by_cases h100 : (k : Int) < 100
      · go_wp2
        go_round
        case rel => exact ⟨_, k + 1, by omega, rfl, by go_num⟩
        case measure => simp [intOf]; omega
      · go_wp2
        all_goals go_ret
        all_goals exact ⟨⟨_, rfl⟩, HB⟩
    · go_wp2
      all_goals go_ret
      all_goals exact ⟨⟨_, rfl⟩, HB⟩

/-! Scripts that go on with noughts. -/
end

section
open Go.RowKit

structure LkI (s : Sx) : Prop where
  own : ∀ t, t < s.ths.length → ∀ x, x ∈ (thOf s t).wait → x.lk = true → s.own.getD x.wh.toNat 0 = (t : Int)
  one : ∀ t, t < s.ths.length → (((thOf s t).wait.filter fun x => x.lk).map fun x => x.wh).Nodup
/-- Locks and what waits are as they were. -/
theorem LkI.same {s s' : Sx} (h : LkI s) (hl : s'.ths.length = s.ths.length) (hw : ∀ t, t < s.ths.length → (thOf s' t).wait = (thOf s t).wait) (ho : s'.own = s.own) : LkI s' :=
  ⟨fun t ht x hx hk => by rw [hl] at ht; rw [hw t ht] at hx; rw [ho]; exact h.own t ht x hx hk, fun t ht => by rw [hl] at ht; rw [hw t ht]; exact h.one t ht⟩
theorem LkI.bare {s : Sx} (h : ∀ t, t < s.ths.length → (thOf s t).wait = []) : LkI s :=
  ⟨fun t ht x hx => absurd hx (by rw [h t ht]; simp), fun t ht => by rw [h t ht]; exact List.nodup_nil⟩
section
variable {s : Sx} {t : Nat}
theorem LkI.th (h : LkI s) (ht : t < s.ths.length) (x : Th) (hx : x.wait = (thOf s t).wait) : LkI (setTh s t x) :=
  h.same (ths_set _ _ _) (fun u _ => by
    rw [thOf_set ht]
    split
    · rename_i e; rw [e, hx]
    · rfl) rfl
theorem LkI.setR (h : LkI s) (ht : t < s.ths.length) (r v : Int) : LkI (setR s t r v) := h.th ht _ rfl
theorem LkI.words (h : LkI s) (l : List Int) : LkI { s with words := l } := h.same rfl (fun _ _ => rfl) rfl
/-- A store into a word waits. -/
theorem LkI.store (h : LkI s) (ht : t < s.ths.length) (mode a y : Int) : LkI (storeW mode s t ⟨false, a, y⟩) := by
  unfold storeW
  split
  · refine ⟨fun u hu x hx hk => ?_, fun u hu => ?_⟩
    · rw [ths_set] at hu
      rw [thOf_set ht] at hx
      split at hx
      · rename_i e
        subst e
        simp only [List.mem_append, List.mem_singleton] at hx
        rcases hx with hx | rfl
        · exact h.own u hu x hx hk
        · cases hk
      · exact h.own u hu x hx hk
    · rw [ths_set] at hu
      rw [thOf_set ht]
      split
      · rename_i e
        subst e
        have := h.one u hu
        simpa [List.filter_append] using this
      · exact h.one u hu
  · exact h.words _
/-- A lock waits to become free. -/
theorem LkI.free (h : LkI s) (ht : t < s.ths.length) {mode : Int} (hm : 0 < mode) {a : Int} (ha : 0 ≤ a) (ho : s.own.getD a.toNat 0 = (t : Int)) (hn : ((thOf s t).wait.any fun x => x.lk && decide (x.wh = a)) = false) : LkI (storeW mode s t ⟨true, a, 0⟩) := by
  unfold storeW
  rw [if_pos hm]
  refine ⟨fun u hu x hx hk => ?_, fun u hu => ?_⟩
  · rw [ths_set] at hu
    rw [thOf_set ht] at hx
    split at hx
    · rename_i e
      subst e
      simp only [List.mem_append, List.mem_singleton] at hx
      rcases hx with hx | rfl
      · exact h.own u hu x hx hk
      · exact ho
    · exact h.own u hu x hx hk
  · rw [ths_set] at hu
    rw [thOf_set ht]
    split
    · rename_i e
      subst e
      have h1 := h.one u hu
      rw [List.filter_append, List.map_append]
      simp only [List.filter_cons, List.filter_nil, if_true, List.map_cons, List.map_nil]
      rw [List.nodup_append]
      refine ⟨h1, by simp, fun x hx y hy => ?_⟩
      simp only [List.mem_singleton] at hy
      subst hy
      rw [List.mem_map] at hx
      obtain ⟨z, hz, rfl⟩ := hx
      rw [List.mem_filter] at hz
      intro e
      rw [List.any_eq_false] at hn
      exact hn z hz.1 (by simp [hz.2, e])
    · exact h.one u hu
theorem LkI.lock (h : LkI s) {a : Int} (ho : s.own.getD a.toNat 0 = -1) (hok : ∀ u, u < s.ths.length → ∀ x, x ∈ (thOf s u).wait → 0 ≤ x.wh) (v : Int) : LkI { s with own := s.own.set a.toNat v } := by
  refine ⟨fun u hu x hx hk => ?_, h.one⟩
  have h1 := h.own u hu x hx hk
  have h2 := hok u hu x hx
  have hne : a.toNat ≠ x.wh.toNat := fun e => by rw [← e, ho] at h1; omega
  show (s.own.set a.toNat v).getD x.wh.toNat 0 = _
  rw [List.getD_eq_getElem?_getD, List.getElem?_set_ne hne, ← List.getD_eq_getElem?_getD]
  exact h1
end
theorem nodup_map_inj {l : List Wt} (h : ((l.filter fun x => x.lk).map fun x => x.wh).Nodup) {i j : Nat} (hi : i < l.length) (hj : j < l.length) (h1 : l[i].lk = true) (h2 : l[j].lk = true) (e : l[i].wh = l[j].wh) (hl : l.length ≤ 3) : i = j := by
  match l, i, j, hi, hj, hl with
  | [a], 0, 0, _, _, _ => rfl
  | [a, b], 0, 0, _, _, _ => rfl
  | [a, b], 1, 1, _, _, _ => rfl
  | [a, b], 0, 1, _, _, _ => simp at h1 h2 e; simp [h1, h2, e] at h
  | [a, b], 1, 0, _, _, _ => simp at h1 h2 e; simp [h1, h2, e] at h
  | [a, b, c], 0, 0, _, _, _ => rfl
  | [a, b, c], 1, 1, _, _, _ => rfl
  | [a, b, c], 2, 2, _, _, _ => rfl
  | [a, b, c], 0, 1, _, _, _ => simp at h1 h2 e; simp [h1, h2, e, List.filter_cons] at h
  | [a, b, c], 1, 0, _, _, _ => simp at h1 h2 e; simp [h1, h2, e, List.filter_cons] at h
  | [a, b, c], 0, 2, _, _, _ => simp at h1 h2 e; cases hb : b.lk <;> simp [h1, h2, e, hb] at h
  | [a, b, c], 2, 0, _, _, _ => simp at h1 h2 e; cases hb : b.lk <;> simp [h1, h2, e, hb] at h
  | [a, b, c], 1, 2, _, _, _ => simp at h1 h2 e; cases ha : a.lk <;> simp [h1, h2, e, ha] at h
  | [a, b, c], 2, 1, _, _, _ => simp at h1 h2 e; cases ha : a.lk <;> simp [h1, h2, e, ha] at h
theorem nodup_erase {l : List Wt} (h : ((l.filter fun x => x.lk).map fun x => x.wh).Nodup) (k : Nat) : (((l.eraseIdx k).filter fun x => x.lk).map fun x => x.wh).Nodup :=
  h.sublist (((List.eraseIdx_sublist l k).filter _).map _)

/-- Whatever can be picked keeps it. -/
theorem LkI.move {n : Nat} {L : Nat → Nat} {X : Nat → Nat → Nat → Int} {m lk rg : Nat} {mode : Int} {s : Sx} (h : LkI s) (ho : SOk n L m lk rg mode s) (hc : COk n L X m lk rg) (hm : 0 ≤ mode) {mv : Int} (hmv : mv ∈ movesX L X mode s) : LkI (doX X mode s mv.toNat) := by
  rcases movesX_mem hmv with ⟨t, ht, rfl, ha⟩ | ⟨t, k, ht, hk, rfl, _⟩
  · have ht' : t < n := by rw [← ho.ths]; exact ht
    rw [show (8 * (t : Int)).toNat = 8 * t by omega, doX_order]
    have hlt := able_lt ha
    have hord := hc.ord t (thOf s t).pc ht' hlt
    change ordE rg m lk (L t) (opT X s t 0) (opT X s t 1) (opT X s t 2) (opT X s t 3) = 0 at hord
    have h0 : LkI (stepS s t) := h.th ht _ rfl
    have hl : t < (stepS s t).ths.length := by rw [stepS_len]; exact ht
    have hwt : ∀ u, (thOf (stepS s t) u).wait = (thOf s u).wait := fun u => stepS_wait ht u
    have hown : (stepS s t).own = s.own := rfl
    have hab := ableT_more (X := X) hlt
    rw [ha] at hab
    generalize opT X s t 0 = op at hord hab ⊢
    generalize opT X s t 1 = a at hord hab ⊢
    generalize opT X s t 2 = b at hord ⊢
    generalize opT X s t 3 = c at hord ⊢
    unfold orderX
    by_cases h1 : op = 1; · rw [if_pos h1]; exact h0.setR hl _ _
    rw [if_neg h1]
    by_cases h1 : op = 2; · rw [if_pos h1]; exact h0.setR hl _ _
    rw [if_neg h1]
    by_cases h1 : op = 3; · rw [if_pos h1]; exact h0.setR hl _ _
    rw [if_neg h1]
    by_cases h1 : op = 4; · rw [if_pos h1]; exact h0.setR hl _ _
    rw [if_neg h1]
    by_cases h1 : op = 5; · rw [if_pos h1]; exact h0.setR hl _ _
    rw [if_neg h1]
    by_cases h1 : op = 6; · rw [if_pos h1]; exact h0.setR hl _ _
    rw [if_neg h1]
    by_cases h1 : op = 7; · rw [if_pos h1]; exact h0.setR hl _ _
    rw [if_neg h1]
    by_cases h1 : op = 8; · rw [if_pos h1]; exact h0.setR hl _ _
    rw [if_neg h1]
    by_cases h1 : op = 9; · rw [if_pos h1]; exact h0.store hl _ _ _
    rw [if_neg h1]
    by_cases h1 : op = 10
    · rw [if_pos h1]
      split
      · exact h0.same rfl (fun _ _ => rfl) rfl
      · exact h0.setR hl _ _
    rw [if_neg h1]
    by_cases h1 : op = 11
    · rw [if_pos h1]
      split
      · exact h0.same rfl (fun _ _ => rfl) rfl
      · exact h0.store hl _ _ _
    rw [if_neg h1]
    by_cases h1 : op = 13
    · rw [if_pos h1]
      split
      · exact (h0.words ((stepS s t).words.set a.toNat (getR (stepS s t) t c))).setR hl _ _
      · exact h0.setR hl _ _
    rw [if_neg h1]
    by_cases h1 : op = 14; · rw [if_pos h1]; exact h0.th hl _ rfl
    rw [if_neg h1]
    by_cases h1 : op = 15
    · rw [if_pos h1]
      split
      · exact h0.th hl _ rfl
      · exact h0
    rw [if_neg h1]
    by_cases h1 : op = 16; · rw [if_pos h1]; exact h0.same rfl (fun _ _ => rfl) rfl
    rw [if_neg h1]
    by_cases h1 : op = 17
    · rw [if_pos h1]
      subst h1
      have hlk := ok_lock (Or.inl rfl) hord
      have ho1 : s.own.getD a.toNat 0 = -1 := by
        unfold ableO at hab
        simp at hab
        simpa [List.getD_eq_getElem?_getD] using hab.2
      exact h0.lock ho1 (fun u hu x hx => by
        rw [hwt u] at hx
        rw [stepS_len] at hu
        exact (ho.wok u (by rw [← ho.ths]; exact hu) x hx).1.1) _
    rw [if_neg h1]
    by_cases h1 : op = 18
    · rw [if_pos h1]
      subst h1
      have hlk := ok_lock (Or.inr rfl) hord
      split
      · exact h0.same rfl (fun _ _ => rfl) rfl
      · rename_i hno
        by_cases hmz : mode = 0
        · refine LkI.bare fun u hu => ?_
          have e : ∀ x, (thOf (storeW mode (stepS s t) t x) u).wait = (thOf (stepS s t) u).wait := fun x => by
            unfold storeW doneW
            rw [if_neg (by omega)]
            split <;> rfl
          have e2 : ∀ x, (storeW mode (stepS s t) t x).ths.length = (stepS s t).ths.length := fun x => by
            unfold storeW doneW
            rw [if_neg (by omega)]
            split <;> rfl
          rw [e2, stepS_len] at hu
          rw [e, hwt]
          exact ho.bare hmz u (by rw [← ho.ths]; exact hu)
        · refine h0.free hl (by omega) hlk.1 (Classical.not_not.mp fun h => hno (Or.inl h)) (Bool.eq_false_iff.mpr fun h => hno (Or.inr h))
    rw [if_neg h1]
    exact h0
  · have ht' : t < n := by rw [← ho.ths]; exact ht
    have hw3 := ho.wlen t ht'
    rw [show (8 * (t : Int) + (k : Int) + 1).toNat = 8 * t + k + 1 by omega, doX_wait (by omega)]
    obtain ⟨x, hx⟩ : ∃ x, (thOf s t).wait.getD k default = x := ⟨_, rfl⟩
    have hxm : (thOf s t).wait[k] = x := by rw [← hx]; simp [List.getD, hk]
    rw [hx]
    have hl : t < (doneW s x).ths.length := by unfold doneW; split <;> exact ht
    have hlen : (doneW s x).ths.length = s.ths.length := by unfold doneW; split <;> rfl
    have hth : ∀ u, thOf (doneW s x) u = thOf s u := fun u => by unfold doneW; split <;> rfl
    refine ⟨fun u hu y hy hyk => ?_, fun u hu => ?_⟩
    · rw [ths_set, hlen] at hu
      rw [thOf_set hl] at hy
      have hys : y ∈ (thOf s u).wait ∧ (u = t → ∃ j, j < (thOf s t).wait.length ∧ j ≠ k ∧ (thOf s t).wait[j]? = some y) := by
        split at hy
        · rename_i e
          subst e
          refine ⟨List.mem_of_mem_eraseIdx hy, fun _ => ?_⟩
          rw [List.mem_eraseIdx_iff_getElem] at hy
          obtain ⟨j, hj, hjk, e⟩ := hy
          exact ⟨j, hj, hjk, by rw [List.getElem?_eq_getElem hj, e]⟩
        · rename_i e
          rw [hth] at hy
          exact ⟨hy, fun e2 => absurd e2 e⟩
      have h1 := h.own u hu y hys.1 hyk
      show (doneW s x).own.getD y.wh.toNat 0 = _
      unfold doneW
      split
      · rename_i hxk
        have h2 := h.own t ht x (by rw [← hxm]; exact List.getElem_mem _) hxk
        have hy0 := (ho.wok u (by rw [← ho.ths]; exact hu) y hys.1).1.1
        have hx0 := (ho.wok t ht' x (by rw [← hxm]; exact List.getElem_mem _)).1.1
        have hne : x.wh.toNat ≠ y.wh.toNat := fun e => by
          have ee : x.wh = y.wh := by omega
          rw [e, h1] at h2
          have hut : u = t := by omega
          obtain ⟨j, hj, hjk, ej⟩ := hys.2 hut
          have ej' : (thOf s t).wait[j] = y := by rw [List.getElem?_eq_getElem hj] at ej; simpa using ej
          exact hjk (nodup_map_inj (h.one t ht) hj hk (by rw [ej']; exact hyk) (by rw [hxm]; exact hxk) (by rw [ej', hxm, ee]) hw3)
        show (s.own.set x.wh.toNat (-1)).getD y.wh.toNat 0 = _
        rw [List.getD_eq_getElem?_getD, List.getElem?_set_ne hne, ← List.getD_eq_getElem?_getD]
        exact h1
      · exact h1
    · rw [ths_set, hlen] at hu
      rw [thOf_set hl]
      split
      · exact nodup_erase (h.one t ht) k
      · rw [hth]; exact h.one u hu
theorem LkI.begin {n : Nat} {words : List Int} {lk rg : Nat} : LkI (beginX n words lk rg) := LkI.bare fun t ht => by
  have : t < n := by simpa [beginX] using ht
  unfold thOf beginX
  simp [List.getD, this]
end

end Go.Proofs.YtipdnfpomdcenabGreatDoor
