/-
  Who lets a lock become free has it until then, and lets it become free once.
  What the methods of the plain memory do.
-/
import Derived.Test.YtefnmbnakphhfadGreatDoorWorkP
import Derived.Test.YtefnmbnakphhfadGreatDoorPRow
import Derived.Test.YtefnmbnakphhfadGreatDoorDSt
namespace Go.Proofs.YtefnmbnakphhfadGreatDoor
section
open Go.RowKit

structure LkI (s : Sx) : Prop where
  own : ∀ t, t < s.ths.length → ∀ x, x ∈ (thOf s t).wait → x.lk = true → s.own.getD x.wh.toNat 0 = (t : Int)
  one : ∀ t, t < s.ths.length → (((thOf s t).wait.filter fun x => x.lk).map fun x => x.wh).Nodup
/-- Locks and what waits are as they were. -/
theorem LkI.same {s s' : Sx} (h : LkI s) (hl : s'.ths.length = s.ths.length) (hw : ∀ t, t < s.ths.length → (thOf s' t).wait = (thOf s t).wait) (ho : s'.own = s.own) : LkI s' :=
  ⟨fun t ht x hx hk => by rw [hl] at ht; rw [hw t ht] at hx; rw [ho]; exact h.own t ht x hx hk, fun t ht => by rw [hl] at ht; rw [hw t ht]; exact h.one t ht⟩
theorem LkI.bare {s : Sx} (h : ∀ t, t < s.ths.length → (thOf s t).wait = []) : LkI s :=
  ⟨fun t ht x hx => absurd hx (by rw [h t ht]; simp), fun t ht => by rw [h t ht]; exact List.nodup_nil⟩
section
variable {s : Sx} {t : Nat}
theorem LkI.th (h : LkI s) (ht : t < s.ths.length) (x : Th) (hx : x.wait = (thOf s t).wait) : LkI (setTh s t x) :=
  h.same (ths_set _ _ _) (fun u _ => by
    rw [thOf_set ht]
    split
    · rename_i e; rw [e, hx]
    · rfl) rfl
theorem LkI.setR (h : LkI s) (ht : t < s.ths.length) (r v : Int) : LkI (setR s t r v) := h.th ht _ rfl
theorem LkI.words (h : LkI s) (l : List Int) : LkI { s with words := l } := h.same rfl (fun _ _ => rfl) rfl
/-- A store into a word waits. -/
theorem LkI.store (h : LkI s) (ht : t < s.ths.length) (mode a y : Int) : LkI (storeW mode s t ⟨false, a, y⟩) := by
  unfold storeW
  split
  · refine ⟨fun u hu x hx hk => ?_, fun u hu => ?_⟩
    · rw [ths_set] at hu
      rw [thOf_set ht] at hx
      split at hx
      · rename_i e
        subst e
        simp only [List.mem_append, List.mem_singleton] at hx
        rcases hx with hx | rfl
        · exact h.own u hu x hx hk
        · cases hk
      · exact h.own u hu x hx hk
    · rw [ths_set] at hu
      rw [thOf_set ht]
      split
      · rename_i e
        subst e
        have := h.one u hu
        simpa [List.filter_append] using this
      · exact h.one u hu
  · exact h.words _
/-- A lock waits to become free. -/
theorem LkI.free (h : LkI s) (ht : t < s.ths.length) {mode : Int} (hm : 0 < mode) {a : Int} (ha : 0 ≤ a) (ho : s.own.getD a.toNat 0 = (t : Int)) (hn : ((thOf s t).wait.any fun x => x.lk && decide (x.wh = a)) = false) : LkI (storeW mode s t ⟨true, a, 0⟩) := by
  unfold storeW
  rw [if_pos hm]
  refine ⟨fun u hu x hx hk => ?_, fun u hu => ?_⟩
  · rw [ths_set] at hu
    rw [thOf_set ht] at hx
    split at hx
    · rename_i e
      subst e
      simp only [List.mem_append, List.mem_singleton] at hx
      rcases hx with hx | rfl
      · exact h.own u hu x hx hk
      · exact ho
    · exact h.own u hu x hx hk
  · rw [ths_set] at hu
    rw [thOf_set ht]
    split
    · rename_i e
      subst e
      have h1 := h.one u hu
      rw [List.filter_append, List.map_append]
      simp only [List.filter_cons, List.filter_nil, if_true, List.map_cons, List.map_nil]
      rw [List.nodup_append]
      refine ⟨h1, by simp, fun x hx y hy => ?_⟩
      simp only [List.mem_singleton] at hy
      subst hy
      rw [List.mem_map] at hx
      obtain ⟨z, hz, rfl⟩ := hx
      rw [List.mem_filter] at hz
      intro e
      rw [List.any_eq_false] at hn
      exact hn z hz.1 (by simp [hz.2, e])
    · exact h.one u hu
theorem LkI.lock (h : LkI s) {a : Int} (ho : s.own.getD a.toNat 0 = -1) (hok : ∀ u, u < s.ths.length → ∀ x, x ∈ (thOf s u).wait → 0 ≤ x.wh) (v : Int) : LkI { s with own := s.own.set a.toNat v } := by
  refine ⟨fun u hu x hx hk => ?_, h.one⟩
  have h1 := h.own u hu x hx hk
  have h2 := hok u hu x hx
  have hne : a.toNat ≠ x.wh.toNat := fun e => by rw [← e, ho] at h1; omega
  show (s.own.set a.toNat v).getD x.wh.toNat 0 = _
  rw [List.getD_eq_getElem?_getD, List.getElem?_set_ne hne, ← List.getD_eq_getElem?_getD]
  exact h1
end
theorem nodup_map_inj {l : List Wt} (h : ((l.filter fun x => x.lk).map fun x => x.wh).Nodup) {i j : Nat} (hi : i < l.length) (hj : j < l.length) (h1 : l[i].lk = true) (h2 : l[j].lk = true) (e : l[i].wh = l[j].wh) (hl : l.length ≤ 3) : i = j := by
  match l, i, j, hi, hj, hl with
  | [a], 0, 0, _, _, _ => rfl
  | [a, b], 0, 0, _, _, _ => rfl
  | [a, b], 1, 1, _, _, _ => rfl
  | [a, b], 0, 1, _, _, _ => simp at h1 h2 e; simp [h1, h2, e] at h
  | [a, b], 1, 0, _, _, _ => simp at h1 h2 e; simp [h1, h2, e] at h
  | [a, b, c], 0, 0, _, _, _ => rfl
  | [a, b, c], 1, 1, _, _, _ => rfl
  | [a, b, c], 2, 2, _, _, _ => rfl
  | [a, b, c], 0, 1, _, _, _ => simp at h1 h2 e; simp [h1, h2, e, List.filter_cons] at h
  | [a, b, c], 1, 0, _, _, _ => simp at h1 h2 e; simp [h1, h2, e, List.filter_cons] at h
  | [a, b, c], 0, 2, _, _, _ => simp at h1 h2 e; cases hb : b.lk <;> simp [h1, h2, e, hb] at h
  | [a, b, c], 2, 0, _, _, _ => simp at h1 h2 e; cases hb : b.lk <;> simp [h1, h2, e, hb] at h
  | [a, b, c], 1, 2, _, _, _ => simp at h1 h2 e; cases ha : a.lk <;> simp [h1, h2, e, ha] at h
  | [a, b, c], 2, 1, _, _, _ => simp at h1 h2 e; cases ha : a.lk <;> simp [h1, h2, e, ha] at h
theorem nodup_erase {l : List Wt} (h : ((l.filter fun x => x.lk).map fun x => x.wh).Nodup) (k : Nat) : (((l.eraseIdx k).filter fun x => x.lk).map fun x => x.wh).Nodup :=
  h.sublist (((List.eraseIdx_sublist l k).filter _).map _)

/-- Whatever can be picked keeps it. -/
theorem LkI.move {n : Nat} {L : Nat → Nat} {X : Nat → Nat → Nat → Int} {m lk rg : Nat} {mode : Int} {s : Sx} (h : LkI s) (ho : SOk n L m lk rg mode s) (hc : COk n L X m lk rg) (hm : 0 ≤ mode) {mv : Int} (hmv : mv ∈ movesX L X mode s) : LkI (doX X mode s mv.toNat) := by
  rcases movesX_mem hmv with ⟨t, ht, rfl, ha⟩ | ⟨t, k, ht, hk, rfl, _⟩
  · have ht' : t < n := by rw [← ho.ths]; exact ht
    rw [show (8 * (t : Int)).toNat = 8 * t by omega, doX_order]
    have hlt := able_lt ha
    have hord := hc.ord t (thOf s t).pc ht' hlt
    change ordE rg m lk (L t) (opT X s t 0) (opT X s t 1) (opT X s t 2) (opT X s t 3) = 0 at hord
    have h0 : LkI (stepS s t) := h.th ht _ rfl
    have hl : t < (stepS s t).ths.length := by rw [stepS_len]; exact ht
    have hwt : ∀ u, (thOf (stepS s t) u).wait = (thOf s u).wait := fun u => stepS_wait ht u
    have hown : (stepS s t).own = s.own := rfl
    have hab := ableT_more (X := X) hlt
    rw [ha] at hab
    generalize opT X s t 0 = op at hord hab ⊢
    generalize opT X s t 1 = a at hord hab ⊢
    generalize opT X s t 2 = b at hord ⊢
    generalize opT X s t 3 = c at hord ⊢
    unfold orderX
    by_cases h1 : op = 1; · rw [if_pos h1]; exact h0.setR hl _ _
    rw [if_neg h1]
    by_cases h1 : op = 2; · rw [if_pos h1]; exact h0.setR hl _ _
    rw [if_neg h1]
    by_cases h1 : op = 3; · rw [if_pos h1]; exact h0.setR hl _ _
    rw [if_neg h1]
    by_cases h1 : op = 4; · rw [if_pos h1]; exact h0.setR hl _ _
    rw [if_neg h1]
    by_cases h1 : op = 5; · rw [if_pos h1]; exact h0.setR hl _ _
    rw [if_neg h1]
    by_cases h1 : op = 6; · rw [if_pos h1]; exact h0.setR hl _ _
    rw [if_neg h1]
    by_cases h1 : op = 7; · rw [if_pos h1]; exact h0.setR hl _ _
    rw [if_neg h1]
    by_cases h1 : op = 8; · rw [if_pos h1]; exact h0.setR hl _ _
    rw [if_neg h1]
    by_cases h1 : op = 9; · rw [if_pos h1]; exact h0.store hl _ _ _
    rw [if_neg h1]
    by_cases h1 : op = 10
    · rw [if_pos h1]
      split
      · exact h0.same rfl (fun _ _ => rfl) rfl
      · exact h0.setR hl _ _
    rw [if_neg h1]
    by_cases h1 : op = 11
    · rw [if_pos h1]
      split
      · exact h0.same rfl (fun _ _ => rfl) rfl
      · exact h0.store hl _ _ _
    rw [if_neg h1]
    by_cases h1 : op = 13
    · rw [if_pos h1]
      split
      · exact (h0.words ((stepS s t).words.set a.toNat (getR (stepS s t) t c))).setR hl _ _
      · exact h0.setR hl _ _
    rw [if_neg h1]
    by_cases h1 : op = 14; · rw [if_pos h1]; exact h0.th hl _ rfl
    rw [if_neg h1]
    by_cases h1 : op = 15
    · rw [if_pos h1]
      split
      · exact h0.th hl _ rfl
      · exact h0
    rw [if_neg h1]
    by_cases h1 : op = 16; · rw [if_pos h1]; exact h0.same rfl (fun _ _ => rfl) rfl
    rw [if_neg h1]
    by_cases h1 : op = 17
    · rw [if_pos h1]
      subst h1
      have hlk := ok_lock (Or.inl rfl) hord
      have ho1 : s.own.getD a.toNat 0 = -1 := by
        unfold ableO at hab
        simp at hab
        simpa [List.getD_eq_getElem?_getD] using hab.2
      exact h0.lock ho1 (fun u hu x hx => by
        rw [hwt u] at hx
        rw [stepS_len] at hu
        exact (ho.wok u (by rw [← ho.ths]; exact hu) x hx).1.1) _
    rw [if_neg h1]
    by_cases h1 : op = 18
    · rw [if_pos h1]
      subst h1
      have hlk := ok_lock (Or.inr rfl) hord
      split
      · exact h0.same rfl (fun _ _ => rfl) rfl
      · rename_i hno
        by_cases hmz : mode = 0
        · refine LkI.bare fun u hu => ?_
          have e : ∀ x, (thOf (storeW mode (stepS s t) t x) u).wait = (thOf (stepS s t) u).wait := fun x => by
            unfold storeW doneW
            rw [if_neg (by omega)]
            split <;> rfl
          have e2 : ∀ x, (storeW mode (stepS s t) t x).ths.length = (stepS s t).ths.length := fun x => by
            unfold storeW doneW
            rw [if_neg (by omega)]
            split <;> rfl
          rw [e2, stepS_len] at hu
          rw [e, hwt]
          exact ho.bare hmz u (by rw [← ho.ths]; exact hu)
        · refine h0.free hl (by omega) hlk.1 (Classical.not_not.mp fun h => hno (Or.inl h)) (Bool.eq_false_iff.mpr fun h => hno (Or.inr h))
    rw [if_neg h1]
    exact h0
  · have ht' : t < n := by rw [← ho.ths]; exact ht
    have hw3 := ho.wlen t ht'
    rw [show (8 * (t : Int) + (k : Int) + 1).toNat = 8 * t + k + 1 by omega, doX_wait (by omega)]
    obtain ⟨x, hx⟩ : ∃ x, (thOf s t).wait.getD k default = x := ⟨_, rfl⟩
    have hxm : (thOf s t).wait[k] = x := by rw [← hx]; simp [List.getD, hk]
    rw [hx]
    have hl : t < (doneW s x).ths.length := by unfold doneW; split <;> exact ht
    have hlen : (doneW s x).ths.length = s.ths.length := by unfold doneW; split <;> rfl
    have hth : ∀ u, thOf (doneW s x) u = thOf s u := fun u => by unfold doneW; split <;> rfl
    refine ⟨fun u hu y hy hyk => ?_, fun u hu => ?_⟩
    · rw [ths_set, hlen] at hu
      rw [thOf_set hl] at hy
      have hys : y ∈ (thOf s u).wait ∧ (u = t → ∃ j, j < (thOf s t).wait.length ∧ j ≠ k ∧ (thOf s t).wait[j]? = some y) := by
        split at hy
        · rename_i e
          subst e
          refine ⟨List.mem_of_mem_eraseIdx hy, fun _ => ?_⟩
          rw [List.mem_eraseIdx_iff_getElem] at hy
          obtain ⟨j, hj, hjk, e⟩ := hy
          exact ⟨j, hj, hjk, by rw [List.getElem?_eq_getElem hj, e]⟩
        · rename_i e
          rw [hth] at hy
          exact ⟨hy, fun e2 => absurd e2 e⟩
      have h1 := h.own u hu y hys.1 hyk
      show (doneW s x).own.getD y.wh.toNat 0 = _
      unfold doneW
      split
      · rename_i hxk
        have h2 := h.own t ht x (by rw [← hxm]; exact List.getElem_mem _) hxk
        have hy0 := (ho.wok u (by rw [← ho.ths]; exact hu) y hys.1).1.1
        have hx0 := (ho.wok t ht' x (by rw [← hxm]; exact List.getElem_mem _)).1.1
        have hne : x.wh.toNat ≠ y.wh.toNat := fun e => by
          have ee : x.wh = y.wh := by omega
          rw [e, h1] at h2
          have hut : u = t := by omega
          obtain ⟨j, hj, hjk, ej⟩ := hys.2 hut
          have ej' : (thOf s t).wait[j] = y := by rw [List.getElem?_eq_getElem hj] at ej; simpa using ej
          exact hjk (nodup_map_inj (h.one t ht) hj hk (by rw [ej']; exact hyk) (by rw [hxm]; exact hxk) (by rw [ej', hxm, ee]) hw3)
        show (s.own.set x.wh.toNat (-1)).getD y.wh.toNat 0 = _
        rw [List.getD_eq_getElem?_getD, List.getElem?_set_ne hne, ← List.getD_eq_getElem?_getD]
        exact h1
      · exact h1
    · rw [ths_set, hlen] at hu
      rw [thOf_set hl]
      split
      · exact nodup_erase (h.one t ht) k
      · rw [hth]; exact h.one u hu
theorem LkI.begin {n : Nat} {words : List Int} {lk rg : Nat} : LkI (beginX n words lk rg) := LkI.bare fun t ht => by
  have : t < n := by simpa [beginX] using ht
  unfold thOf beginX
  simp [List.getD, this]
end

section
open Go.RowKit

set_option maxRecDepth 100000 in
set_option maxHeartbeats 1600000 in
theorem has_yes (w : World) (B : Nat) (Q : Cd) (sb mb : Nat) (v : Rp → Value) (s : Sx) (x : Int) (hs : QSt w B Q sb mb v s) (_hm : s.words.length ≤ 64) (hx : 0 ≤ x ∧ x < (s.words.length : Int)) :
    Calls Tryz.prog 138 #[.pointer (some ⟨mb, 0, none⟩), .int .i64 x] w fun e w' => e = .returned (.bool true) ∧ w' = w := by
  obtain ⟨a, c, hv⟩ := hs.form .words
  have k0 := hs.m0
  rw [hv] at k0
  change w.cell? ⟨mb, 0, none⟩ = some (.slice a s.words.length c) at k0
  obtain ⟨n, hn⟩ : ∃ n, s.words.length = n := ⟨_, rfl⟩
  rw [hn] at k0 _hm hx
  obtain ⟨h0, h1⟩ := hx
  clear hs hv hn
  go_enter Tryz.func138, Tryz.ntmps138
  go_wp2
  go_ret
  exact ⟨rfl, rfl⟩
set_option maxRecDepth 100000 in
set_option maxHeartbeats 1600000 in
theorem has_no (w : World) (B : Nat) (Q : Cd) (sb mb : Nat) (v : Rp → Value) (s : Sx) (x : Int) (hs : QSt w B Q sb mb v s) (_hm : s.words.length ≤ 64) (hx : x < 0 ∨ (s.words.length : Int) ≤ x) :
    Calls Tryz.prog 138 #[.pointer (some ⟨mb, 0, none⟩), .int .i64 x] w fun e w' => e = .returned (.bool false) ∧ w' = w := by
  obtain ⟨a, c, hv⟩ := hs.form .words
  have k0 := hs.m0
  rw [hv] at k0
  change w.cell? ⟨mb, 0, none⟩ = some (.slice a s.words.length c) at k0
  obtain ⟨n, hn⟩ : ∃ n, s.words.length = n := ⟨_, rfl⟩
  rw [hn] at k0 _hm hx
  clear hs hv hn
  by_cases h0 : x < 0
  · clear hx
    have h0' : decide (0 ≤ x) = false := by simpa using h0
    go_enter Tryz.func138, Tryz.ntmps138
    go_wp2
    go_ret
    exact ⟨rfl, rfl⟩
  · have h1 : (n : Int) ≤ x := by omega
    have h0' : 0 ≤ x := by omega
    clear hx h0
    go_enter Tryz.func138, Tryz.ntmps138
    go_wp2
    go_ret
    exact ⟨ret_bool (by simp; omega), rfl⟩
set_option maxRecDepth 100000 in
set_option maxHeartbeats 1600000 in
theorem pload_any (w : World) (B : Nat) (Q : Cd) (sb mb : Nat) (v : Rp → Value) (s : Sx) (t : Int) (x : Nat) (hs : QSt w B Q sb mb v s) (_hm : s.words.length ≤ 64) (hx : x < s.words.length) :
    Calls Tryz.prog 153 #[.pointer (some ⟨mb, 0, none⟩), .int .i64 t, .int .i64 x] w fun e w' => e = .returned (.int .i64 (s.words.getD x 0)) ∧ w' = w := by
  obtain ⟨wb, wc, hv, hwb, _⟩ := hs.blk .words (by show 0 < s.words.length; omega)
  have k0 := hs.m0
  rw [hv] at k0
  change w.cell? ⟨mb, 0, none⟩ = some (.slice (some ⟨wb, 0, none⟩) s.words.length wc) at k0
  have kw := hs.word hwb hx
  obtain ⟨n, hn⟩ : ∃ n, s.words.length = n := ⟨_, rfl⟩
  rw [hn] at k0 _hm hx
  obtain ⟨y, hy⟩ : ∃ n, s.words.getD x 0 = n := ⟨_, rfl⟩
  rw [hy] at kw ⊢
  clear hs hv hn hwb hy
  go_enter Tryz.func153, Tryz.ntmps153
  go_wp2
  go_ret
  exact ⟨rfl, rfl⟩
set_option maxRecDepth 100000 in
set_option maxHeartbeats 1600000 in
theorem pstore_any (w : World) (B : Nat) (Q : Cd) (sb mb : Nat) (v : Rp → Value) (s : Sx) (t y : Int) (x : Nat) (hs : QSt w B Q sb mb v s) (_hm : s.words.length ≤ 64) (hx : x < s.words.length) :
    Calls Tryz.prog 151 #[.pointer (some ⟨mb, 0, none⟩), .int .i64 t, .int .i64 x, .int .i64 y] w fun e w' => e = .returned (.tuple #[]) ∧ QSt w' B Q sb mb v { s with words := s.words.set x y } ∧ Moved w w' v v := by
  obtain ⟨wb, wc, hv, hwb, _⟩ := hs.blk .words (by show 0 < s.words.length; omega)
  have k0 := hs.m0
  rw [hv] at k0
  change w.cell? ⟨mb, 0, none⟩ = some (.slice (some ⟨wb, 0, none⟩) s.words.length wc) at k0
  have kw := hs.word hwb hx
  have kf := hs.fam.frozen hwb x
  have HF : Hid (QSt (w.setCell ⟨wb, x, none⟩ (.int .i64 y)) B Q sb mb v { s with words := s.words.set x y } ∧ Moved w (w.setCell ⟨wb, x, none⟩ (.int .i64 y)) v v) := ⟨hs.setWord hwb x y, (Moved.refl _ _).put hwb x _⟩
  obtain ⟨n, hn⟩ : ∃ n, s.words.length = n := ⟨_, rfl⟩
  rw [hn] at k0 _hm hx
  obtain ⟨z, hz⟩ : ∃ n, s.words.getD x 0 = n := ⟨_, rfl⟩
  rw [hz] at kw
  clear hs hv hn hwb hz
  go_enter Tryz.func151, Tryz.ntmps151
  go_wp2
  go_end0
  exact ⟨rfl, HF.out⟩
set_option maxRecDepth 100000 in
set_option maxHeartbeats 1600000 in
theorem pswap_yes (w : World) (B : Nat) (Q : Cd) (sb mb : Nat) (v : Rp → Value) (s : Sx) (t f y : Int) (x : Nat) (hs : QSt w B Q sb mb v s) (_hm : s.words.length ≤ 64) (hx : x < s.words.length) (hf : s.words.getD x 0 = f) :
    Calls Tryz.prog 142 #[.pointer (some ⟨mb, 0, none⟩), .int .i64 t, .int .i64 x, .int .i64 f, .int .i64 y] w fun e w' => e = .returned (.bool true) ∧ QSt w' B Q sb mb v { s with words := s.words.set x y } ∧ Moved w w' v v := by
  obtain ⟨wb, wc, hv, hwb, _⟩ := hs.blk .words (by show 0 < s.words.length; omega)
  have k0 := hs.m0
  rw [hv] at k0
  change w.cell? ⟨mb, 0, none⟩ = some (.slice (some ⟨wb, 0, none⟩) s.words.length wc) at k0
  have kw := hs.word hwb hx
  have kf := hs.fam.frozen hwb x
  have HF : Hid (QSt (w.setCell ⟨wb, x, none⟩ (.int .i64 y)) B Q sb mb v { s with words := s.words.set x y } ∧ Moved w (w.setCell ⟨wb, x, none⟩ (.int .i64 y)) v v) := ⟨hs.setWord hwb x y, (Moved.refl _ _).put hwb x _⟩
  obtain ⟨n, hn⟩ : ∃ n, s.words.length = n := ⟨_, rfl⟩
  rw [hn] at k0 _hm hx
  rw [hf] at kw
  clear hs hv hn hwb hf
  go_enter Tryz.func142, Tryz.ntmps142
  go_wp2
  go_ret
  exact ⟨rfl, HF.out⟩
set_option maxRecDepth 100000 in
set_option maxHeartbeats 1600000 in
theorem pswap_no (w : World) (B : Nat) (Q : Cd) (sb mb : Nat) (v : Rp → Value) (s : Sx) (t f y : Int) (x : Nat) (hs : QSt w B Q sb mb v s) (_hm : s.words.length ≤ 64) (hx : x < s.words.length) (hf : ¬ s.words.getD x 0 = f) :
    Calls Tryz.prog 142 #[.pointer (some ⟨mb, 0, none⟩), .int .i64 t, .int .i64 x, .int .i64 f, .int .i64 y] w fun e w' => e = .returned (.bool false) ∧ w' = w := by
  obtain ⟨wb, wc, hv, hwb, _⟩ := hs.blk .words (by show 0 < s.words.length; omega)
  have k0 := hs.m0
  rw [hv] at k0
  change w.cell? ⟨mb, 0, none⟩ = some (.slice (some ⟨wb, 0, none⟩) s.words.length wc) at k0
  have kw := hs.word hwb hx
  obtain ⟨n, hn⟩ : ∃ n, s.words.length = n := ⟨_, rfl⟩
  rw [hn] at k0 _hm hx
  obtain ⟨z, hz⟩ : ∃ n, s.words.getD x 0 = n := ⟨_, rfl⟩
  rw [hz] at kw hf
  clear hs hv hn hwb hz
  go_enter Tryz.func142, Tryz.ntmps142
  go_wp2
  go_ret
  exact ⟨rfl, rfl⟩
set_option maxRecDepth 100000 in
set_option maxHeartbeats 1600000 in
theorem plock_any (w : World) (B : Nat) (Q : Cd) (sb mb : Nat) (v : Rp → Value) (s : Sx) (t : Int) (x : Nat) (hs : QSt w B Q sb mb v s) (_hm : s.own.length ≤ 4) (hx : x < s.own.length) :
    Calls Tryz.prog 140 #[.pointer (some ⟨mb, 0, none⟩), .int .i64 t, .int .i64 x] w fun e w' => e = .returned (.tuple #[]) ∧ QSt w' B Q sb mb v { s with own := s.own.set x t } ∧ Moved w w' v v := by
  obtain ⟨wb, wc, hv, hwb, _⟩ := hs.blk .own (by show 0 < s.own.length; omega)
  have k0 := hs.m1
  rw [hv] at k0
  change w.cell? ⟨mb, 1, none⟩ = some (.slice (some ⟨wb, 0, none⟩) s.own.length wc) at k0
  have kw := hs.owner hwb hx
  have kf := hs.fam.frozen hwb x
  have HF : Hid (QSt (w.setCell ⟨wb, x, none⟩ (.int .i64 t)) B Q sb mb v { s with own := s.own.set x t } ∧ Moved w (w.setCell ⟨wb, x, none⟩ (.int .i64 t)) v v) := ⟨hs.setOwn hwb x t, (Moved.refl _ _).put hwb x _⟩
  obtain ⟨n, hn⟩ : ∃ n, s.own.length = n := ⟨_, rfl⟩
  rw [hn] at k0 _hm hx
  obtain ⟨z, hz⟩ : ∃ n, s.own.getD x 0 = n := ⟨_, rfl⟩
  rw [hz] at kw
  clear hs hv hn hwb hz
  go_enter Tryz.func140, Tryz.ntmps140
  go_wp2
  go_end0
  exact ⟨rfl, HF.out⟩
set_option maxRecDepth 100000 in
set_option maxHeartbeats 1600000 in
theorem holds_any (w : World) (B : Nat) (Q : Cd) (sb mb : Nat) (v : Rp → Value) (s : Sx) (t : Int) (x : Nat) (hs : QSt w B Q sb mb v s) (_hm : s.own.length ≤ 4) (hx : x < s.own.length) :
    Calls Tryz.prog 157 #[.pointer (some ⟨mb, 0, none⟩), .int .i64 t, .int .i64 x] w fun e w' => e = .returned (.bool (decide (s.own.getD x 0 = t))) ∧ w = w' := by
  obtain ⟨wb, wc, hv, hwb, _⟩ := hs.blk .own (by show 0 < s.own.length; omega)
  have k0 := hs.m1
  rw [hv] at k0
  change w.cell? ⟨mb, 1, none⟩ = some (.slice (some ⟨wb, 0, none⟩) s.own.length wc) at k0
  have kw := hs.owner hwb hx
  obtain ⟨n, hn⟩ : ∃ n, s.own.length = n := ⟨_, rfl⟩
  rw [hn] at k0 _hm hx
  obtain ⟨z, hz⟩ : ∃ n, s.own.getD x 0 = n := ⟨_, rfl⟩
  rw [hz] at kw ⊢
  clear hs hv hn hwb hz
  go_enter Tryz.func157, Tryz.ntmps157
  go_wp2
  go_ret
  exact ⟨ret_bool (by rw [Bool.eq_iff_iff]; simp), rfl⟩
set_option maxRecDepth 100000 in
set_option maxHeartbeats 1600000 in
theorem punlock_yes (w : World) (B : Nat) (Q : Cd) (sb mb : Nat) (v : Rp → Value) (s : Sx) (t : Int) (x : Nat) (hs : QSt w B Q sb mb v s) (_hm : s.own.length ≤ 4) (hx : x < s.own.length) (ht : s.own.getD x 0 = t) :
    Calls Tryz.prog 150 #[.pointer (some ⟨mb, 0, none⟩), .int .i64 t, .int .i64 x] w fun e w' => e = .returned (.bool true) ∧ QSt w' B Q sb mb v { s with own := s.own.set x (-1) } ∧ Moved w w' v v := by
  have HH := holds_any w B Q sb mb v s t x hs _hm hx
  rw [decide_eq_true ht] at HH
  obtain ⟨wb, wc, hv, hwb, _⟩ := hs.blk .own (by show 0 < s.own.length; omega)
  have k0 := hs.m1
  rw [hv] at k0
  change w.cell? ⟨mb, 1, none⟩ = some (.slice (some ⟨wb, 0, none⟩) s.own.length wc) at k0
  have kw := hs.owner hwb hx
  have kf := hs.fam.frozen hwb x
  have HF : Hid (QSt (w.setCell ⟨wb, x, none⟩ (.int .i64 (-1))) B Q sb mb v { s with own := s.own.set x (-1) } ∧ Moved w (w.setCell ⟨wb, x, none⟩ (.int .i64 (-1))) v v) := ⟨hs.setOwn hwb x (-1), (Moved.refl _ _).put hwb x _⟩
  obtain ⟨n, hn⟩ : ∃ n, s.own.length = n := ⟨_, rfl⟩
  rw [hn] at k0 _hm hx
  obtain ⟨z, hz⟩ : ∃ n, s.own.getD x 0 = n := ⟨_, rfl⟩
  rw [hz] at kw
  have HHH := Hid.out (p := Hid _) HH
  clear hs hv hn hwb hz HH ht
  go_enter Tryz.func150, Tryz.ntmps150
  go_wp2_with fail
  refine Calls.mono HHH.out ?_
  rintro e w1 ⟨rfl, rfl⟩
  go_wp2
  go_ret
  exact ⟨rfl, HF.out⟩
set_option maxRecDepth 100000 in
set_option maxHeartbeats 1600000 in
theorem punlock_no (w : World) (B : Nat) (Q : Cd) (sb mb : Nat) (v : Rp → Value) (s : Sx) (t : Int) (x : Nat) (hs : QSt w B Q sb mb v s) (_hm : s.own.length ≤ 4) (hx : x < s.own.length) (ht : ¬ s.own.getD x 0 = t) :
    Calls Tryz.prog 150 #[.pointer (some ⟨mb, 0, none⟩), .int .i64 t, .int .i64 x] w fun e w' => e = .returned (.bool false) ∧ w' = w := by
  have HH := holds_any w B Q sb mb v s t x hs _hm hx
  rw [decide_eq_false ht] at HH
  have HHH := Hid.out (p := Hid _) HH
  clear hs HH ht
  go_enter Tryz.func150, Tryz.ntmps150
  go_wp2_with fail
  refine Calls.mono HHH.out ?_
  rintro e w1 ⟨rfl, rfl⟩
  go_wp2
  go_ret
  exact ⟨rfl, rfl⟩
theorem waiting_any (mb : Nat) (t f : Value) (w : World) : Calls Tryz.prog 166 #[.pointer (some ⟨mb, 0, none⟩), t, f] w fun e w' => e = .returned (.tuple #[]) ∧ w = w' := by
  go_enter Tryz.func166, Tryz.ntmps166
  go_wp2
  go_end0
  exact ⟨rfl, rfl⟩
set_option maxRecDepth 100000 in
set_option maxHeartbeats 1600000 in
theorem pable_any (w : World) (B : Nat) (Q : Cd) (sb mb : Nat) (v : Rp → Value) (s : Sx) (t op a b c : Int) (hs : QSt w B Q sb mb v s) (_hm : s.own.length ≤ 4) (ha : op = 17 → 0 ≤ a ∧ a < (s.own.length : Int)) :
    Calls Tryz.prog 147 #[.pointer (some ⟨mb, 0, none⟩), .int .i64 t, ints4 op a b c] w fun e w' => e = .returned (.bool (ableO s.own 0 op a)) ∧ Below w.heap.size w w' := by
  have fin : ∀ o, Below w.heap.size w (w.alloc o) := fun o => (Below.refl _ _).alloc (Nat.le_refl _) _
  by_cases h : op = 17
  · subst h
    obtain ⟨j, rfl, hj⟩ := toN (ha rfl)
    obtain ⟨wb, wc, hv, hwb, _⟩ := hs.blk .own (by show 0 < s.own.length; omega)
    have k0 := hs.m1
    rw [hv] at k0
    change w.cell? ⟨mb, 1, none⟩ = some (.slice (some ⟨wb, 0, none⟩) s.own.length wc) at k0
    have kw := hs.owner hwb hj
    have k0u := cell_up k0
    have kwu := cell_up kw
    have hr : ableO s.own 0 17 (j : Int) = decide (s.own.getD j 0 = -1) := by simp [ableO]
    rw [hr]
    obtain ⟨n, hn⟩ : ∃ n, s.own.length = n := ⟨_, rfl⟩
    rw [hn] at k0u _hm hj
    obtain ⟨z, hz⟩ : ∃ n, s.own.getD j 0 = n := ⟨_, rfl⟩
    rw [hz] at kwu ⊢
    clear hs hv hn hwb hz ha k0 kw hr
    go_enter Tryz.func147, Tryz.ntmps147
    go_wp2
    go_quiet (fail)
    go_wp2
    go_ret
    exact ⟨ret_bool (by rw [Bool.eq_iff_iff]; simp), below_drewN (fin _)⟩
  · have hr : ableO s.own 0 op a = true := by
      unfold ableO
      split
      · simp
      · split
        · simp
        · rfl
    rw [hr]
    have h' : (op != 17) = true := by simpa using h
    clear hs ha hr
    go_enter Tryz.func147, Tryz.ntmps147
    go_wp2
    go_quiet (fail)
    go_wp2
    go_ret
    exact ⟨rfl, below_drewN (fin _)⟩
end

end Go.Proofs.YtefnmbnakphhfadGreatDoor
