/-
  Who lets a lock become free has it until then, and lets it become free once.
  Steps of the program's run.
  A step of the program's run, whichever order it is; what is picked is done; which number of the script is taken.
-/
import Derived.Test.YtelckcpjmekgcadGreatDoorRDoW
import Derived.Test.YtelckcpjmekgcadGreatDoorPStepP
import Derived.Test.YtelckcpjmekgcadGreatDoorPPicks
import Derived.Test.YtelckcpjmekgcadGreatDoorPStep1
import Derived.Test.YtelckcpjmekgcadGreatDoorPStep2
import Derived.Test.YtelckcpjmekgcadGreatDoorPStep3
namespace Go.Proofs.YtelckcpjmekgcadGreatDoor
section
open Go.RowKit

structure LkI (s : Sx) : Prop where
  own : ∀ t, t < s.ths.length → ∀ x, x ∈ (thOf s t).wait → x.lk = true → s.own.getD x.wh.toNat 0 = (t : Int)
  one : ∀ t, t < s.ths.length → (((thOf s t).wait.filter fun x => x.lk).map fun x => x.wh).Nodup
/-- Locks and what waits are as they were. -/
theorem LkI.same {s s' : Sx} (h : LkI s) (hl : s'.ths.length = s.ths.length) (hw : ∀ t, t < s.ths.length → (thOf s' t).wait = (thOf s t).wait) (ho : s'.own = s.own) : LkI s' :=
  ⟨fun t ht x hx hk => by rw [hl] at ht; rw [hw t ht] at hx; rw [ho]; exact h.own t ht x hx hk, fun t ht => by rw [hl] at ht; rw [hw t ht]; exact h.one t ht⟩
theorem LkI.bare {s : Sx} (h : ∀ t, t < s.ths.length → (thOf s t).wait = []) : LkI s :=
  ⟨fun t ht x hx => absurd hx (by rw [h t ht]; simp), fun t ht => by rw [h t ht]; exact List.nodup_nil⟩
section
variable {s : Sx} {t : Nat}
theorem LkI.th (h : LkI s) (ht : t < s.ths.length) (x : Th) (hx : x.wait = (thOf s t).wait) : LkI (setTh s t x) :=
  h.same (ths_set _ _ _) (fun u _ => by
    rw [thOf_set ht]
    split
    · rename_i e; rw [e, hx]
    · rfl) rfl
theorem LkI.setR (h : LkI s) (ht : t < s.ths.length) (r v : Int) : LkI (setR s t r v) := h.th ht _ rfl
theorem LkI.words (h : LkI s) (l : List Int) : LkI { s with words := l } := h.same rfl (fun _ _ => rfl) rfl
/-- A store into a word waits. -/
theorem LkI.store (h : LkI s) (ht : t < s.ths.length) (mode a y : Int) : LkI (storeW mode s t ⟨false, a, y⟩) := by
  unfold storeW
  split
  · refine ⟨fun u hu x hx hk => ?_, fun u hu => ?_⟩
    · rw [ths_set] at hu
      rw [thOf_set ht] at hx
      split at hx
      · rename_i e
        subst e
        simp only [List.mem_append, List.mem_singleton] at hx
        rcases hx with hx | rfl
        · exact h.own u hu x hx hk
        · cases hk
      · exact h.own u hu x hx hk
    · rw [ths_set] at hu
      rw [thOf_set ht]
      split
      · rename_i e
        subst e
        have := h.one u hu
        simpa [List.filter_append] using this
      · exact h.one u hu
  · exact h.words _
/-- A lock waits to become free. -/
theorem LkI.free (h : LkI s) (ht : t < s.ths.length) {mode : Int} (hm : 0 < mode) {a : Int} (ha : 0 ≤ a) (ho : s.own.getD a.toNat 0 = (t : Int)) (hn : ((thOf s t).wait.any fun x => x.lk && decide (x.wh = a)) = false) : LkI (storeW mode s t ⟨true, a, 0⟩) := by
  unfold storeW
  rw [if_pos hm]
  refine ⟨fun u hu x hx hk => ?_, fun u hu => ?_⟩
  · rw [ths_set] at hu
    rw [thOf_set ht] at hx
    split at hx
    · rename_i e
      subst e
      simp only [List.mem_append, List.mem_singleton] at hx
      rcases hx with hx | rfl
      · exact h.own u hu x hx hk
      · exact ho
    · exact h.own u hu x hx hk
  · rw [ths_set] at hu
    rw [thOf_set ht]
    split
    · rename_i e
      subst e
      have h1 := h.one u hu
      rw [List.filter_append, List.map_append]
      simp only [List.filter_cons, List.filter_nil, if_true, List.map_cons, List.map_nil]
      rw [List.nodup_append]
      refine ⟨h1, by simp, fun x hx y hy => ?_⟩
      simp only [List.mem_singleton] at hy
      subst hy
      rw [List.mem_map] at hx
      obtain ⟨z, hz, rfl⟩ := hx
      rw [List.mem_filter] at hz
      intro e
      rw [List.any_eq_false] at hn
      exact hn z hz.1 (by simp [hz.2, e])
    · exact h.one u hu
theorem LkI.lock (h : LkI s) {a : Int} (ho : s.own.getD a.toNat 0 = -1) (hok : ∀ u, u < s.ths.length → ∀ x, x ∈ (thOf s u).wait → 0 ≤ x.wh) (v : Int) : LkI { s with own := s.own.set a.toNat v } := by
  refine ⟨fun u hu x hx hk => ?_, h.one⟩
  have h1 := h.own u hu x hx hk
  have h2 := hok u hu x hx
  have hne : a.toNat ≠ x.wh.toNat := fun e => by rw [← e, ho] at h1; omega
  show (s.own.set a.toNat v).getD x.wh.toNat 0 = _
  rw [List.getD_eq_getElem?_getD, List.getElem?_set_ne hne, ← List.getD_eq_getElem?_getD]
  exact h1
end
theorem nodup_map_inj {l : List Wt} (h : ((l.filter fun x => x.lk).map fun x => x.wh).Nodup) {i j : Nat} (hi : i < l.length) (hj : j < l.length) (h1 : l[i].lk = true) (h2 : l[j].lk = true) (e : l[i].wh = l[j].wh) (hl : l.length ≤ 3) : i = j := by
  match l, i, j, hi, hj, hl with
  | [a], 0, 0, _, _, _ => rfl
  | [a, b], 0, 0, _, _, _ => rfl
  | [a, b], 1, 1, _, _, _ => rfl
  | [a, b], 0, 1, _, _, _ => simp at h1 h2 e; simp [h1, h2, e] at h
  | [a, b], 1, 0, _, _, _ => simp at h1 h2 e; simp [h1, h2, e] at h
  | [a, b, c], 0, 0, _, _, _ => rfl
  | [a, b, c], 1, 1, _, _, _ => rfl
  | [a, b, c], 2, 2, _, _, _ => rfl
  | [a, b, c], 0, 1, _, _, _ => simp at h1 h2 e; simp [h1, h2, e, List.filter_cons] at h
  | [a, b, c], 1, 0, _, _, _ => simp at h1 h2 e; simp [h1, h2, e, List.filter_cons] at h
  | [a, b, c], 0, 2, _, _, _ => simp at h1 h2 e; cases hb : b.lk <;> simp [h1, h2, e, hb] at h
  | [a, b, c], 2, 0, _, _, _ => simp at h1 h2 e; cases hb : b.lk <;> simp [h1, h2, e, hb] at h
  | [a, b, c], 1, 2, _, _, _ => simp at h1 h2 e; cases ha : a.lk <;> simp [h1, h2, e, ha] at h
  | [a, b, c], 2, 1, _, _, _ => simp at h1 h2 e; cases ha : a.lk <;> simp [h1, h2, e, ha] at h
theorem nodup_erase {l : List Wt} (h : ((l.filter fun x => x.lk).map fun x => x.wh).Nodup) (k : Nat) : (((l.eraseIdx k).filter fun x => x.lk).map fun x => x.wh).Nodup :=
  h.sublist (((List.eraseIdx_sublist l k).filter _).map _)

/-- Whatever can be picked keeps it. -/
theorem LkI.move {n : Nat} {L : Nat → Nat} {X : Nat → Nat → Nat → Int} {m lk rg : Nat} {mode : Int} {s : Sx} (h : LkI s) (ho : SOk n L m lk rg mode s) (hc : COk n L X m lk rg) (hm : 0 ≤ mode) {mv : Int} (hmv : mv ∈ movesX L X mode s) : LkI (doX X mode s mv.toNat) := by
  rcases movesX_mem hmv with ⟨t, ht, rfl, ha⟩ | ⟨t, k, ht, hk, rfl, _⟩
  · have ht' : t < n := by rw [← ho.ths]; exact ht
    rw [show (8 * (t : Int)).toNat = 8 * t by omega, doX_order]
    have hlt := able_lt ha
    have hord := hc.ord t (thOf s t).pc ht' hlt
    change ordE rg m lk (L t) (opT X s t 0) (opT X s t 1) (opT X s t 2) (opT X s t 3) = 0 at hord
    have h0 : LkI (stepS s t) := h.th ht _ rfl
    have hl : t < (stepS s t).ths.length := by rw [stepS_len]; exact ht
    have hwt : ∀ u, (thOf (stepS s t) u).wait = (thOf s u).wait := fun u => stepS_wait ht u
    have hown : (stepS s t).own = s.own := rfl
    have hab := ableT_more (X := X) hlt
    rw [ha] at hab
    generalize opT X s t 0 = op at hord hab ⊢
    generalize opT X s t 1 = a at hord hab ⊢
    generalize opT X s t 2 = b at hord ⊢
    generalize opT X s t 3 = c at hord ⊢
    unfold orderX
    by_cases h1 : op = 1; · rw [if_pos h1]; exact h0.setR hl _ _
    rw [if_neg h1]
    by_cases h1 : op = 2; · rw [if_pos h1]; exact h0.setR hl _ _
    rw [if_neg h1]
    by_cases h1 : op = 3; · rw [if_pos h1]; exact h0.setR hl _ _
    rw [if_neg h1]
    by_cases h1 : op = 4; · rw [if_pos h1]; exact h0.setR hl _ _
    rw [if_neg h1]
    by_cases h1 : op = 5; · rw [if_pos h1]; exact h0.setR hl _ _
    rw [if_neg h1]
    by_cases h1 : op = 6; · rw [if_pos h1]; exact h0.setR hl _ _
    rw [if_neg h1]
    by_cases h1 : op = 7; · rw [if_pos h1]; exact h0.setR hl _ _
    rw [if_neg h1]
    by_cases h1 : op = 8; · rw [if_pos h1]; exact h0.setR hl _ _
    rw [if_neg h1]
    by_cases h1 : op = 9; · rw [if_pos h1]; exact h0.store hl _ _ _
    rw [if_neg h1]
    by_cases h1 : op = 10
    · rw [if_pos h1]
      split
      · exact h0.same rfl (fun _ _ => rfl) rfl
      · exact h0.setR hl _ _
    rw [if_neg h1]
    by_cases h1 : op = 11
    · rw [if_pos h1]
      split
      · exact h0.same rfl (fun _ _ => rfl) rfl
      · exact h0.store hl _ _ _
    rw [if_neg h1]
    by_cases h1 : op = 13
    · rw [if_pos h1]
      split
      · exact (h0.words ((stepS s t).words.set a.toNat (getR (stepS s t) t c))).setR hl _ _
      · exact h0.setR hl _ _
    rw [if_neg h1]
    by_cases h1 : op = 14; · rw [if_pos h1]; exact h0.th hl _ rfl
    rw [if_neg h1]
    by_cases h1 : op = 15
    · rw [if_pos h1]
      split
      · exact h0.th hl _ rfl
      · exact h0
    rw [if_neg h1]
    by_cases h1 : op = 16; · rw [if_pos h1]; exact h0.same rfl (fun _ _ => rfl) rfl
    rw [if_neg h1]
    by_cases h1 : op = 17
    · rw [if_pos h1]
      subst h1
      have hlk := ok_lock (Or.inl rfl) hord
      have ho1 : s.own.getD a.toNat 0 = -1 := by
        unfold ableO at hab
        simp at hab
        simpa [List.getD_eq_getElem?_getD] using hab.2
      exact h0.lock ho1 (fun u hu x hx => by
        rw [hwt u] at hx
        rw [stepS_len] at hu
        exact (ho.wok u (by rw [← ho.ths]; exact hu) x hx).1.1) _
    rw [if_neg h1]
    by_cases h1 : op = 18
    · rw [if_pos h1]
      subst h1
      have hlk := ok_lock (Or.inr rfl) hord
      split
      · exact h0.same rfl (fun _ _ => rfl) rfl
      · rename_i hno
        by_cases hmz : mode = 0
        · refine LkI.bare fun u hu => ?_
          have e : ∀ x, (thOf (storeW mode (stepS s t) t x) u).wait = (thOf (stepS s t) u).wait := fun x => by
            unfold storeW doneW
            rw [if_neg (by omega)]
            split <;> rfl
          have e2 : ∀ x, (storeW mode (stepS s t) t x).ths.length = (stepS s t).ths.length := fun x => by
            unfold storeW doneW
            rw [if_neg (by omega)]
            split <;> rfl
          rw [e2, stepS_len] at hu
          rw [e, hwt]
          exact ho.bare hmz u (by rw [← ho.ths]; exact hu)
        · refine h0.free hl (by omega) hlk.1 (Classical.not_not.mp fun h => hno (Or.inl h)) (Bool.eq_false_iff.mpr fun h => hno (Or.inr h))
    rw [if_neg h1]
    exact h0
  · have ht' : t < n := by rw [← ho.ths]; exact ht
    have hw3 := ho.wlen t ht'
    rw [show (8 * (t : Int) + (k : Int) + 1).toNat = 8 * t + k + 1 by omega, doX_wait (by omega)]
    obtain ⟨x, hx⟩ : ∃ x, (thOf s t).wait.getD k default = x := ⟨_, rfl⟩
    have hxm : (thOf s t).wait[k] = x := by rw [← hx]; simp [List.getD, hk]
    rw [hx]
    have hl : t < (doneW s x).ths.length := by unfold doneW; split <;> exact ht
    have hlen : (doneW s x).ths.length = s.ths.length := by unfold doneW; split <;> rfl
    have hth : ∀ u, thOf (doneW s x) u = thOf s u := fun u => by unfold doneW; split <;> rfl
    refine ⟨fun u hu y hy hyk => ?_, fun u hu => ?_⟩
    · rw [ths_set, hlen] at hu
      rw [thOf_set hl] at hy
      have hys : y ∈ (thOf s u).wait ∧ (u = t → ∃ j, j < (thOf s t).wait.length ∧ j ≠ k ∧ (thOf s t).wait[j]? = some y) := by
        split at hy
        · rename_i e
          subst e
          refine ⟨List.mem_of_mem_eraseIdx hy, fun _ => ?_⟩
          rw [List.mem_eraseIdx_iff_getElem] at hy
          obtain ⟨j, hj, hjk, e⟩ := hy
          exact ⟨j, hj, hjk, by rw [List.getElem?_eq_getElem hj, e]⟩
        · rename_i e
          rw [hth] at hy
          exact ⟨hy, fun e2 => absurd e2 e⟩
      have h1 := h.own u hu y hys.1 hyk
      show (doneW s x).own.getD y.wh.toNat 0 = _
      unfold doneW
      split
      · rename_i hxk
        have h2 := h.own t ht x (by rw [← hxm]; exact List.getElem_mem _) hxk
        have hy0 := (ho.wok u (by rw [← ho.ths]; exact hu) y hys.1).1.1
        have hx0 := (ho.wok t ht' x (by rw [← hxm]; exact List.getElem_mem _)).1.1
        have hne : x.wh.toNat ≠ y.wh.toNat := fun e => by
          have ee : x.wh = y.wh := by omega
          rw [e, h1] at h2
          have hut : u = t := by omega
          obtain ⟨j, hj, hjk, ej⟩ := hys.2 hut
          have ej' : (thOf s t).wait[j] = y := by rw [List.getElem?_eq_getElem hj] at ej; simpa using ej
          exact hjk (nodup_map_inj (h.one t ht) hj hk (by rw [ej']; exact hyk) (by rw [hxm]; exact hxk) (by rw [ej', hxm, ee]) hw3)
        show (s.own.set x.wh.toNat (-1)).getD y.wh.toNat 0 = _
        rw [List.getD_eq_getElem?_getD, List.getElem?_set_ne hne, ← List.getD_eq_getElem?_getD]
        exact h1
      · exact h1
    · rw [ths_set, hlen] at hu
      rw [thOf_set hl]
      split
      · exact nodup_erase (h.one t ht) k
      · rw [hth]; exact h.one u hu
theorem LkI.begin {n : Nat} {words : List Int} {lk rg : Nat} : LkI (beginX n words lk rg) := LkI.bare fun t ht => by
  have : t < n := by simpa [beginX] using ht
  unfold thOf beginX
  simp [List.getD, this]
end

section
open Go.RowKit

set_option maxRecDepth 100000 in
set_option maxHeartbeats 3200000 in
theorem step_15 (w : World) (B : Nat) (Q : Cd) (sb mb : Nat) (v : Rp → Value) (s : Sx) (ca : Option Addr) (X : Nat → Nat → Nat → Int) (n m lk rg t : Nat) (hx : Cy w B Q sb mb v s ca X n m lk rg t) (hop : opT X s t 0 = 15) :
    Calls Tryz.prog 89 #[.pointer (some ⟨sb, 0, none⟩), .int .i64 t] w (StepQ B Q sb mb v w (orderX Q.K.mode (stepS s t) t 15 (opT X s t 1) (opT X s t 2) (opT X s t 3))) := by
  obtain ⟨tb, tc, rb, rc, pc, ob, oo, ⟨htn, hn4, hpcl, hL4⟩, hpre⟩ := hx.pre
  have htl : t < s.ths.length := by have := hx.ho.ths; have := hx.ht; omega
  have hrl : (thOf s t).regs.length = rg := hx.ho.regs t hx.ht
  have hord := hx.hc.ord t (thOf s t).pc hx.ht hx.hlt
  have hrg2 := hx.hc.rg2
  have hwl : s.words.length = m := hx.ho.words
  have hol : s.own.length = lk := hx.ho.own
  have hm64 := hx.hc.m64
  have hlk4 := hx.hc.lk4
  have hM := hx.hM
  have hf := hx.hf
  have hthn := hx.ho.ths
  have hsl : (stepS s t).ths.length = s.ths.length := stepS_len s t
  have hsr : (thOf (stepS s t) t).regs.length = rg := by rw [stepS_regs htl]; exact hrl
  have HMPX : Hid (∀ W : World, QSt W B Q sb mb v (stepS s t) → w.heap.size ≤ W.heap.size → MPre W B Q sb mb v (stepS s t) t) := fun W hq hW => hx.mpre hq hW
  have hsf : (stepS s t).fell = false := hf
  change ordE rg m lk (Q.L t) (opT X s t 0) (opT X s t 1) (opT X s t 2) (opT X s t 3) = 0 at hord
  have d1 := hpre.c1
  have dc := hpre.cc
  have dp := hpre.cp
  have df := hpre.cf
  have dr := hpre.cr
  have y0 := hpre.y0
  have y1 := hpre.y1
  have y2 := hpre.y2
  have y3 := hpre.y3
  have nrt := hpre.nrt
  have ntr := hpre.ntr
  have nst := hpre.nst
  have nts := hpre.nts
  have lsb := hpre.lsb
  have lrb := hpre.lrb
  have ltb := hpre.ltb
  have lob := hpre.lob
  rw [hop] at hord y0
  obtain ⟨a, ea⟩ : ∃ x, opT X s t 1 = x := ⟨_, rfl⟩
  obtain ⟨b, eb⟩ : ∃ x, opT X s t 2 = x := ⟨_, rfl⟩
  obtain ⟨c, ec⟩ : ∃ x, opT X s t 3 = x := ⟨_, rfl⟩
  rw [ea, eb, ec] at hord ⊢
  rw [ea] at y1
  rw [eb] at y2
  rw [ec] at y3
  clear ea eb ec
  obtain ⟨⟨ia, rfl, ha⟩, ⟨ib, rfl, hb⟩⟩ := by
    have h3 := ok_zero hord
    exact (⟨toN h3.1, toN_le h3.2⟩ : _ ∧ _)
  obtain ⟨LT, hLT⟩ : ∃ x, Q.L t = x := ⟨_, rfl⟩
  rw [hLT] at dc hpcl hL4
  have HP := Hid.out (p := Hid _) hpre
  have HX := Hid.out (p := Hid _) hx
  have HD : Hid (∀ W, W.heap = ((w.setCell ⟨tb, t * 3 + 1, none⟩ (.int .i64 ((pc : Int) + 1))).alloc (.cells #[.int .i64 15, .int .i64 (ia : Int), .int .i64 (ib : Int), .int .i64 c] 37)).heap → QSt W B Q sb mb v (stepS s t)) := fun W e => (hpre.D.alloc _).same e
  have HM : Hid (∀ W, W.heap = ((w.setCell ⟨tb, t * 3 + 1, none⟩ (.int .i64 ((pc : Int) + 1))).alloc (.cells #[.int .i64 15, .int .i64 (ia : Int), .int .i64 (ib : Int), .int .i64 c] 37)).heap → W.os = w.os → W.tape = w.tape → W.output = w.output → Moved w W v v) := fun W e e1 e2 e3 => Moved.same (hpre.M.alloc _) e e1 e2 e3
  have wa := hpre.reg htl (r := ia) (by omega)
  obtain ⟨VA, eA⟩ : ∃ x, getR s t (ia : Int) = x := ⟨_, rfl⟩
  have HVA : Hid (getR s t (ia : Int) = VA) := eA
  rw [eA] at wa
  clear eA
  by_cases hz : VA = 0
  · subst hz
    have HST : Hid (orderX Q.K.mode (stepS s t) t 15 (ia : Int) (ib : Int) c = setTh s t { thOf s t with pc := ib }) := by
      show (if getR (stepS s t) t (ia : Int) = 0 then setTh (stepS s t) t { thOf (stepS s t) t with pc := ib } else _) = _
      rw [stepS_getR htl, HVA.out, if_pos rfl]
      exact stepS_jump htl ib
    have HF : Hid (QSt (w.setCell ⟨tb, t * 3 + 1, none⟩ (.int .i64 (ib : Int))) B Q sb mb v (setTh s t { thOf s t with pc := ib }) ∧ Moved w (w.setCell ⟨tb, t * 3 + 1, none⟩ (.int .i64 (ib : Int))) v v) := ⟨hx.hs.setPc hpre.btb htl ib, (Moved.refl w v).put hpre.btb _ _⟩
    have HG : Hid (QSt ((w.setCell ⟨tb, t * 3 + 1, none⟩ (.int .i64 ((pc : Int) + 1))).setCell ⟨tb, t * 3 + 1, none⟩ (.int .i64 (ib : Int))) B Q sb mb v (setTh s t { thOf s t with pc := ib }) ∧ Moved w ((w.setCell ⟨tb, t * 3 + 1, none⟩ (.int .i64 ((pc : Int) + 1))).setCell ⟨tb, t * 3 + 1, none⟩ (.int .i64 (ib : Int))) v v) := ⟨by have := hpre.D.setPc hpre.btb (by rw [hsl]; exact htl) ib; rwa [stepS_jump htl] at this, hpre.M.put hpre.btb _ _⟩
    have HH : Hid (∀ o, QSt (((w.setCell ⟨tb, t * 3 + 1, none⟩ (.int .i64 ((pc : Int) + 1))).alloc o).setCell ⟨tb, t * 3 + 1, none⟩ (.int .i64 (ib : Int))) B Q sb mb v (setTh s t { thOf s t with pc := ib }) ∧ Moved w (((w.setCell ⟨tb, t * 3 + 1, none⟩ (.int .i64 ((pc : Int) + 1))).alloc o).setCell ⟨tb, t * 3 + 1, none⟩ (.int .i64 (ib : Int))) v v) := fun o => ⟨by have := (hpre.D.alloc o).setPc hpre.btb (by rw [hsl]; exact htl) ib; rwa [stepS_jump htl] at this, (hpre.M.alloc o).put hpre.btb _ _⟩
    clear hord
    clear hx hpre hop hLT
    go_enter Tryz.func89, Tryz.ntmps89
    go_wp2
    go_region
    all_goals go_wp2
    all_goals go_quiet (fail)
    all_goals go_wp2
    all_goals go_ret
    all_goals refine ⟨?_, v, ?_⟩
    all_goals rw [HST.out]
    all_goals first | (show _ = Ending.returned (.bool (!s.fell)); rw [hf]; rfl) | exact ⟨QSt.same (HH.out _).1 rfl, Moved.same (HH.out _).2 rfl rfl rfl rfl⟩
  · have HST : Hid (orderX Q.K.mode (stepS s t) t 15 (ia : Int) (ib : Int) c = stepS s t) := by
      show (if getR (stepS s t) t (ia : Int) = 0 then _ else stepS s t) = _
      rw [stepS_getR htl, HVA.out, if_neg hz]
    clear hord
    clear hx hpre hop hLT
    go_enter Tryz.func89, Tryz.ntmps89
    go_wp2
    go_region
    all_goals go_wp2
    all_goals go_quiet (fail)
    all_goals go_wp2
    all_goals go_ret
    all_goals refine ⟨?_, v, ?_⟩
    all_goals rw [HST.out]
    all_goals first | (show _ = Ending.returned (.bool (!s.fell)); rw [hf]; rfl) | exact ⟨HD.out _ rfl, HM.out _ (by rfl) (by rfl) (by rfl) (by rfl)⟩
end

section
open Go.RowKit

theorem step_any (w : World) (B : Nat) (Q : Cd) (sb mb : Nat) (v : Rp → Value) (s : Sx) (ca : Option Addr) (X : Nat → Nat → Nat → Int) (n m lk rg t : Nat) (hx : Cy w B Q sb mb v s ca X n m lk rg t) :
    Calls Tryz.prog 89 #[.pointer (some ⟨sb, 0, none⟩), .int .i64 t] w (StepQ B Q sb mb v w (doX X Q.K.mode s (8 * t))) := by
  rw [doX_order]
  have hop := ok_op (hx.hc.ord t (thOf s t).pc hx.ht hx.hlt)
  change 1 ≤ opT X s t 0 ∧ opT X s t 0 ≤ 18 at hop
  rcases (by omega : opT X s t 0 = 1 ∨ opT X s t 0 = 2 ∨ opT X s t 0 = 3 ∨ opT X s t 0 = 4 ∨ opT X s t 0 = 5 ∨ opT X s t 0 = 6 ∨ opT X s t 0 = 7 ∨ opT X s t 0 = 8 ∨ opT X s t 0 = 9 ∨ opT X s t 0 = 10 ∨ opT X s t 0 = 11 ∨ opT X s t 0 = 12 ∨ opT X s t 0 = 13 ∨ opT X s t 0 = 14 ∨ opT X s t 0 = 15 ∨ opT X s t 0 = 16 ∨ opT X s t 0 = 17 ∨ opT X s t 0 = 18) with h | h | h | h | h | h | h | h | h | h | h | h | h | h | h | h | h | h
  · rw [h]; exact step_1 w B Q sb mb v s ca X n m lk rg t hx h
  · rw [h]; exact step_2 w B Q sb mb v s ca X n m lk rg t hx h
  · rw [h]; exact step_3 w B Q sb mb v s ca X n m lk rg t hx h
  · rw [h]; exact step_4 w B Q sb mb v s ca X n m lk rg t hx h
  · rw [h]; exact step_5 w B Q sb mb v s ca X n m lk rg t hx h
  · rw [h]; exact step_6 w B Q sb mb v s ca X n m lk rg t hx h
  · rw [h]; exact step_7 w B Q sb mb v s ca X n m lk rg t hx h
  · rw [h]; exact step_8 w B Q sb mb v s ca X n m lk rg t hx h
  · rw [h]; exact step_9 w B Q sb mb v s ca X n m lk rg t hx h
  · rw [h]; exact step_10 w B Q sb mb v s ca X n m lk rg t hx h
  · rw [h]; exact step_11 w B Q sb mb v s ca X n m lk rg t hx h
  · rw [h]; exact step_12 w B Q sb mb v s ca X n m lk rg t hx h
  · rw [h]; exact step_13 w B Q sb mb v s ca X n m lk rg t hx h
  · rw [h]; exact step_14 w B Q sb mb v s ca X n m lk rg t hx h
  · rw [h]; exact step_15 w B Q sb mb v s ca X n m lk rg t hx h
  · rw [h]; exact step_16 w B Q sb mb v s ca X n m lk rg t hx h
  · rw [h]; exact step_17 w B Q sb mb v s ca X n m lk rg t hx h
  · rw [h]; exact step_18 w B Q sb mb v s ca X n m lk rg t hx h

set_option maxRecDepth 100000 in
set_option maxHeartbeats 1600000 in
theorem pdo_any (w : World) (B : Nat) (Q : Cd) (sb mb : Nat) (v : Rp → Value) (s : Sx) (ca : Option Addr) (X : Nat → Nat → Nat → Int) (n m lk rg t : Nat) (hx : Cy w B Q sb mb v s ca X n m lk rg t) :
    Calls Tryz.prog 72 #[.pointer (some ⟨sb, 0, none⟩), .agg #[.int .i64 (t : Int), .int .i64 (-1)]] w (StepQ B Q sb mb v w (doX X Q.K.mode s (8 * t))) := by
  have HC : Hid (∀ o, Calls Tryz.prog 89 #[.pointer (some ⟨sb, 0, none⟩), .int .i64 t] (w.alloc o) (StepQ B Q sb mb v (w.alloc o) (doX X Q.K.mode s (8 * t)))) := fun o =>
    step_any (w.alloc o) B Q sb mb v s ca X n m lk rg t ⟨hx.ht, hx.hs.alloc o, by have := hx.hB; simp; omega, hx.ho, hx.hc, hx.hp.below ((Below.refl _ _).alloc (Nat.le_refl _) _), hx.hlt, hx.hpr, hx.hf, hx.hM, hx.hnt, hx.room⟩
  clear hx
  go_enter Tryz.func72, Tryz.ntmps72
  go_wp2_with fail
  refine Calls.mono (HC.out _) ?_
  rintro e w1 ⟨rfl, v1, hq1, hm1⟩
  go_wp2_with fail
  go_ret
  exact ⟨rfl, v1, hq1, ((Moved.refl _ _).alloc _).trans hm1⟩

set_option maxRecDepth 100000 in
set_option maxHeartbeats 1600000 in
theorem pfin_any (w : World) (B : Nat) (Q : Cd) (sb mb : Nat) (v : Rp → Value) (s : Sx) (X : Nat → Nat → Nat → Int) (t k : Nat) (hM : MLaw Q.K) (hmp : MPre w B Q sb mb v s t) (hlo : ∀ x, x ∈ (thOf s t).wait → x.lk = true → s.own.getD x.wh.toNat 0 = (t : Int)) (hf : s.fell = false) (hk : k < (thOf s t).wait.length) (hmay : mayW Q.K.mode (thOf s t).wait k = true) :
    Calls Tryz.prog 72 #[.pointer (some ⟨sb, 0, none⟩), .agg #[.int .i64 (t : Int), .int .i64 (k : Int)]] w (StepQ B Q sb mb v w (doX X Q.K.mode s (8 * t + k + 1))) := by
  have hw := hmp.hw
  have hfl : (doX X Q.K.mode s (8 * t + k + 1)).fell = false := by rw [fell_wait (by omega)]; exact hf
  obtain ⟨s4, hs4⟩ : ∃ x, doX X Q.K.mode s (8 * t + k + 1) = x := ⟨_, rfl⟩
  have HC : Hid (∀ o, Calls Tryz.prog Q.K.finish #[.pointer (some ⟨Q.top mb, 0, none⟩), .int .i64 t, .int .i64 k] (w.alloc o).drew (ChgQ B Q sb mb v (w.alloc o).drew s4 (.tuple #[]))) := fun o => by
    rw [← hs4]
    exact hM.finish (w.alloc o).drew B Q sb mb v s X t k rfl (hmp.below ((Below.refl _ _).alloc (Nat.le_refl _) _).drew) hlo hk hmay
  have c0 := cell_up hmp.hs.c0
  have lsb : sb < w.heap.size := lt_of_cell hmp.hs.c0
  have mF := hM.mFinish
  have kF := hM.cFinish
  have hk' : ¬ (k : Int) = -1 := by omega
  rw [hs4] at hfl ⊢
  have HFL : Hid (s4.fell = false) := hfl
  clear hmp hlo hs4 hmay hk hw hf hfl
  go_enter Tryz.func72, Tryz.ntmps72
  go_wp2_with fail
  refine region_tail 8 (by kernel_rfl) (by kernel_rfl) ?_
  simp only [List.take_succ_cons, List.take_zero, List.drop_succ_cons, List.drop_zero]
  repeat still_step
  refine wpStill_nil ?_
  go_wp2_with fail
  refine Calls.mono (HC.out _) ?_
  rintro e w1 ⟨rfl, v1, hq1, hm1, _⟩
  go_wp2_with fail
  go_ret
  exact ⟨by rw [HFL.out]; rfl, v1, hq1, ((Moved.refl _ _).alloc _).drew.trans hm1⟩

/-- Whatever can be picked can be done. -/
theorem pmove_any (w : World) (B : Nat) (Q : Cd) (sb mb : Nat) (v : Rp → Value) (s : Sx) (ca : Option Addr) (X : Nat → Nat → Nat → Int) (n m lk rg : Nat) (hs : QSt w B Q sb mb v s) (hB : B ≤ w.heap.size) (ho : SOk n Q.L m lk rg Q.K.mode s) (hc : COk n Q.L X m lk rg) (hp : PIn w ca n Q.A Q.L Q.C X) (hpr : s.prints.length ≤ 20000) (hf : s.fell = false) (hM : MLaw Q.K) (hnt : Q.nt = n) (hlk : LkI s) (mv : Int) (hmv : mv ∈ movesX Q.L X Q.K.mode s) :
    Calls Tryz.prog 72 #[.pointer (some ⟨sb, 0, none⟩), .agg #[.int .i64 (mv / 8), .int .i64 (mv % 8 - 1)]] w (StepQ B Q sb mb v w (doX X Q.K.mode s mv.toNat)) ∧ SOk n Q.L m lk rg Q.K.mode (doX X Q.K.mode s mv.toNat) ∧ (doX X Q.K.mode s mv.toNat).prints.length ≤ s.prints.length + 2 ∧ LkI (doX X Q.K.mode s mv.toNat) := by
  have hm0 : 0 ≤ Q.K.mode := by
    cases hb : Q.K.bf with
    | false => rw [hM.mode0 hb]; omega
    | true => have := hM.mode1 hb; omega
  have hn4 := hc.n4
  have hlk2 := hlk.move ho hc hm0 hmv
  rcases movesX_mem hmv with ⟨t, ht, rfl, ha⟩ | ⟨t, k, ht, hk, rfl, hmay⟩
  · have ht' : t < n := by rw [← ho.ths]; exact ht
    rw [show (8 * (t : Int)).toNat = 8 * t by omega] at hlk2 ⊢
    rw [show 8 * (t : Int) / 8 = (t : Int) by omega, show 8 * (t : Int) % 8 - 1 = -1 by omega]
    exact ⟨pdo_any w B Q sb mb v s ca X n m lk rg t ⟨ht', hs, hB, ho, hc, hp, able_lt ha, hpr, hf, hM, hnt, fun h => able_room ha h⟩, ho.step hc hm0 ht' ha, prints_step, hlk2⟩
  · have ht' : t < n := by rw [← ho.ths]; exact ht
    have hw := ho.wlen t ht'
    have hmp : MPre w B Q sb mb v s t := ⟨hs, hB, by rw [ho.ths]; exact hnt, by rw [ho.ths]; exact hn4, ht, by rw [ho.words]; exact hc.m64, by rw [ho.own]; exact hc.lk4, hw, fun x hx => by rw [ho.own, ho.words]; exact ho.wok t ht' x hx, fun hb => ho.bare (hM.mode0 hb) t ht'⟩
    rw [show (8 * (t : Int) + (k : Int) + 1).toNat = 8 * t + k + 1 by omega] at hlk2 ⊢
    rw [show (8 * (t : Int) + (k : Int) + 1) / 8 = (t : Int) by omega, show (8 * (t : Int) + (k : Int) + 1) % 8 - 1 = (k : Int) by omega]
    exact ⟨pfin_any w B Q sb mb v s X t k hM hmp (hlk.own t ht) hf hk hmay, ho.wait ht' hk, by rw [prints_wait (by omega)]; omega, hlk2⟩
end

end Go.Proofs.YtelckcpjmekgcadGreatDoor
