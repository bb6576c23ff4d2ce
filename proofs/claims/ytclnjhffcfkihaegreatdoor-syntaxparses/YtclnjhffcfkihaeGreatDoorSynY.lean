/-
  Every text is read, or something is told of it: statements, programs.
  The document's parser in memory: where it stands, what stands next.
-/
import Derived.Test.YtclnjhffcfkihaeGreatDoorSynX
import Derived.Test.YtclnjhffcfkihaeGreatDoorPlain
import Derived.BigRegion
namespace Go.Proofs.YtclnjhffcfkihaeGreatDoor
section
section
variable {e : Int}
theorem et_len {β : Type} {n d : Nat} {s : List UInt8} {l r : List Tok} {f : Nd → List Tok → Option (TRes β)} {y : β} (h : exprThen e n d s l f = some (.ok (y, r))) : ∃ a q, f a q = some (.ok (y, r)) ∧ q.length < l.length := by
  unfold exprThen at h
  obtain ⟨a, q, ha, h⟩ := andT_ok h
  obtain ⟨q2, hq, h⟩ := thenT_ok h
  have k1 := (expr_len n).1 _ _ _ _ _ ha
  have k2 := take_len hq
  exact ⟨a, q2, h, by omega⟩
theorem tail_le (l : List Tok) : l.tail.length ≤ l.length := by cases l <;> simp
theorem assign_len {n d : Nat} {l r : List Tok} {x : Nd} (h : assignF e n d l = some (.ok (x, r))) : r.length < l.length := by
  unfold assignF at h
  obtain ⟨s, q, hs, h⟩ := nameThen_ok h
  obtain ⟨q1, hq1, h⟩ := thenT_ok h
  have k1 := name_len hs
  have k2 := take_len hq1
  split at h
  · obtain ⟨q2, hq2, h⟩ := thenT_ok h
    obtain ⟨q3, hq3, h⟩ := thenT_ok h
    obtain ⟨s2, q4, hs4, h⟩ := nameThen_ok h
    obtain ⟨q5, hq5, h⟩ := thenT_ok h
    obtain ⟨a, q6, h, k6⟩ := et_len h
    obtain ⟨b, q7, h, k7⟩ := et_len h
    obtain ⟨q8, hq8, h⟩ := thenT_ok h
    obtain ⟨_, rfl⟩ := ok_inj h
    have := take_len hq2
    have := open_len hq3
    have := name_len hs4
    have := take_len hq5
    have := take_len hq8
    omega
  · obtain ⟨a, q6, h, k6⟩ := et_len h
    obtain ⟨_, rfl⟩ := ok_inj h
    omega
theorem plain_len {n d : Nat} {l r : List Tok} {x : Nd} (h : plainF e n d l = some (.ok (x, r))) : r.length < l.length := by
  have kt := tail_le l
  unfold plainF at h
  split at h
  · obtain ⟨s, q, hs, h⟩ := nameThen_ok h
    obtain ⟨q1, hq1, h⟩ := thenT_ok h
    obtain ⟨a, q6, h, k6⟩ := et_len h
    obtain ⟨_, rfl⟩ := ok_inj h
    have k1 := name_len hs
    have k2 := take_len hq1
    omega
  · split at h
    · obtain ⟨a, q, ha, h⟩ := andT_ok h
      obtain ⟨q1, hq1, h⟩ := thenT_ok h
      obtain ⟨_, rfl⟩ := ok_inj h
      have k1 := (expr_len n).2.2.2 _ _ _ _ ha
      have k2 := take_len hq1
      omega
    · split at h
      · obtain ⟨q1, hq1, h⟩ := thenT_ok h
        obtain ⟨s, q, hs, h⟩ := nameThen_ok h
        obtain ⟨q2, hq2, h⟩ := thenT_ok h
        obtain ⟨q3, hq3, h⟩ := thenT_ok h
        obtain ⟨_, rfl⟩ := ok_inj h
        have k1 := open_len hq1
        have k2 := name_len hs
        have k3 := take_len hq2
        have k4 := take_len hq3
        omega
      · split at h
        · obtain ⟨q1, hq1, h⟩ := thenT_ok h
          obtain ⟨_, rfl⟩ := ok_inj h
          have k1 := take_len hq1
          omega
        · exact assign_len h
theorem stmt_len : ∀ n, (∀ d l x r, stmtF e n d l = some (.ok (x, r)) → r.length < l.length) ∧ (∀ d l x r, blockF e n d l = some (.ok (x, r)) → r.length < l.length) ∧ ∀ d ks l x r, stmtsF e n d ks l = some (.ok (x, r)) → r.length ≤ l.length
  | 0 => ⟨fun _ _ _ _ h => by (rw [stmtF] at h; cases h), fun _ _ _ _ h => by (rw [blockF] at h; cases h), fun _ _ _ _ _ h => by (rw [stmtsF] at h; cases h)⟩
  | n + 1 => by
    obtain ⟨h1, h2, h3⟩ := stmt_len n
    refine ⟨fun d l x r h => ?_, fun d l x r h => ?_, fun d ks l x r h => ?_⟩
    · have kt := tail_le l
      rw [stmtF] at h
      split at h
      · obtain ⟨a, q, ha, h⟩ := andT_ok h
        obtain ⟨b, q1, hb, h⟩ := andT_ok h
        have k1 := (expr_len n).2.2.2 _ _ _ _ ha
        have k2 := h2 _ _ _ _ hb
        split at h
        · obtain ⟨c, q2, hc, h⟩ := andT_ok h
          obtain ⟨_, rfl⟩ := ok_inj h
          have k3 := h2 _ _ _ _ hc
          have k4 := tail_le q1
          omega
        · obtain ⟨_, rfl⟩ := ok_inj h
          omega
      · split at h
        · obtain ⟨a, q, ha, h⟩ := andT_ok h
          obtain ⟨b, q1, hb, h⟩ := andT_ok h
          obtain ⟨_, rfl⟩ := ok_inj h
          have k1 := (expr_len n).2.2.2 _ _ _ _ ha
          have k2 := h2 _ _ _ _ hb
          omega
        · exact plain_len h
    · rw [blockF] at h
      obtain ⟨q, hq, h⟩ := thenT_ok h
      obtain ⟨a, q1, ha, h⟩ := andT_ok h
      obtain ⟨q2, hq2, h⟩ := thenT_ok h
      obtain ⟨_, rfl⟩ := ok_inj h
      have k1 := open_len hq
      have k2 := h3 _ _ _ _ _ ha
      have k3 := take_len hq2
      omega
    · rw [stmtsF] at h
      split at h
      · obtain ⟨_, rfl⟩ := ok_inj h
        exact Nat.le_refl _
      · obtain ⟨a, q1, ha, h⟩ := andT_ok h
        have k1 := h1 _ _ _ _ ha
        have k2 := h3 _ _ _ _ _ h
        omega
theorem stmt_tot : ∀ (N : Nat) (l : List Tok), l.length ≤ N → ∀ d, (Tot fun n => blockF e n d l) ∧ (Tot fun n => stmtF e n d l) ∧ ∀ ks, Tot fun n => stmtsF e n d ks l := by
  intro N
  induction N using Nat.strongRecOn with
  | ind N ih =>
    intro l hl d
    have bl : ∀ d, Tot fun n => blockF e n d l := by
      intro d
      apply tot_up
      simp only [blockF]
      refine tot_then fun r hr => ?_
      have k0 := open_len hr
      exact tot_and (ss_up (d + 1) [] r) (fun n a l => Le.refl _) ((ih (N - 1) (by omega) r (by omega) (d + 1)).2.2 []) fun n a l _ => tot_then fun _ _ => tot_is _
    have st : Tot fun n => stmtF e n d l := by
      have kt := tail_le l
      apply tot_up
      simp only [stmtF]
      by_cases h1 : wordOf l = wIf
      · simp only [h1, if_true]
        refine tot_and (he_up l.tail) (fun n a l => andT_le (bl_up d l n) fun _ _ => ite_le (andT_le (bl_up d _ n) fun _ _ => Le.refl _) (Le.refl _)) (he_tot d l.tail) fun n a q hq => ?_
        have k1 := (expr_len n).2.2.2 _ _ _ _ hq
        refine tot_and (bl_up d q) (fun n a l => ite_le (andT_le (bl_up d _ n) fun _ _ => Le.refl _) (Le.refl _)) (ih (N - 1) (by omega) q (by omega) d).1 fun n b q2 hq2 => ?_
        have k2 := (stmt_len n).2.1 _ _ _ _ hq2
        by_cases h2 : isTok wElse q2 = true
        · simp only [h2, if_true]
          have k3 := tail_le q2
          exact tot_and (bl_up d q2.tail) (fun n a l => Le.refl _) (ih (N - 1) (by omega) q2.tail (by omega) d).1 fun n c q3 _ => tot_is _
        · simp only [h2]
          exact tot_is _
      · simp only [h1, if_false]
        by_cases h2 : wordOf l = wWhile
        · simp only [h2, if_true]
          refine tot_and (he_up l.tail) (fun n a l => andT_le (bl_up d l n) fun _ _ => Le.refl _) (he_tot d l.tail) fun n a q hq => ?_
          have k1 := (expr_len n).2.2.2 _ _ _ _ hq
          exact tot_and (bl_up d q) (fun n a l => Le.refl _) (ih (N - 1) (by omega) q (by omega) d).1 fun n b q2 hq2 => tot_is _
        · simp only [h2, if_false]
          exact plain_tot d l
    refine ⟨bl d, st, fun ks => ?_⟩
    apply tot_up
    simp only [stmtsF]
    by_cases h1 : isTok [125] l = true
    · simp only [h1, if_true]
      exact tot_is _
    · simp only [h1]
      refine tot_and (st_up d l) (fun n a l => ss_up d _ l n) st fun n a q hq => ?_
      have k1 := (stmt_len n).1 _ _ _ _ hq
      exact (ih (N - 1) (by omega) q (by omega) d).2.2 _
theorem threads_tot : ∀ (N : Nat) (l : List Tok), l.length ≤ N → ∀ ks, Tot fun n => threadsF e n ks l := by
  intro N
  induction N using Nat.strongRecOn with
  | ind N ih =>
    intro l hl ks
    apply tot_up
    simp only [threadsF]
    by_cases h : l = []
    · simp only [h, if_true]
      exact tot_is _
    · simp only [h, if_false]
      refine tot_then fun r hr => ?_
      have k0 := take_len hr
      refine tot_and (bl_up 0 r) (fun n a q => threads_le e n _ q) (stmt_tot r.length r (Nat.le_refl _) 0).1 fun n b q hq => ?_
      have k1 := (stmt_len n).2.1 _ _ _ _ hq
      exact ih (N - 1) (by omega) q (by omega) _
end
end

section
open Go.RowKit

/-- The document's parser in memory. -/
structure Ps (w : World) (P : Nat) (T : List Tok) (E : Int) (i : Nat) (d : Int) (tv lv : Value) (c a : Int) : Prop where
  box : w.heap[P]? = some (.cells #[tv, .int .i64 E, .int .i64 (i : Int), .int .i64 d, lv, .int .i64 c, .int .i64 0, .int .i64 a] 48)
  toks : OwnT w 0 tv T
  apart : tv.ownBlock ≠ some P
  le : i ≤ T.length
  few : T.length ≤ 4000

section
variable {w : World} {P : Nat} {T : List Tok} {E : Int} {i : Nat} {d : Int} {tv lv : Value} {c a : Int}
theorem Ps.c0 (h : Ps w P T E i d tv lv c a) : w.cell? ⟨P, 0, none⟩ = some tv := box_cell h.box rfl
theorem Ps.c1 (h : Ps w P T E i d tv lv c a) : w.cell? ⟨P, 1, none⟩ = some (.int .i64 E) := box_cell h.box rfl
theorem Ps.c2 (h : Ps w P T E i d tv lv c a) : w.cell? ⟨P, 2, none⟩ = some (.int .i64 (i : Int)) := box_cell h.box rfl
theorem Ps.c3 (h : Ps w P T E i d tv lv c a) : w.cell? ⟨P, 3, none⟩ = some (.int .i64 d) := box_cell h.box rfl
theorem Ps.c4 (h : Ps w P T E i d tv lv c a) : w.cell? ⟨P, 4, none⟩ = some lv := box_cell h.box rfl
theorem Ps.c5 (h : Ps w P T E i d tv lv c a) : w.cell? ⟨P, 5, none⟩ = some (.int .i64 c) := box_cell h.box rfl
end

theorem cell_far9 {w : World} {b o b' o' : Nat} {u v : Value} (h : w.cell? ⟨b, o, none⟩ = some v) (hne : b ≠ b') : (w.setCell ⟨b', o', none⟩ u).cell? ⟨b, o, none⟩ = some v := (World.cell?_of_block (Below.heap_setCell _ _ _ _ hne)).trans h
theorem getD_drop {T : List Tok} {i : Nat} (hlt : i < T.length) : T.drop i = T.getD i tok0 :: T.drop (i + 1) := by
  rw [List.drop_eq_getElem_cons hlt, List.getD_eq_getElem?_getD, List.getElem?_eq_getElem hlt]; rfl
set_option maxRecDepth 100000 in
set_option maxHeartbeats 1600000 in
theorem rat_any {w : World} {P : Nat} {T : List Tok} {E : Int} {i : Nat} {d : Int} {tv lv : Value} {c a : Int} (h : Ps w P T E i d tv lv c a) :
    Calls Tryz.prog 20 #[.pointer (some ⟨P, 0, none⟩)] w fun e w' => e = .returned (.int .i64 (posOf E (T.drop i))) ∧ Below w.heap.size w w' := by
  have hle := h.le
  have hfew := h.few
  obtain ⟨ta, tc, rfl⟩ := h.toks.form
  have c0 := h.c0
  have c1 := h.c1
  have c2 := h.c2
  by_cases hlt : i < T.length
  · obtain ⟨g, rfl, t0, t1, t2, t3⟩ := h.toks.cells hlt
    have hlt' : (i : Int) < (T.length : Int) := by omega
    rw [getD_drop hlt, posOf]
    obtain ⟨⟨k, v, p, t⟩, ht⟩ : ∃ x, T.getD i tok0 = x := ⟨_, rfl⟩
    rw [ht] at t0 t1 t2 t3 ⊢
    simp only at t0 t1 t2 t3 ⊢
    clear h ht
    go_enter Tryz.func20, Tryz.ntmps20
    go_wp2
    go_region
    go_wp2
    go_region
    go_wp2
    go_ret
    exact ⟨rfl, (Below.refl _ _).drew.drew⟩
  · have hlt' : ¬ (i : Int) < (T.length : Int) := by omega
    have hq : posOf E (T.drop i) = E := by
      rw [List.drop_eq_nil_of_le (by omega)]; rfl
    rw [hq]
    go_enter Tryz.func20, Tryz.ntmps20
    go_wp2
    go_region
    go_wp2
    go_ret
    exact ⟨rfl, (Below.refl _ _).drew⟩

set_option maxRecDepth 100000 in
set_option maxHeartbeats 1600000 in
theorem ris_any {w : World} {P : Nat} {T : List Tok} {E : Int} {i : Nat} {d : Int} {tv lv : Value} {c a : Int} (h : Ps w P T E i d tv lv c a) (S : ByteArray) :
    Calls Tryz.prog 18 #[.pointer (some ⟨P, 0, none⟩), .string S] w fun e w' => e = .returned (.bool (isTok S.data.toList (T.drop i))) ∧ Below w.heap.size w w' := by
  have hle := h.le
  have hfew := h.few
  obtain ⟨ta, tc, rfl⟩ := h.toks.form
  have c0 := h.c0
  have c2 := h.c2
  by_cases hlt : i < T.length
  · obtain ⟨g, rfl, t0, t1, t2, t3⟩ := h.toks.cells hlt
    have hlt' : (i : Int) < (T.length : Int) := by omega
    rw [getD_drop hlt, isTok]
    obtain ⟨⟨k, v, p, t⟩, ht⟩ : ∃ x, T.getD i tok0 = x := ⟨_, rfl⟩
    rw [ht] at t0 t1 t2 t3 ⊢
    simp only at t0 t1 t2 t3 ⊢
    have hP : P < w.heap.size := lt_of_cell c0
    have hg : g < w.heap.size := lt_of_cell t0
    clear h ht
    have hst : (t == S.toList) = decide (t = S.data.toList) := by
      rw [Lib.toList_data]
      by_cases ht : t = S.data.toList <;> simp [ht]
    by_cases hk2 : k = 2
    · have e2 : (k == 2) = true := by simpa using hk2
      rw [decide_eq_true hk2, ← hst]
      clear hk2 hst
      go_enter Tryz.func18, Tryz.ntmps18
      go_wp2
      go_region
      go_wp2
      go_region
      go_wp2
      go_ret
      exact ⟨ret_bool (by simp), (((Below.refl _ _).alloc (Nat.le_refl _) _).drew).drew⟩
    · have e2 : (k == 2) = false := by simpa using hk2
      rw [decide_eq_false hk2, ← hst]
      by_cases hk4 : k = 4
      · have e4 : (k == 4) = true := by simpa using hk4
        rw [decide_eq_true hk4]
        clear hk2 hst hk4
        go_enter Tryz.func18, Tryz.ntmps18
        go_wp2
        go_region
        go_wp2
        go_region
        go_wp2
        go_ret
        exact ⟨ret_bool (by simp), (((Below.refl _ _).alloc (Nat.le_refl _) _).drew).drew⟩
      · have e4 : (k == 4) = false := by simpa using hk4
        rw [decide_eq_false hk4]
        clear hk2 hst hk4
        go_enter Tryz.func18, Tryz.ntmps18
        go_wp2
        go_region
        go_wp2
        go_region
        go_wp2
        go_ret
        exact ⟨ret_bool (by simp), (((Below.refl _ _).alloc (Nat.le_refl _) _).drew).drew⟩
  · have hlt' : ¬ (i : Int) < (T.length : Int) := by omega
    have hq : isTok S.data.toList (T.drop i) = false := by
      rw [List.drop_eq_nil_of_le (by omega)]; rfl
    rw [hq]
    go_enter Tryz.func18, Tryz.ntmps18
    go_wp2
    go_region
    go_wp2
    go_ret
    exact ⟨rfl, (Below.refl _ _).drew⟩
end

end Go.Proofs.YtclnjhffcfkihaeGreatDoor
