/-
  A thread alone does not see that its stores wait: runs of one thread with stores that wait and without, as plain functions.
-/
import Derived.Test.YtipdnfpomdcenabRDoW
namespace Go.Proofs.Ytipdnfpomdcenab
open Go.RowKit

/-- What waits is done, as far as words go; as far as locks go. -/
def flushW (wt : List Wt) (ws : List Int) : List Int := wt.foldl (fun l x => if x.lk then l else l.set x.wh.toNat x.what) ws
def flushO (wt : List Wt) (ow : List Int) : List Int := wt.foldl (fun l x => if x.lk then l.set x.wh.toNat (-1) else l) ow
theorem flushW_snoc (wt : List Wt) (x : Wt) (ws : List Int) : flushW (wt ++ [x]) ws = if x.lk then flushW wt ws else (flushW wt ws).set x.wh.toNat x.what := by
  unfold flushW; rw [List.foldl_append]; rfl
theorem flushO_snoc (wt : List Wt) (x : Wt) (ws : List Int) : flushO (wt ++ [x]) ws = if x.lk then (flushO wt ws).set x.wh.toNat (-1) else flushO wt ws := by
  unfold flushO; rw [List.foldl_append]; rfl
theorem flushW_len (wt : List Wt) : ∀ ws : List Int, (flushW wt ws).length = ws.length := by
  induction wt with
  | nil => intro ws; rfl
  | cons x r ih => intro ws; show (flushW r (if x.lk then ws else ws.set x.wh.toNat x.what)).length = _; rw [ih]; split <;> simp
theorem flushO_len (wt : List Wt) : ∀ ws : List Int, (flushO wt ws).length = ws.length := by
  induction wt with
  | nil => intro ws; rfl
  | cons x r ih => intro ws; show (flushO r (if x.lk then ws.set x.wh.toNat (-1) else ws)).length = _; rw [ih]; split <;> simp
theorem snoc_ind {P : List Wt → Prop} (h0 : P []) (h1 : ∀ l x, P l → P (l ++ [x])) (l : List Wt) : P l := by
  have : ∀ r : List Wt, P r.reverse := fun r => by
    induction r with
    | nil => exact h0
    | cons x r ih => rw [List.reverse_cons]; exact h1 _ _ ih
  have h := this l.reverse
  rwa [List.reverse_reverse] at h
/-- A thread finds in a word what is there once all that waits is done. -/
theorem flush_find (ws : List Int) (wd : Int) (h0 : 0 ≤ wd) (h1 : wd < ws.length) (wt : List Wt) : (∀ x ∈ wt, 0 ≤ x.wh) →
    (match wt.reverse.find? fun x => !x.lk && decide (x.wh = wd) with
    | some x => x.what
    | none => ws.getD wd.toNat 0) = (flushW wt ws).getD wd.toNat 0 := by
  refine snoc_ind (P := fun wt => (∀ x ∈ wt, 0 ≤ x.wh) → (match wt.reverse.find? fun x => !x.lk && decide (x.wh = wd) with
    | some x => x.what
    | none => ws.getD wd.toNat 0) = (flushW wt ws).getD wd.toNat 0) (fun _ => rfl) (fun l x ih hx => ?_) wt
  have hxx : 0 ≤ x.wh := hx x (by simp)
  have hl : wd.toNat < (flushW l ws).length := by rw [flushW_len]; omega
  rw [flushW_snoc, List.reverse_append]
  show (match (x :: l.reverse).find? _ with | some x => x.what | none => ws.getD wd.toNat 0) = _
  rw [List.find?_cons]
  cases hk : x.lk with
  | true => simpa using ih (fun y hy => hx y (by simp [hy]))
  | false =>
    by_cases he : x.wh = wd
    · simp [he, hl]
    · have hn : ¬ x.wh.toNat = wd.toNat := by omega
      have := ih (fun y hy => hx y (by simp [hy]))
      simpa [he, List.getD_eq_getElem?_getD, List.getElem?_set_ne hn] using this
theorem flush_own (ow : List Int) (a : Int) (h0 : 0 ≤ a) (h1 : a < ow.length) (wt : List Wt) : (∀ x ∈ wt, 0 ≤ x.wh) →
    (flushO wt ow).getD a.toNat 0 = if (wt.any fun x => x.lk && decide (x.wh = a)) = true then -1 else ow.getD a.toNat 0 := by
  refine snoc_ind (P := fun wt => (∀ x ∈ wt, 0 ≤ x.wh) → (flushO wt ow).getD a.toNat 0 = if (wt.any fun x => x.lk && decide (x.wh = a)) = true then -1 else ow.getD a.toNat 0) (fun _ => rfl) (fun l x ih hx => ?_) wt
  have hxx : 0 ≤ x.wh := hx x (by simp)
  have hl : a.toNat < (flushO l ow).length := by rw [flushO_len]; omega
  have ih' := ih (fun y hy => hx y (by simp [hy]))
  rw [flushO_snoc, List.any_append]
  cases hk : x.lk with
  | false => simpa [hk] using ih'
  | true =>
    by_cases he : x.wh = a
    · simp [he, hk, hl]
    · have hn : ¬ x.wh.toNat = a.toNat := by omega
      simpa [he, hk, List.getD_eq_getElem?_getD, List.getElem?_set_ne hn] using ih'

/-- One thread: its state with stores that wait, and the one without. -/
def lone (pc : Nat) (rs : List Int) (wt : List Wt) (ws ow pr : List Int) : Sx := ⟨[⟨pc, rs, wt⟩], ws, ow, pr, false⟩
structure Al (s1 s0 : Sx) : Prop where
  is : ∃ pc rs wt ws ow pr, s1 = lone pc rs wt ws ow pr ∧ s0 = lone pc rs [] (flushW wt ws) (flushO wt ow) pr
theorem al_mk (pc : Nat) (rs : List Int) (wt : List Wt) (ws ow pr : List Int) : Al (lone pc rs wt ws ow pr) (lone pc rs [] (flushW wt ws) (flushO wt ow) pr) := ⟨pc, rs, wt, ws, ow, pr, rfl, rfl⟩
def AlR (r1 r0 : Sx) : Prop := r1.fell = r0.fell ∧ r1.prints = r0.prints ∧ (r1.fell = false → Al r1 r0)
theorem AlR.of {r1 r0 : Sx} (h : Al r1 r0) : AlR r1 r0 := by
  obtain ⟨pc, rs, wt, ws, ow, pr, rfl, rfl⟩ := h.is
  exact ⟨rfl, rfl, fun _ => h⟩
theorem alone_find (pc : Nat) (rs : List Int) (wt : List Wt) (ws ow pr : List Int) (b : Int) (h : ∀ x ∈ wt, 0 ≤ x.wh) (hb : 0 ≤ b ∧ b < ws.length) : findsW (lone pc rs [] (flushW wt ws) (flushO wt ow) pr) 0 b = findsW (lone pc rs wt ws ow pr) 0 b := (flush_find ws b hb.1 hb.2 wt h).symm
theorem alone_store (pc : Nat) (rs : List Int) (wt : List Wt) (ws ow pr : List Int) (x : Wt) : Al (storeW 1 (lone pc rs wt ws ow pr) 0 x) (storeW 0 (lone pc rs [] (flushW wt ws) (flushO wt ow) pr) 0 x) := by
  have h := al_mk pc rs (wt ++ [x]) ws ow pr
  rw [flushW_snoc, flushO_snoc] at h
  have e1 : storeW 1 (lone pc rs wt ws ow pr) 0 x = lone pc rs (wt ++ [x]) ws ow pr := rfl
  rw [e1]
  show Al _ (doneW _ x)
  unfold doneW
  cases hk : x.lk with
  | true => rw [hk] at h; exact h
  | false => rw [hk] at h; exact h
theorem alone_order (pc : Nat) (rs : List Int) (wt : List Wt) (ws ow pr : List Int) (op a b c : Int) (h : ∀ x ∈ wt, 0 ≤ x.wh) (h8 : op = 8 → 0 ≤ b ∧ b < ws.length) (h18 : op = 18 → 0 ≤ a ∧ a < ow.length) (h13 : op = 13 ∨ op = 17 → wt = []) :
    AlR (orderX 1 (lone pc rs wt ws ow pr) 0 op a b c) (orderX 0 (lone pc rs [] (flushW wt ws) (flushO wt ow) pr) 0 op a b c) := by
  have hset : ∀ r v, Al (setR (lone pc rs wt ws ow pr) 0 r v) (setR (lone pc rs [] (flushW wt ws) (flushO wt ow) pr) 0 r v) := fun r v => al_mk pc (rs.set r.toNat v) wt ws ow pr
  have hget : ∀ r, getR (lone pc rs [] (flushW wt ws) (flushO wt ow) pr) 0 r = getR (lone pc rs wt ws ow pr) 0 r := fun r => rfl
  have hlen : (lone pc rs [] (flushW wt ws) (flushO wt ow) pr).words.length = (lone pc rs wt ws ow pr).words.length := flushW_len _ _
  have hfall : AlR (fallX (lone pc rs wt ws ow pr)) (fallX (lone pc rs [] (flushW wt ws) (flushO wt ow) pr)) := ⟨rfl, rfl, fun e => by cases e⟩
  unfold orderX
  by_cases e : op = 1
  · rw [if_pos e, if_pos e]
    exact .of (hset _ _)
  rw [if_neg e, if_neg e]
  clear e
  by_cases e : op = 2
  · rw [if_pos e, if_pos e]
    exact .of (hset _ _)
  rw [if_neg e, if_neg e]
  clear e
  by_cases e : op = 3
  · rw [if_pos e, if_pos e]
    exact .of (hset _ _)
  rw [if_neg e, if_neg e]
  clear e
  by_cases e : op = 4
  · rw [if_pos e, if_pos e]
    exact .of (hset _ _)
  rw [if_neg e, if_neg e]
  clear e
  by_cases e : op = 5
  · rw [if_pos e, if_pos e]
    exact .of (hset _ _)
  rw [if_neg e, if_neg e]
  clear e
  by_cases e : op = 6
  · rw [if_pos e, if_pos e]
    exact .of (hset _ _)
  rw [if_neg e, if_neg e]
  clear e
  by_cases e : op = 7
  · rw [if_pos e, if_pos e]
    exact .of (hset _ _)
  rw [if_neg e, if_neg e]
  clear e
  by_cases e : op = 8
  · rw [if_pos e, if_pos e]
    rw [alone_find _ _ _ _ _ _ _ h (h8 e)]
    exact .of (hset _ _)
  rw [if_neg e, if_neg e]
  clear e
  by_cases e : op = 9
  · rw [if_pos e, if_pos e]
    exact .of (alone_store _ _ _ _ _ _ _)
  rw [if_neg e, if_neg e]
  clear e
  by_cases e : op = 10
  · rw [if_pos e, if_pos e]
    rw [hlen, hget]
    split
    · exact hfall
    · rename_i hr
      rw [alone_find _ _ _ _ _ _ _ h ⟨by omega, by have : ((lone pc rs wt ws ow pr).words.length : Int) = ws.length := rfl; omega⟩]
      exact .of (hset _ _)
  rw [if_neg e, if_neg e]
  clear e
  by_cases e : op = 11
  · rw [if_pos e, if_pos e]
    rw [hlen, hget, hget]
    split
    · exact hfall
    · exact .of (alone_store _ _ _ _ _ _ _)
  rw [if_neg e, if_neg e]
  clear e
  by_cases e : op = 13
  · rw [if_pos e, if_pos e]
    obtain rfl := h13 (Or.inl e)
    by_cases hq : ws.getD a.toNat 0 = getR (lone pc rs [] ws ow pr) 0 b
    · rw [if_pos (show (lone pc rs [] ws ow pr).words.getD a.toNat 0 = _ from hq), if_pos (show (lone pc rs [] (flushW [] ws) (flushO [] ow) pr).words.getD a.toNat 0 = getR (lone pc rs [] (flushW [] ws) (flushO [] ow) pr) 0 b from hq)]
      exact .of (al_mk pc (rs.set b.toNat 1) [] (ws.set a.toNat _) ow pr)
    · rw [if_neg (show ¬ (lone pc rs [] ws ow pr).words.getD a.toNat 0 = _ from hq), if_neg (show ¬ (lone pc rs [] (flushW [] ws) (flushO [] ow) pr).words.getD a.toNat 0 = getR (lone pc rs [] (flushW [] ws) (flushO [] ow) pr) 0 b from hq)]
      exact .of (hset _ _)
  rw [if_neg e, if_neg e]
  clear e
  by_cases e : op = 14
  · rw [if_pos e, if_pos e]
    exact .of (al_mk a.toNat rs wt ws ow pr)
  rw [if_neg e, if_neg e]
  clear e
  by_cases e : op = 15
  · rw [if_pos e, if_pos e]
    rw [hget]
    split
    · exact .of (al_mk b.toNat rs wt ws ow pr)
    · exact .of (al_mk pc rs wt ws ow pr)
  rw [if_neg e, if_neg e]
  clear e
  by_cases e : op = 16
  · rw [if_pos e, if_pos e]
    exact .of (al_mk pc rs wt ws ow (pr ++ _))
  rw [if_neg e, if_neg e]
  clear e
  by_cases e : op = 17
  · rw [if_pos e, if_pos e]
    obtain rfl := h13 (Or.inr e)
    exact .of (al_mk pc rs [] ws (ow.set a.toNat _) pr)
  rw [if_neg e, if_neg e]
  clear e
  by_cases e : op = 18
  · rw [if_pos e, if_pos e]
    have h1 := h18 e
    have ho := flush_own ow a h1.1 h1.2 wt h
    have e1 : (lone pc rs [] (flushW wt ws) (flushO wt ow) pr).own.getD a.toNat 0 = if (wt.any fun x => x.lk && decide (x.wh = a)) = true then -1 else ow.getD a.toNat 0 := ho
    have e2 : (lone pc rs wt ws ow pr).own = ow := rfl
    have e3 : (thOf (lone pc rs wt ws ow pr) 0).wait = wt := rfl
    have e4 : (thOf (lone pc rs [] (flushW wt ws) (flushO wt ow) pr) 0).wait = [] := rfl
    rw [e1, e2, e3, e4]
    cases hany : (wt.any fun x => x.lk && decide (x.wh = a)) with
    | true => simpa using hfall
    | false =>
      by_cases ht : ow.getD a.toNat 0 = 0
      · have hno : ¬ (ow.getD a.toNat 0 ≠ ((0 : Nat) : Int) ∨ false = true) := fun g => g.elim (fun g => g ht) (fun g => by cases g)
        rw [if_neg hno, if_neg (by rw [if_neg (by simp)]; exact hno)]
        exact .of (alone_store _ _ _ _ _ _ _)
      · have hyes : ow.getD a.toNat 0 ≠ ((0 : Nat) : Int) ∨ false = true := Or.inl ht
        rw [if_pos hyes, if_pos (Or.inl (by rw [if_neg (by simp)]; exact ht))]
        exact hfall
  rw [if_neg e, if_neg e]
  clear e
  exact .of (al_mk pc rs wt ws ow pr)

section
variable {L : Nat → Nat} {X : Nat → Nat → Nat → Int}
theorem lone_ended (pc : Nat) (rs : List Int) (wt : List Wt) (ws ow pr : List Int) : endedX L (lone pc rs wt ws ow pr) = (decide (L 0 ≤ pc) && wt.isEmpty) := by
  unfold endedX
  show ([0] : List Nat).all _ = _
  simp [endedT, thOf, lone]
theorem lone_moves (mode : Int) (pc : Nat) (rs : List Int) (wt : List Wt) (ws ow pr : List Int) : movesX L X mode (lone pc rs wt ws ow pr) = movesT L X mode (lone pc rs wt ws ow pr) 0 := by
  unfold movesX
  show ([0] : List Nat).flatMap _ = _
  simp
/-- What is able with stores that wait is able without. -/
theorem lone_able {pc : Nat} {rs : List Int} {wt : List Wt} {ws ow pr : List Int} (h : ableT L X (lone pc rs wt ws ow pr) 0 = true) : ableT L X (lone pc rs [] (flushW wt ws) (flushO wt ow) pr) 0 = true := by
  have e1 : endedT L (lone pc rs [] (flushW wt ws) (flushO wt ow) pr) 0 = endedT L (lone pc rs wt ws ow pr) 0 := rfl
  have e2 : ∀ q, opT X (lone pc rs [] (flushW wt ws) (flushO wt ow) pr) 0 q = opT X (lone pc rs wt ws ow pr) 0 q := fun _ => rfl
  have e3 : (thOf (lone pc rs wt ws ow pr) 0).wait.length = wt.length := rfl
  have e4 : (thOf (lone pc rs [] (flushW wt ws) (flushO wt ow) pr) 0).wait.length = 0 := rfl
  unfold ableT at h ⊢
  simp only [e1, e2, e3, e4] at h ⊢
  split at h
  · cases h
  · rename_i he
    rw [if_neg he]
    split at h
    · rw [if_pos (by assumption)]; rfl
    · rename_i h1
      rw [if_neg h1]
      split at h
      · rw [if_pos (by assumption)]; rfl
      · rename_i h2
        rw [if_neg h2]
        split at h
        · rw [if_pos (by assumption)]
          have hw : wt = [] := by
            rw [Bool.and_eq_true] at h
            exact List.eq_nil_of_length_eq_zero (of_decide_eq_true h.1)
          subst hw
          exact h
        · rw [if_neg (by assumption)]
theorem lone_able_nil {pc : Nat} {rs : List Int} {ws ow pr : List Int} : ableT L X (lone pc rs [] (flushW [] ws) (flushO [] ow) pr) 0 = ableT L X (lone pc rs [] ws ow pr) 0 := rfl
theorem lone_moves0 {pc : Nat} {rs : List Int} {ws ow pr : List Int} : movesX L X 0 (lone pc rs [] ws ow pr) = if ableT L X (lone pc rs [] ws ow pr) 0 then [0] else [] := by
  rw [lone_moves]
  unfold movesT
  show _ ++ List.map _ (List.filter _ (List.range 0)) = _
  simp
theorem lone_step (mode : Int) (pc : Nat) (rs : List Int) (wt : List Wt) (ws ow pr : List Int) : doX X mode (lone pc rs wt ws ow pr) (8 * 0) = orderX mode (lone (pc + 1) rs wt ws ow pr) 0 (X 0 pc 0) (X 0 pc 1) (X 0 pc 2) (X 0 pc 3) := rfl
/-- How two runs of one thread end alike: with stores that wait, and without. -/
def AlEnd (r1 r0 : Sx × Int × Nat) : Prop := r1.2.1 = 3 ∨ r0.2.1 = 3 ∨ (r1.2.1 = r0.2.1 ∧ r1.1.prints = r0.1.prints ∧ (r1.1.words = r0.1.words ∨ r1.2.1 = 1))
theorem lone_stuck {pc : Nat} {rs : List Int} {wt : List Wt} {ws ow pr : List Int} (h : movesX L X 1 (lone pc rs wt ws ow pr) = []) : wt = [] ∧ ableT L X (lone pc rs wt ws ow pr) 0 = false := by
  rw [lone_moves] at h
  unfold movesT at h
  rw [List.append_eq_nil_iff] at h
  refine ⟨?_, ?_⟩
  · cases wt with
    | nil => rfl
    | cons x r =>
      exfalso
      have h2 := List.map_eq_nil_iff.mp h.2
      have h3 : 0 ∈ (List.range (thOf (lone pc rs (x :: r) ws ow pr) 0).wait.length).filter fun k => mayW 1 (thOf (lone pc rs (x :: r) ws ow pr) 0).wait k := List.mem_filter.mpr ⟨List.mem_range.mpr (by show 0 < (x :: r).length; simp), rfl⟩
      rw [h2] at h3
      cases h3
  · cases ha : ableT L X (lone pc rs wt ws ow pr) 0 with
    | false => rfl
    | true => rw [ha] at h; cases h.1
theorem lone_wait {pc : Nat} {rs : List Int} {x : Wt} {r : List Wt} {ws ow pr : List Int} : Al (doX X 1 (lone pc rs (x :: r) ws ow pr) (8 * 0 + 0 + 1)) (lone pc rs [] (flushW (x :: r) ws) (flushO (x :: r) ow) pr) := by
  have e := doX_wait (X := X) (mode := 1) (s := lone pc rs (x :: r) ws ow pr) (t := 0) (k := 0) (by omega)
  rw [e]
  show Al (setTh (doneW _ x) 0 _) _
  unfold doneW flushW flushO
  simp only [List.foldl_cons]
  cases hk : x.lk with
  | true => exact al_mk pc rs r ws (ow.set x.wh.toNat (-1)) pr
  | false => exact al_mk pc rs r (ws.set x.wh.toNat x.what) ow pr
theorem Al.fell {s1 s0 : Sx} (h : Al s1 s0) : s1.fell = false := by
  obtain ⟨pc, rs, wt, ws, ow, pr, rfl, rfl⟩ := h.is
  rfl
/-- A thread alone does not see that its stores wait. -/
theorem alone_run {m lk rg : Nat} (hc : COk 1 L X m lk rg) : ∀ (f1 : Nat) (s1 : Sx) (k1 : Nat) (sc1 : List Int) (f0 : Nat) (s0 : Sx) (k0 : Nat) (sc0 : List Int), Al s1 s0 → SOk 1 L m lk rg 1 s1 → AlEnd (runX L X 1 f1 s1 k1 sc1) (runX L X 0 f0 s0 k0 sc0)
  | f1, s1, k1, sc1, f0, s0, k0, sc0, ha, hs => by
    by_cases he : endedX L s1 = true
    · obtain ⟨pc, rs, wt, ws, ow, pr, rfl, rfl⟩ := ha.is
      have he' := he
      rw [lone_ended, Bool.and_eq_true] at he
      obtain rfl : wt = [] := List.isEmpty_iff.mp he.2
      rw [run_ended he', run_ended (s := lone pc rs [] (flushW [] ws) (flushO [] ow) pr) he']
      exact Or.inr (Or.inr ⟨rfl, rfl, Or.inl rfl⟩)
    · have he : endedX L s1 = false := by simpa using he
      by_cases hm : movesX L X 1 s1 = []
      · obtain ⟨pc, rs, wt, ws, ow, pr, rfl, rfl⟩ := ha.is
        obtain ⟨rfl, hab⟩ := lone_stuck hm
        rw [run_stuck he hm, run_stuck (s := lone pc rs [] (flushW [] ws) (flushO [] ow) pr) he (by rw [lone_moves0, lone_able_nil, hab]; rfl)]
        exact Or.inr (Or.inr ⟨rfl, rfl, Or.inl rfl⟩)
      · cases f1 with
        | zero => rw [run_out he hm]; exact Or.inl rfl
        | succ f =>
          have hl : 0 < (movesX L X 1 s1).length := List.length_pos_iff.mpr hm
          have hlt := pick_lt (movesX L X 1 s1).length sc1 hl
          have eg : (movesX L X 1 s1).getD (pickX (movesX L X 1 s1).length sc1).1 0 = (movesX L X 1 s1)[(pickX (movesX L X 1 s1).length sc1).1] := by
            rw [List.getD_eq_getElem?_getD, List.getElem?_eq_getElem hlt]; rfl
          rw [run_step he hm, eg]
          have hmem := List.getElem_mem hlt
          have h1 := hs.ths
          obtain ⟨mv, hmv⟩ : ∃ mv, (movesX L X 1 s1)[(pickX (movesX L X 1 s1).length sc1).1] = mv := ⟨_, rfl⟩
          rw [hmv] at hmem ⊢
          rcases movesX_mem hmem with ⟨t, ht, rfl, hab⟩ | ⟨t, k, ht, hk, rfl, hmay⟩
          · obtain rfl : t = 0 := by omega
            have e3 : (8 * ((0 : Nat) : Int)).toNat = 8 * 0 := rfl
            rw [e3]
            have hs' := hs.step hc (by decide) (by omega) hab
            obtain ⟨pc, rs, wt, ws, ow, pr, rfl, rfl⟩ := ha.is
            have hab0 := lone_able hab
            have hnd : pc < L 0 := able_lt hab
            have he0 : endedX L (lone pc rs [] (flushW wt ws) (flushO wt ow) pr) = false := by
              rw [lone_ended, decide_eq_false (by omega)]; rfl
            have hm0 : movesX L X 0 (lone pc rs [] (flushW wt ws) (flushO wt ow) pr) = [0] := by rw [lone_moves0, hab0]; rfl
            have hord := hc.ord 0 pc (by omega) (by omega)
            have hR : AlR (doX X 1 (lone pc rs wt ws ow pr) (8 * 0)) (doX X 0 (lone pc rs [] (flushW wt ws) (flushO wt ow) pr) (8 * 0)) := by
              rw [lone_step, lone_step]
              refine alone_order _ _ _ _ _ _ _ _ _ _ (fun x hx => (hs.wok 0 (by omega) x hx).1.1) (fun h8 => ?_) (fun h18 => ?_) (fun h13 => ?_)
              · rw [h8] at hord
                have := (ok_load hord).2
                have hw : ws.length = m := hs.words
                omega
              · have := ok_lock (Or.inr h18) hord
                have hw : ow.length = lk := hs.own
                omega
              · unfold ableT at hab
                rw [if_neg (by unfold endedT; rw [decide_eq_false (show ¬ L 0 ≤ (thOf (lone pc rs wt ws ow pr) 0).pc from fun h => absurd (show L 0 ≤ pc from h) (by omega))]; simp)] at hab
                have e : opT X (lone pc rs wt ws ow pr) 0 0 = X 0 pc 0 := rfl
                simp only [e] at hab
                rcases h13 with h13 | h13
                · rw [if_neg (by omega), if_pos (by omega)] at hab
                  exact List.eq_nil_of_length_eq_zero (of_decide_eq_true hab)
                · rw [if_neg (by omega), if_neg (by omega), if_pos h13, Bool.and_eq_true] at hab
                  exact List.eq_nil_of_length_eq_zero (of_decide_eq_true hab.1)
            cases f0 with
            | zero => rw [run_out he0 (by rw [hm0]; simp)]; exact Or.inr (Or.inl rfl)
            | succ f0 =>
              rw [run_step he0 (by rw [hm0]; simp), hm0]
              have e4 : (([0] : List Int).getD (pickX ([0] : List Int).length sc0).1 0).toNat = 8 * 0 := rfl
              rw [e4]
              obtain ⟨r1, r2, r3⟩ := hR
              cases hf : (doX X 1 (lone pc rs wt ws ow pr) (8 * 0)).fell with
              | true =>
                rw [← r1, hf]
                exact Or.inr (Or.inr ⟨rfl, r2, Or.inr rfl⟩)
              | false =>
                rw [← r1, hf]
                exact alone_run hc f _ _ _ f0 _ _ _ (r3 hf) hs'
          · obtain rfl : t = 0 := by omega
            have hk0 : k = 0 := by
              unfold mayW at hmay
              rcases Nat.eq_zero_or_pos k with h | h
              · exact h
              · rw [if_neg (by omega), if_pos (Or.inl rfl)] at hmay
                cases hmay
            subst hk0
            have e3 : (8 * ((0 : Nat) : Int) + ((0 : Nat) : Int) + 1).toNat = 8 * 0 + 0 + 1 := rfl
            rw [e3]
            have hs' := hs.wait (X := X) (by omega) hk
            have ha' : Al (doX X 1 s1 (8 * 0 + 0 + 1)) s0 := by
              obtain ⟨pc, rs, wt, ws, ow, pr, rfl, rfl⟩ := ha.is
              cases wt with
              | nil => cases hk
              | cons x r => exact lone_wait
            rw [ha'.fell]
            exact alone_run hc f _ _ _ f0 s0 k0 sc0 ha' hs'
theorem alone_begin {words : List Int} {lk rg : Nat} : Al (beginX 1 words lk rg) (beginX 1 words lk rg) := al_mk 0 (List.replicate ((rg : Int)).toNat 0) [] words (List.replicate ((lk : Int)).toNat (-1)) []
end

end Go.Proofs.Ytipdnfpomdcenab
