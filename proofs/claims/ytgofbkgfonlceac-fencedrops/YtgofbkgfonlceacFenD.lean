/-
  FENCES ahead of which nothing waits are none: the outcomes are the same without them. Plain functions.
-/
import Derived.Test.YtgofbkgfonlceacEffP
namespace Go.Proofs.Ytgofbkgfonlceac
open Go.RowKit

/-- Where a thread can go on behind an order. -/
def nextO (op a b : Int) (i : Nat) : List Nat := if op = 14 then [a.toNat] else if op = 15 then [i + 1, b.toNat] else [i + 1]
/-- An order that is done only while nothing waits. -/
def awO (op : Int) : Bool := decide (op = 12) || decide (op = 13) || decide (op = 17)
/-- Orders to which there is a way (W), those ahead of which something may wait (M). -/
structure WayR (n : Nat) (L : Nat → Nat) (X : Nat → Nat → Nat → Int) (W M : Nat → Nat → Prop) : Prop where
  z : ∀ t, t < n → W t 0
  w : ∀ t i j, t < n → i < L t → W t i → j ∈ nextO (X t i 0) (X t i 1) (X t i 2) i → W t j
  m : ∀ t i j, t < n → i < L t → W t i → j ∈ nextO (X t i 0) (X t i 1) (X t i 2) i → (wtO (X t i 0) = true ∨ (M t i ∧ awO (X t i 0) = false)) → M t j
/-- One program is the other without some fences, ahead of which nothing waits. -/
structure DropR (n : Nat) (L : Nat → Nat) (X : Nat → Nat → Nat → Int) (L' : Nat → Nat) (X' : Nat → Nat → Nat → Int) (pl : Nat → Nat → Nat) (D : Nat → Nat → Bool) (M : Nat → Nat → Prop) : Prop where
  z : ∀ t, t < n → pl t 0 = 0
  e : ∀ t, t < n → pl t (L t) = L' t
  lt : ∀ t i, t < n → i < L t → D t i = false → pl t i < L' t
  mv : ∀ t i, t < n → i < L t → D t i = false → MovO (pl t) (X t i 0) (X t i 1) (X t i 2) (X t i 3) (X' t (pl t i) 0) (X' t (pl t i) 1) (X' t (pl t i) 2) (X' t (pl t i) 3)
  nx : ∀ t i, t < n → i < L t → D t i = false → pl t (i + 1) = pl t i + 1
  dr : ∀ t i, t < n → i < L t → D t i = true → pl t (i + 1) = pl t i ∧ X t i 0 = 12 ∧ ¬ M t i
/-- What holds of a thread in each run. -/
def WaitI (n : Nat) (W M : Nat → Nat → Prop) (s : Sx) : Prop := ∀ t, t < n → W t (thOf s t).pc ∧ ((thOf s t).wait ≠ [] → M t (thOf s t).pc)
section
variable {n m lk rg : Nat} {L L' : Nat → Nat} {X X' : Nat → Nat → Nat → Int} {pl : Nat → Nat → Nat} {mode : Int} {D : Nat → Nat → Bool} {W M : Nat → Nat → Prop}
theorem eff_next {pc : Nat} {rs : List Int} {rd : Int → Int} {fr : Int → Bool} {m : Nat} {op a b c : Int} {p : Nat} {r : List Int} {k : Ak} (h : effX (pc + 1) rs rd fr m op a b c = some (p, r, k)) : p ∈ nextO op a b pc := by
  unfold effX at h
  unfold nextO
  rcases op_cases op with h1 | rfl | rfl | rfl | rfl | rfl | rfl | rfl | rfl | rfl | rfl | rfl | rfl | rfl | rfl | rfl | rfl | rfl | rfl
  · rw [if_neg (by omega), if_neg (by omega)]
    simp only [show op ≠ 1 by omega, show op ≠ 2 by omega, show op ≠ 3 by omega, show op ≠ 4 by omega, show op ≠ 5 by omega, show op ≠ 6 by omega, show op ≠ 7 by omega, show op ≠ 8 by omega, show op ≠ 9 by omega, show op ≠ 10 by omega, show op ≠ 11 by omega, show op ≠ 13 by omega, show op ≠ 14 by omega, show op ≠ 15 by omega, show op ≠ 16 by omega, show op ≠ 17 by omega, show op ≠ 18 by omega, ↓reduceIte, Option.some.injEq, Prod.mk.injEq] at h
    simp [← h.1]
  all_goals simp only [Int.reduceEq, ↓reduceIte] at h ⊢
  all_goals first
    | (simp only [Option.some.injEq, Prod.mk.injEq] at h; simp [← h.1])
    | (split at h <;> first
        | (simp only [Option.some.injEq, Prod.mk.injEq] at h; simp [← h.1])
        | cases h)
theorem wait_act (s : Sx) (t u : Nat) (k : Ak) (hu : u ≠ t) (ht : t < s.ths.length) : thOf (actX mode s t k) u = thOf s u := by
  cases k with
  | put a v =>
    show thOf (storeW mode s t _) u = _
    unfold storeW
    split
    · rw [thOf_set ht, if_neg hu]
    · unfold doneW; split <;> rfl
  | free a =>
    show thOf (storeW mode s t _) u = _
    unfold storeW
    split
    · rw [thOf_set ht, if_neg hu]
    · unfold doneW; split <;> rfl
  | no => rfl
  | take a => rfl
  | swap a v => rfl
  | say v => rfl
theorem pc_act (s : Sx) (t : Nat) (k : Ak) (ht : t < s.ths.length) : (thOf (actX mode s t k) t).pc = (thOf s t).pc := by
  cases k with
  | put a v =>
    show (thOf (storeW mode s t _) t).pc = _
    unfold storeW
    split
    · rw [thOf_set ht, if_pos rfl]
    · unfold doneW; split <;> rfl
  | free a =>
    show (thOf (storeW mode s t _) t).pc = _
    unfold storeW
    split
    · rw [thOf_set ht, if_pos rfl]
    · unfold doneW; split <;> rfl
  | no => rfl
  | take a => rfl
  | swap a v => rfl
  | say v => rfl
theorem WaitI.step (hW : WayR n L X W M) {s r : Sx} (hs : SOk n L m lk rg mode s) (hf : s.fell = false) (h : WaitI n W M s) (hn : r ∈ nxX L X mode s) : WaitI n W M r := by
  rcases nx_cases hf (fun t ht => hs.wlen t (by rw [← hs.ths]; exact ht)) hn with ⟨t, p, rs, k, ht, ha, he, rfl⟩ | ⟨t, k, ht, hk, _, rfl⟩
  · have htn : t < n := by rw [← hs.ths]; exact ht
    have ht2 : t < (setTh s t ⟨p, rs, (thOf s t).wait⟩).ths.length := by simpa [setTh] using ht
    intro u hu
    by_cases eu : u = t
    · subst eu
      have hp : (thOf (actX mode (setTh s u ⟨p, rs, (thOf s u).wait⟩) u k) u).pc = p := by rw [pc_act _ _ _ ht2, th_set ht]
      rw [hp]
      have hl := able_lt ha
      have hnext := eff_next he
      refine ⟨hW.w u _ p hu hl (h u hu).1 hnext, fun hne => hW.m u _ p hu hl (h u hu).1 hnext ?_⟩
      cases hwt : wtO (X u (thOf s u).pc 0) with
      | true => exact Or.inl rfl
      | false =>
        right
        have hno := eff_no hwt he
        have hw : (thOf (actX mode (setTh s u ⟨p, rs, (thOf s u).wait⟩) u k) u).wait = (thOf s u).wait := by
          cases k with
          | put a v => exact absurd rfl (hno.1 a v)
          | free a => exact absurd rfl (hno.2 a)
          | no => show (thOf (setTh s u _) u).wait = _; rw [th_set ht]
          | take a => show (thOf (setTh s u _) u).wait = _; rw [th_set ht]
          | swap a v => show (thOf (setTh s u _) u).wait = _; rw [th_set ht]
          | say v => show (thOf (setTh s u _) u).wait = _; rw [th_set ht]
        rw [hw] at hne
        refine ⟨(h u hu).2 hne, ?_⟩
        cases hao : awO (X u (thOf s u).pc 0) with
        | false => rfl
        | true =>
          exfalso
          have : X u (thOf s u).pc 0 = 12 ∨ X u (thOf s u).pc 0 = 13 ∨ X u (thOf s u).pc 0 = 17 := by simpa [awO, or_assoc] using hao
          exact hne (able_13 ha this)
    · rw [wait_act _ _ _ _ eu ht2, thOf_set ht, if_neg eu]
      exact h u hu
  · have htn : t < n := by rw [← hs.ths]; exact ht
    have hd : ∀ u, thOf (doneW s ((thOf s t).wait.getD k default)) u = thOf s u := fun u => by unfold doneW; split <;> rfl
    have ht2 : t < (doneW s ((thOf s t).wait.getD k default)).ths.length := by unfold doneW; split <;> exact ht
    intro u hu
    rw [thOf_set ht2]
    by_cases eu : u = t
    · subst eu
      rw [if_pos rfl]
      refine ⟨(h u hu).1, fun _ => (h u hu).2 fun e => ?_⟩
      rw [e] at hk; cases hk
    · rw [if_neg eu, hd]
      exact h u hu
theorem wait_reach (hW : WayR n L X W M) (hc : COk n L X m lk rg) (hm : 0 ≤ mode) {s0 s : Sx} (hs : SOk n L m lk rg mode s0) (hf : s0.fell = false) (hb : ∀ t, t < n → (thOf s0 t).wait = [] ∧ (thOf s0 t).pc = 0) (h : Rch (nxX L X mode) s0 s) : WaitI n W M s := by
  induction h with
  | base => exact fun t ht => ⟨by rw [(hb t ht).2]; exact hW.z t ht, fun hne => absurd (hb t ht).1 hne⟩
  | step h1 h2 ih =>
    obtain ⟨hok, hAf⟩ := reach_ok hs hf hc hm h1
    exact ih.step hW hok hAf h2
theorem map_actM {s : Sx} {t : Nat} (ht : t < s.ths.length) (k : Ak) : mapS pl (actX mode s t k) = actX mode (mapS pl s) t k := by
  have key : ∀ x, mapS pl (storeW mode s t x) = storeW mode (mapS pl s) t x := fun x => by
    unfold storeW
    split
    · rw [map_set]
      have := map_at (pl := pl) ht
      rw [this]
    · exact map_done s x
  cases k with
  | put a v => exact key _
  | free a => exact key _
  | no => rfl
  | take a => rfl
  | swap a v => rfl
  | say v => rfl
theorem map_fin {s : Sx} {t k : Nat} (ht : t < s.ths.length) : mapS pl (setTh (doneW s ((thOf s t).wait.getD k default)) t { thOf s t with wait := (thOf s t).wait.eraseIdx k }) = setTh (doneW (mapS pl s) ((thOf (mapS pl s) t).wait.getD k default)) t { thOf (mapS pl s) t with wait := (thOf (mapS pl s) t).wait.eraseIdx k } := by
  rw [map_set, map_done]
  have := map_at (pl := pl) ht
  rw [this]
theorem mem_moves {s : Sx} {t k : Nat} (ht : t < s.ths.length) (hk : k < (thOf s t).wait.length) (hm : mayW mode (thOf s t).wait k = true) : (8 * (t : Int) + (k : Int) + 1) ∈ movesX L X mode s := by
  unfold movesX
  rw [List.mem_flatMap]
  refine ⟨t, by simpa using ht, ?_⟩
  unfold movesT
  rw [List.mem_append, List.mem_map]
  refine Or.inr ⟨k, ?_, rfl⟩
  rw [List.mem_filter]
  exact ⟨by simpa using hk, hm⟩
theorem rch_finK {s0 s : Sx} (h : Rch (nxX L X mode) s0 s) (hf : s.fell = false) {t k : Nat} (ht : t < s.ths.length) (hk : k < (thOf s t).wait.length) (h3 : (thOf s t).wait.length ≤ 3) (hm : mayW mode (thOf s t).wait k = true) : Rch (nxX L X mode) s0 (setTh (doneW s ((thOf s t).wait.getD k default)) t { thOf s t with wait := (thOf s t).wait.eraseIdx k }) := by
  have e := doX_wait (X := X) (mode := mode) (s := s) (t := t) (k := k) (by omega)
  rw [← e]
  exact h.step (mem_nx.mpr ⟨_, mem_moves ht hk hm, by rw [show (8 * (t : Int) + (k : Int) + 1).toNat = 8 * t + k + 1 by omega], (fell_wait (by omega)).trans hf⟩)
theorem dmov_at (hR : DropR n L X L' X' pl D M) {A S : Sx} {t : Nat} (ht : t < n) (h1 : AtPl pl A S t) (hl : (thOf A t).pc < L t) (hd : D t (thOf A t).pc = false) : MovO (pl t) (opT X A t 0) (opT X A t 1) (opT X A t 2) (opT X A t 3) (opT X' S t 0) (opT X' S t 1) (opT X' S t 2) (opT X' S t 3) := by
  have := hR.mv t _ ht hl hd
  unfold opT
  rw [h1]
  exact this
theorem d_able (hR : DropR n L X L' X' pl D M) {A : Sx} (hok : SOk n L m lk rg mode A) {t : Nat} (htn : t < n) (hd : (thOf A t).pc < L t → D t (thOf A t).pc = false) : endedT L' (mapS pl A) t = endedT L A t ∧ ableT L' X' (mapS pl A) t = ableT L X A t := by
  have ht : t < A.ths.length := by rw [hok.ths]; exact htn
  have h1 := map_at (pl := pl) ht
  exact at_able h1 (hok.pc t htn) (hR.e t htn) (fun hl => hR.lt t _ htn hl (hd hl)) (X := X) (X' := X') (fun hl => dmov_at hR htn h1 hl (hd hl)) rfl
theorem d_eff (hR : DropR n L X L' X' pl D M) {A : Sx} (hok : SOk n L m lk rg mode A) {t : Nat} (htn : t < n) (hl : (thOf A t).pc < L t) (hd : D t (thOf A t).pc = false) : effT X' (mapS pl A) t = (effT X A t).map fun x => (pl t x.1, x.2) := by
  have ht : t < A.ths.length := by rw [hok.ths]; exact htn
  have h1 := map_at (pl := pl) ht
  exact at_eff h1 (dmov_at hR htn h1 hl hd) (hR.nx t _ htn hl hd) rfl rfl
/-- Each state of the program is one of that without the fences. -/
theorem drop_fwd (hR : DropR n L X L' X' pl D M) (hc : COk n L X m lk rg) (hm : 0 ≤ mode) {s0 A : Sx} (hs : SOk n L m lk rg mode s0) (hf : s0.fell = false) (hb : ∀ t, t < n → (thOf s0 t).wait = [] ∧ (thOf s0 t).pc = 0) (h : Rch (nxX L X mode) s0 A) : Rch (nxX L' X' mode) s0 (mapS pl A) := by
  induction h with
  | base => rw [map_begin hR.z hs.ths (fun t ht => (hb t ht).2)]; exact .base
  | @step A A' hA hnx ih =>
    obtain ⟨hok, hAf⟩ := reach_ok hs hf hc hm hA
    have hSf : (mapS pl A).fell = false := hAf
    rcases nx_cases hAf (fun t ht => hok.wlen t (by rw [← hok.ths]; exact ht)) hnx with ⟨t, p, rs, k, ht, ha, he, rfl⟩ | ⟨t, k, ht, hk, hmay, rfl⟩
    · have htn : t < n := by rw [← hok.ths]; exact ht
      have htS : t < (mapS pl A).ths.length := by rw [map_len]; exact ht
      have hl := able_lt ha
      have h1 := map_at (pl := pl) ht
      have ht2 : t < (setTh A t ⟨p, rs, (thOf A t).wait⟩).ths.length := by simpa [setTh] using ht
      cases hd : D t (thOf A t).pc with
      | true =>
        have hdr := hR.dr t _ htn hl hd
        unfold effT effX opT at he
        rw [hdr.2.1] at he
        simp only [Int.reduceEq, ↓reduceIte, Option.some.injEq, Prod.mk.injEq] at he
        obtain ⟨rfl, rfl, rfl⟩ := he
        show Rch _ s0 (mapS pl (setTh A t _))
        rw [map_set, hdr.1, ← h1, set_th htS]
        exact ih
      | false =>
        have := rch_eff ih hSf htS ((d_able hR hok htn (fun _ => hd)).2.trans ha) (by rw [d_eff hR hok htn hl hd, he]; rfl)
        rw [map_actM ht2, map_set]
        have e : (thOf (mapS pl A) t).wait = (thOf A t).wait := by rw [h1]
        rw [e] at this
        exact this
    · have htS : t < (mapS pl A).ths.length := by rw [map_len]; exact ht
      have h1 := map_at (pl := pl) ht
      have e : (thOf (mapS pl A) t).wait = (thOf A t).wait := by rw [h1]
      rw [map_fin ht]
      exact rch_finK ih hSf htS (by rw [e]; exact hk) (by rw [e]; exact hok.wlen t (by rw [← hok.ths]; exact ht)) (by rw [e]; exact hmay)
/-- A thread goes past the fences that are taken away. -/
theorem drop_past (hR : DropR n L X L' X' pl D M) (hW : WayR n L X W M) (hc : COk n L X m lk rg) (hm : 0 ≤ mode) {s0 : Sx} (hs : SOk n L m lk rg mode s0) (hf : s0.fell = false) (hb : ∀ t, t < n → (thOf s0 t).wait = [] ∧ (thOf s0 t).pc = 0) {t : Nat} (htn : t < n) : ∀ (f : Nat) (A : Sx), L t - (thOf A t).pc ≤ f → Rch (nxX L X mode) s0 A → ∃ A', Rch (nxX L X mode) s0 A' ∧ mapS pl A' = mapS pl A ∧ (∀ u, u ≠ t → thOf A' u = thOf A u) ∧ ((thOf A' t).pc < L t → D t (thOf A' t).pc = false)
  | f, A, hfu, h => by
    by_cases hgo : (thOf A t).pc < L t ∧ D t (thOf A t).pc = true
    · obtain ⟨hok, hAf⟩ := reach_ok hs hf hc hm h
      have ht : t < A.ths.length := by rw [hok.ths]; exact htn
      have hdr := hR.dr t _ htn hgo.1 hgo.2
      have hw : (thOf A t).wait = [] := Classical.byContradiction fun hne => hdr.2.2 ((wait_reach hW hc hm hs hf hb h t htn).2 hne)
      have ho : opT X A t 0 = 12 := hdr.2.1
      have ha : ableT L X A t = true := by
        unfold ableT endedT
        rw [ho, hw, decide_eq_false (by omega)]
        rfl
      have he : effT X A t = some ((thOf A t).pc + 1, (thOf A t).regs, .no) := by
        unfold effT effX
        rw [ho]
        simp
      have hr := rch_eff h hAf ht ha he
      match f, hfu with
      | 0, hfu => omega
      | f + 1, hfu =>
        obtain ⟨A', h1, h2, h3, h4⟩ := drop_past hR hW hc hm hs hf hb htn f (actX mode (setTh A t ⟨(thOf A t).pc + 1, (thOf A t).regs, (thOf A t).wait⟩) t .no) (by show L t - (thOf (setTh A t _) t).pc ≤ f; rw [th_set ht]; simp only; omega) hr
        refine ⟨A', h1, h2.trans ?_, fun u hu => (h3 u hu).trans (by show thOf (setTh A t _) u = _; rw [thOf_set ht, if_neg hu]), h4⟩
        show mapS pl (setTh A t _) = _
        have hat := map_at (pl := pl) ht
        rw [map_set, hdr.1, ← hat]
        exact set_th (by rw [map_len]; exact ht)
    · refine ⟨A, h, rfl, fun _ _ => rfl, fun hl => ?_⟩
      cases e : D t (thOf A t).pc with
      | false => rfl
      | true => exact absurd ⟨hl, e⟩ hgo
/-- Each state of the program without the fences is one of it. -/
theorem drop_bwd (hR : DropR n L X L' X' pl D M) (hW : WayR n L X W M) (hc : COk n L X m lk rg) (hm : 0 ≤ mode) {s0 S : Sx} (hs : SOk n L m lk rg mode s0) (hf : s0.fell = false) (hb : ∀ t, t < n → (thOf s0 t).wait = [] ∧ (thOf s0 t).pc = 0) (h : Rch (nxX L' X' mode) s0 S) : ∃ A, Rch (nxX L X mode) s0 A ∧ mapS pl A = S := by
  induction h with
  | base => exact ⟨s0, .base, map_begin hR.z hs.ths (fun t ht => (hb t ht).2)⟩
  | @step S S' hS hnx ih =>
    obtain ⟨A, hA, rfl⟩ := ih
    obtain ⟨hok, hAf⟩ := reach_ok hs hf hc hm hA
    have hwl : ∀ t, t < (mapS pl A).ths.length → (thOf (mapS pl A) t).wait.length ≤ 3 := fun t ht => by
      rw [map_len] at ht
      rw [map_at ht]
      exact hok.wlen t (by rw [← hok.ths]; exact ht)
    rcases nx_cases (s := mapS pl A) hAf hwl hnx with ⟨t, p, rs, k, ht, ha, he, rfl⟩ | ⟨t, k, ht, hk, hmay, rfl⟩
    · rw [map_len] at ht
      have htn : t < n := by rw [← hok.ths]; exact ht
      obtain ⟨B, hB, hmap, _, hBd⟩ := drop_past hR hW hc hm hs hf hb htn _ A (Nat.le_refl _) hA
      rw [← hmap] at ha he ⊢
      obtain ⟨hokB, hBf⟩ := reach_ok hs hf hc hm hB
      have htB : t < B.ths.length := by rw [hokB.ths]; exact htn
      rw [(d_able hR hokB htn hBd).2] at ha
      have hl := able_lt ha
      rw [d_eff hR hokB htn hl (hBd hl)] at he
      cases e : effT X B t with
      | none => rw [e] at he; cases he
      | some q =>
        obtain ⟨p2, r2, k2⟩ := q
        rw [e] at he
        simp only [Option.map_some, Option.some.injEq, Prod.mk.injEq] at he
        obtain ⟨rfl, rfl, rfl⟩ := he
        refine ⟨_, rch_eff hB hBf htB ha e, ?_⟩
        rw [map_actM (by simpa [setTh] using htB), map_set, map_at htB]
    · rw [map_len] at ht
      have hw : (thOf (mapS pl A) t).wait = (thOf A t).wait := by rw [map_at ht]
      refine ⟨_, rch_finK hA hAf ht (by rw [← hw]; exact hk) (hok.wlen t (by rw [← hok.ths]; exact ht)) (by rw [← hw]; exact hmay), ?_⟩
      rw [map_fin ht]
/-- All threads go past the fences that are taken away. -/
theorem drop_all (hR : DropR n L X L' X' pl D M) (hW : WayR n L X W M) (hc : COk n L X m lk rg) (hm : 0 ≤ mode) {s0 A : Sx} (hs : SOk n L m lk rg mode s0) (hf : s0.fell = false) (hb : ∀ t, t < n → (thOf s0 t).wait = [] ∧ (thOf s0 t).pc = 0) (h : Rch (nxX L X mode) s0 A) : ∀ k, k ≤ n → ∃ A', Rch (nxX L X mode) s0 A' ∧ mapS pl A' = mapS pl A ∧ ∀ t, t < k → (thOf A' t).pc < L t → D t (thOf A' t).pc = false
  | 0, _ => ⟨A, h, rfl, fun _ ht => absurd ht (by omega)⟩
  | k + 1, hk => by
    obtain ⟨A1, h1, h2, h3⟩ := drop_all hR hW hc hm hs hf hb h k (by omega)
    obtain ⟨A2, g1, g2, g3, g4⟩ := drop_past hR hW hc hm hs hf hb (t := k) (by omega) _ A1 (Nat.le_refl _) h1
    refine ⟨A2, g1, g2.trans h2, fun t ht => ?_⟩
    by_cases e : t = k
    · rw [e]; exact g4
    · rw [g3 t e]
      exact h3 t (by omega)
/-- Each outcome of the program is one of that without the fences. -/
theorem drop_out (hR : DropR n L X L' X' pl D M) (hc : COk n L X m lk rg) (hm : 0 ≤ mode) {s0 A : Sx} (hs : SOk n L m lk rg mode s0) (hf : s0.fell = false) (hb : ∀ t, t < n → (thOf s0 t).wait = [] ∧ (thOf s0 t).pc = 0) (h : Rch (nxX L X mode) s0 A) {o : Oc} (ho : o ∈ outsX L X mode A) : ∃ S, Rch (nxX L' X' mode) s0 S ∧ o ∈ outsX L' X' mode S := by
  obtain ⟨hok, hAf⟩ := reach_ok hs hf hc hm h
  refine ⟨_, drop_fwd hR hc hm hs hf hb h, ?_⟩
  rcases outs_cases hAf (fun t ht => hok.wlen t (by rw [← hok.ths]; exact ht)) ho with ⟨hmv, rfl⟩ | ⟨t, ht, ha, he, rfl⟩
  · rw [moves_nil] at hmv
    have hd : ∀ t, t < n → (thOf A t).pc < L t → D t (thOf A t).pc = false := fun t htn hl => by
      cases e : D t (thOf A t).pc with
      | false => rfl
      | true =>
        exfalso
        have hdr := hR.dr t _ htn hl e
        obtain ⟨h1, h2⟩ := hmv t (by rw [hok.ths]; exact htn)
        have ho : opT X A t 0 = 12 := hdr.2.1
        unfold ableT endedT at h1
        rw [ho, h2, decide_eq_false (by omega)] at h1
        cases h1
    have hae := fun t (htn : t < n) => d_able (X' := X') hR hok htn (hd t htn)
    have hat := fun t (htn : t < n) => map_at (pl := pl) (s := A) (t := t) (by rw [hok.ths]; exact htn)
    have hmS : movesX L' X' mode (mapS pl A) = [] := moves_nil.mpr fun t ht => by
      have htn : t < n := by rw [← hok.ths, ← map_len (pl := pl)]; exact ht
      have := hmv t (by rw [hok.ths]; exact htn)
      exact ⟨by rw [(hae t htn).2]; exact this.1, by rw [hat t htn]; exact this.2⟩
    have := outs_end hmS
    rw [ended_eq (L := L) (L' := L') (A := A) (map_len A) (fun t ht => by
      have htn : t < n := by rw [← hok.ths]; exact ht
      exact ⟨(hae t htn).1, by rw [hat t htn]⟩)] at this
    exact this
  · have htn : t < n := by rw [← hok.ths]; exact ht
    have hl := able_lt ha
    have hd : D t (thOf A t).pc = false := by
      cases e : D t (thOf A t).pc with
      | false => rfl
      | true =>
        exfalso
        have hdr := hR.dr t _ htn hl e
        unfold effT effX opT at he
        rw [hdr.2.1] at he
        simp at he
    exact outs_fall (s := mapS pl A) (by rw [map_len]; exact ht) ((d_able hR hok htn (fun _ => hd)).2.trans ha) (by rw [d_eff hR hok htn hl hd, he]; rfl)
/-- Each outcome of the program without the fences is one of it. -/
theorem drop_back (hR : DropR n L X L' X' pl D M) (hW : WayR n L X W M) (hc : COk n L X m lk rg) (hm : 0 ≤ mode) {s0 S : Sx} (hs : SOk n L m lk rg mode s0) (hf : s0.fell = false) (hb : ∀ t, t < n → (thOf s0 t).wait = [] ∧ (thOf s0 t).pc = 0) (h : Rch (nxX L' X' mode) s0 S) {o : Oc} (ho : o ∈ outsX L' X' mode S) : ∃ A, Rch (nxX L X mode) s0 A ∧ o ∈ outsX L X mode A := by
  obtain ⟨A0, hA0, rfl⟩ := drop_bwd hR hW hc hm hs hf hb h
  obtain ⟨A, hA, hmap, hd⟩ := drop_all hR hW hc hm hs hf hb hA0 n (Nat.le_refl _)
  rw [← hmap] at ho
  obtain ⟨hok, hAf⟩ := reach_ok hs hf hc hm hA
  refine ⟨A, hA, ?_⟩
  have hae := fun t (htn : t < n) => d_able (X' := X') hR hok htn (hd t htn)
  have hat := fun t (htn : t < n) => map_at (pl := pl) (s := A) (t := t) (by rw [hok.ths]; exact htn)
  have hwl : ∀ t, t < (mapS pl A).ths.length → (thOf (mapS pl A) t).wait.length ≤ 3 := fun t ht => by
    rw [map_len, hok.ths] at ht
    rw [hat t ht]
    exact hok.wlen t ht
  rcases outs_cases (s := mapS pl A) hAf hwl ho with ⟨hmv, rfl⟩ | ⟨t, ht, ha, he, rfl⟩
  · rw [moves_nil] at hmv
    have hmA : movesX L X mode A = [] := moves_nil.mpr fun t ht => by
      have htn : t < n := by rw [← hok.ths]; exact ht
      have := hmv t (by rw [map_len]; exact ht)
      rw [(hae t htn).2, hat t htn] at this
      exact this
    have := outs_end hmA
    rw [← ended_eq (L := L) (L' := L') (A := A) (map_len (pl := pl) A) (fun t ht => by
      have htn : t < n := by rw [← hok.ths]; exact ht
      exact ⟨(hae t htn).1, by rw [hat t htn]⟩)] at this
    exact this
  · rw [map_len] at ht
    have htn : t < n := by rw [← hok.ths]; exact ht
    rw [(hae t htn).2] at ha
    have hl := able_lt ha
    refine outs_fall ht ha ?_
    rw [d_eff hR hok htn hl (hd t htn hl)] at he
    cases e : effT X A t with
    | none => rfl
    | some q => rw [e] at he; cases he
end

end Go.Proofs.Ytgofbkgfonlceac
