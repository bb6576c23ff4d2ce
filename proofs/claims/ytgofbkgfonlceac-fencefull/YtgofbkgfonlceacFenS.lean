/-
  WITH A FENCE BEHIND EACH STORE nothing that waits is seen: the outcomes are those of the plain program without stores that wait. Plain functions.
-/
import Derived.Test.YtgofbkgfonlceacFenQ
namespace Go.Proofs.Ytgofbkgfonlceac
open Go.RowKit

theorem ended_eq {L L' : Nat → Nat} {A S : Sx} (hl : S.ths.length = A.ths.length) (h : ∀ t, t < A.ths.length → endedT L' S t = endedT L A t ∧ (thOf S t).wait = (thOf A t).wait) : endedX L' S = endedX L A := by
  unfold endedX
  rw [hl]
  apply Bool.eq_iff_iff.mpr
  rw [List.all_eq_true, List.all_eq_true]
  constructor
  · intro h1 t ht
    have h2 := h1 t ht
    have := h t (by simpa using ht)
    rw [this.1, this.2] at h2
    exact h2
  · intro h1 t ht
    have h2 := h1 t ht
    have := h t (by simpa using ht)
    rw [this.1, this.2]
    exact h2
section
variable {n m lk rg : Nat} {L L' : Nat → Nat} {X X' : Nat → Nat → Nat → Int} {pl : Nat → Nat → Nat} {mode : Int}
theorem FSt.begin (hR : FullR n L X L' X' pl) {s0 : Sx} (hs : s0.ths.length = n) (hf : s0.fell = false) (hb : ∀ t, t < n → (thOf s0 t).wait = [] ∧ (thOf s0 t).pc = 0) : FSt n L X pl s0 s0 :=
  ⟨hs, rfl, rfl, rfl, hf, fun t ht => Or.inl (by
    have h1 := hb t ht
    have h2 := hR.z t ht
    unfold AtPl
    cases e : thOf s0 t with
    | mk pc rs w =>
      rw [e] at h1
      simp only at h1
      simp only [h1.2, h2])⟩
theorem full_fwd (hR : FullR n L X L' X' pl) (hmode : 0 < mode) (hc : COk n L X m lk rg) {s0 S : Sx} (hs : SOk n L m lk rg 0 s0) (hf : s0.fell = false) (hb : ∀ t, t < n → (thOf s0 t).wait = [] ∧ (thOf s0 t).pc = 0) (h : Rch (nxX L' X' mode) s0 S) : ∃ A, Rch (nxX L X 0) s0 A ∧ FSt n L X pl A S := by
  induction h with
  | base => exact ⟨s0, .base, FSt.begin hR hs.ths hf hb⟩
  | step _ ht ih =>
    obtain ⟨A, hA, hI⟩ := ih
    have hok := reach_ok hs hf hc (by omega) hA
    exact hI.step hR hmode hA hok.1 hok.2 ht
theorem mov_at (hR : FullR n L X L' X' pl) {A S : Sx} {t : Nat} (ht : t < n) (h1 : AtPl pl A S t) (hl : (thOf A t).pc < L t) : MovO (pl t) (opT X A t 0) (opT X A t 1) (opT X A t 2) (opT X A t 3) (opT X' S t 0) (opT X' S t 1) (opT X' S t 2) (opT X' S t 3) := by
  have := hR.mv t _ ht hl
  unfold opT
  rw [h1]
  exact this
/-- Each outcome of the fenced program with stores that wait is one of the plain one without. -/
theorem full_out (hR : FullR n L X L' X' pl) (hmode : 0 < mode) (hc : COk n L X m lk rg) {s0 S : Sx} (hs : SOk n L m lk rg 0 s0) (hf : s0.fell = false) (hb : ∀ t, t < n → (thOf s0 t).wait = [] ∧ (thOf s0 t).pc = 0) (h : Rch (nxX L' X' mode) s0 S) {o : Oc} (ho : o ∈ outsX L' X' mode S) : ∃ A, Rch (nxX L X 0) s0 A ∧ o ∈ outsX L X 0 A := by
  obtain ⟨A, hA, hI⟩ := full_fwd hR hmode hc hs hf hb h
  obtain ⟨hok, hAf⟩ := reach_ok hs hf hc (by omega) hA
  refine ⟨A, hA, ?_⟩
  have hwl : ∀ t, t < S.ths.length → (thOf S t).wait.length ≤ 3 := fun t ht => by
    rcases hI.th t (by rw [← hI.len]; exact ht) with h1 | ⟨x, _, _, h1⟩ | ⟨i, _, _, _, h1⟩
    · rw [h1, hok.bare rfl t (by rw [← hI.len]; exact ht)]; simp
    · rw [h1]; simp
    · rw [h1]; simp
  rcases outs_cases hI.fell hwl ho with ⟨hm, rfl⟩ | ⟨t, ht, ha, he, rfl⟩
  · rw [moves_nil] at hm
    have hat : ∀ t, t < n → AtPl pl A S t := fun t ht => by
      obtain ⟨h1, h2⟩ := hm t (by rw [hI.len]; exact ht)
      rcases hI.th t ht with h3 | ⟨x, _, _, h3⟩ | ⟨i, hi, hw, _, h3⟩
      · exact h3
      · rw [h3] at h2; cases h2
      · exfalso
        have h12 := hR.st t i ht hi hw
        have : ableT L' X' S t = true := by
          unfold ableT endedT opT
          rw [h3]
          simp only
          rw [decide_eq_false (by omega), h12.2.2]
          rfl
        rw [this] at h1
        cases h1
    have hae := fun t ht => at_able (hat t ht) (hok.pc t ht) (hR.e t ht) (hR.lt t _ ht) (X := X) (X' := X') (mov_at hR ht (hat t ht)) hI.own
    have hmA : movesX L X 0 A = [] := moves_nil.mpr fun t ht => by
      have htn : t < n := by rw [← hok.ths]; exact ht
      exact ⟨by rw [← (hae t htn).2]; exact (hm t (by rw [hI.len]; exact htn)).1, hok.bare rfl t htn⟩
    have := outs_end hmA
    rw [← ended_eq (L := L) (L' := L') (A := A) (S := S) (by rw [hI.len, hok.ths]) (fun t ht => by
      have htn : t < n := by rw [← hok.ths]; exact ht
      exact ⟨(hae t htn).1, by rw [hat t htn]⟩), ← hI.words, ← hI.prints] at this
    exact this
  · have htn : t < n := by rw [← hI.len]; exact ht
    rw [hI.prints]
    rcases hI.th t htn with h1 | ⟨x, hl, hx, h1⟩ | ⟨i, hi, hw, _, h1⟩
    · have hae := at_able h1 (hok.pc t htn) (hR.e t htn) (hR.lt t _ htn) (X := X) (X' := X') (mov_at hR htn h1) hI.own
      rw [hae.2] at ha
      have hl := able_lt ha
      have hmv := mov_at hR htn h1 hl
      have hAw := hok.bare rfl t htn
      refine outs_fall (by rw [hok.ths]; exact htn) ha ?_
      cases hwt : wtO (opT X A t 0) with
      | true =>
        rcases store_eff hwt with e | ⟨x, hx, e⟩
        · exact e
        · exfalso
          have := ((at_store h1 hmv hI.words hI.own).mpr hx).eff (by rw [h1]; exact hAw)
          rw [he] at this
          cases this
      | false =>
        have := at_eff h1 hmv (hR.nx t _ htn hl hwt) hI.words hI.own
        rw [he] at this
        cases e : effT X A t with
        | none => rfl
        | some q => rw [e] at this; cases this
    · exfalso
      have := able_13 ha (Or.inl (by unfold opT; rw [h1]; exact (hR.st t _ htn hl hx.wt).2.2))
      rw [h1] at this
      cases this
    · exfalso
      have h12 : opT X' S t 0 = 12 := by unfold opT; rw [h1]; exact (hR.st t i htn hi hw).2.2
      unfold effT effX at he
      rw [h12] at he
      simp at he
/-- All threads at their new places. -/
def mapS (pl : Nat → Nat → Nat) (s : Sx) : Sx := { s with ths := s.ths.mapIdx fun t x => ⟨pl t x.pc, x.regs, x.wait⟩ }
theorem map_len (s : Sx) : (mapS pl s).ths.length = s.ths.length := by simp [mapS]
theorem map_at {s : Sx} {t : Nat} (ht : t < s.ths.length) : AtPl pl s (mapS pl s) t := by
  unfold AtPl thOf mapS
  simp [List.getD, ht]
theorem map_set (s : Sx) (t p : Nat) (r : List Int) (w : List Wt) : mapS pl (setTh s t ⟨p, r, w⟩) = setTh (mapS pl s) t ⟨pl t p, r, w⟩ := by
  unfold mapS setTh
  simp only
  congr 1
  apply List.ext_getElem
  · simp
  · intro i h1 h2
    by_cases e : t = i
    · subst e; simp
    · simp [e]
theorem map_begin (hz : ∀ t, t < n → pl t 0 = 0) {s0 : Sx} (hs : s0.ths.length = n) (hb : ∀ t, t < n → (thOf s0 t).pc = 0) : mapS pl s0 = s0 := by
  have : (mapS pl s0).ths = s0.ths := by
    apply List.ext_getElem
    · simp [mapS]
    · intro i h1 h2
      have hi : i < n := by rw [← hs]; exact h2
      have h3 := hb i hi
      have e : thOf s0 i = s0.ths[i] := by simp [thOf, List.getD, h2]
      rw [e] at h3
      simp only [mapS, List.getElem_mapIdx, h3, hz i hi]
      cases e2 : s0.ths[i] with
      | mk a b c =>
        rw [e2] at h3
        simp only at h3
        rw [h3]
  cases s0
  unfold mapS at this ⊢
  simp only at this ⊢
  rw [this]
theorem map_act (s : Sx) (t : Nat) (k : Ak) (h1 : ∀ a v, k ≠ .put a v) (h2 : ∀ a, k ≠ .free a) : mapS pl (actX mode s t k) = actX mode (mapS pl s) t k := by
  cases k with
  | put a v => exact absurd rfl (h1 a v)
  | free a => exact absurd rfl (h2 a)
  | no => rfl
  | take a => rfl
  | swap a v => rfl
  | say v => rfl
theorem map_done (s : Sx) (x : Wt) : mapS pl (doneW s x) = doneW (mapS pl s) x := by unfold doneW; split <;> rfl
theorem full_bwd (hR : FullR n L X L' X' pl) (hmode : 0 < mode) (hc : COk n L X m lk rg) {s0 A : Sx} (hs : SOk n L m lk rg 0 s0) (hf : s0.fell = false) (hb : ∀ t, t < n → (thOf s0 t).wait = [] ∧ (thOf s0 t).pc = 0) (h : Rch (nxX L X 0) s0 A) : Rch (nxX L' X' mode) s0 (mapS pl A) := by
  induction h with
  | base => rw [map_begin hR.z hs.ths (fun t ht => (hb t ht).2)]; exact .base
  | @step A A' hA hnx ih =>
    obtain ⟨hok, hAf⟩ := reach_ok hs hf hc (by omega) hA
    rcases nx_cases hAf (fun t ht => hok.wlen t (by rw [← hok.ths]; exact ht)) hnx with ⟨t, p, rs, k, ht, ha, he, rfl⟩ | ⟨t, k, ht, hk, _, _⟩
    · have htn : t < n := by rw [← hok.ths]; exact ht
      have hAw := hok.bare rfl t htn
      have htS : t < (mapS pl A).ths.length := by rw [map_len]; exact ht
      have h1 := map_at (pl := pl) ht
      have hae := at_able h1 (hok.pc t htn) (hR.e t htn) (hR.lt t _ htn) (X := X) (X' := X') (mov_at hR htn h1) rfl
      have hl := able_lt ha
      have hmv := mov_at hR htn h1 hl
      have haS := hae.2.trans ha
      have hSf : (mapS pl A).fell = false := hAf
      have hSw : (thOf (mapS pl A) t).wait = [] := by rw [h1]; exact hAw
      rw [hAw]
      cases hwt : wtO (opT X A t 0) with
      | false =>
        have he2 := at_eff h1 hmv (hR.nx t _ htn hl hwt) rfl rfl
        rw [he] at he2
        have hno := eff_no hwt he
        have := rch_eff ih hSf htS haS he2
        rw [hSw] at this
        have e3 : actX 0 (setTh A t ⟨p, rs, []⟩) t k = actX mode (setTh A t ⟨p, rs, []⟩) t k := by
          cases k with
          | put a v => exact absurd rfl (hno.1 a v)
          | free a => exact absurd rfl (hno.2 a)
          | no => rfl
          | take a => rfl
          | swap a v => rfl
          | say v => rfl
        rw [e3, map_act _ _ _ hno.1 hno.2, map_set]
        exact this
      | true =>
        rcases store_eff hwt with e | ⟨x, hx, e⟩
        · rw [e] at he; cases he
        · rw [e] at he
          simp only [Option.some.injEq, Prod.mk.injEq] at he
          obtain ⟨rfl, rfl, rfl⟩ := he
          have hxS := (at_store h1 hmv rfl rfl).mpr hx
          have r1 := rch_eff ih hSf htS haS (hxS.eff hSw)
          have hst := hR.st t _ htn hl hwt
          rw [act_ak hx.zero] at r1 ⊢
          rw [hSw] at r1
          unfold storeW at r1 ⊢
          rw [if_pos hmode, th_set htS, set_set] at r1
          rw [if_neg (by omega), map_done, map_set]
          simp only [List.nil_append] at r1
          obtain ⟨S, hS⟩ : ∃ S, mapS pl A = S := ⟨_, rfl⟩
          rw [hS] at r1 h1 hSf htS ⊢
          obtain ⟨q, hq⟩ : ∃ q, (thOf S t).pc + 1 = q := ⟨_, rfl⟩
          have hq1 : q = pl t (thOf A t).pc + 1 := by rw [← hq, h1]
          rw [hq] at r1
          have hlen : t < (setTh S t ⟨q, (thOf S t).regs, [x]⟩).ths.length := by simpa [setTh] using htS
          have r2 := rch_fin r1 hlen (by rw [th_set htS]; simp) hSf
          have e2 := doX_wait (X := X') (mode := mode) (s := setTh S t ⟨q, (thOf S t).regs, [x]⟩) (t := t) (k := 0) (by omega)
          rw [e2, th_set htS] at r2
          have e3 : doneW (setTh S t ⟨q, (thOf S t).regs, [x]⟩) x = setTh (doneW S x) t ⟨q, (thOf S t).regs, [x]⟩ := by unfold doneW setTh; split <;> rfl
          have e4 : setTh (doneW (setTh S t ⟨q, (thOf S t).regs, [x]⟩) x) t ⟨q, (thOf S t).regs, []⟩ = setTh (doneW S x) t ⟨q, (thOf S t).regs, []⟩ := by rw [e3, set_set]
          have r3 : Rch (nxX L' X' mode) s0 (setTh (doneW S x) t ⟨q, (thOf S t).regs, []⟩) := by rw [← e4]; exact r2
          have htD : t < (doneW S x).ths.length := by unfold doneW; split <;> exact htS
          have htD2 : t < (setTh (doneW S x) t ⟨q, (thOf S t).regs, []⟩).ths.length := by simpa [setTh] using htD
          have ho : opT X' (setTh (doneW S x) t ⟨q, (thOf S t).regs, []⟩) t 0 = 12 := by unfold opT; rw [th_set htD]; show X' t q 0 = 12; rw [hq1]; exact hst.2.2
          have hab : ableT L' X' (setTh (doneW S x) t ⟨q, (thOf S t).regs, []⟩) t = true := by
            unfold ableT endedT
            rw [ho, th_set htD]
            simp only
            rw [decide_eq_false (by omega)]
            rfl
          have heff : effT X' (setTh (doneW S x) t ⟨q, (thOf S t).regs, []⟩) t = some (q + 1, (thOf S t).regs, .no) := by
            unfold effT effX
            rw [ho, th_set htD]
            simp
          have r4 := rch_eff r3 (by unfold doneW setTh; split <;> exact hSf) htD2 hab heff
          rw [th_set htD, set_set] at r4
          have e5 : setTh (doneW S x) t ⟨q + 1, (thOf S t).regs, []⟩ = doneW (setTh S t ⟨pl t ((thOf A t).pc + 1), (thOf A t).regs, []⟩) x := by
            have h3 : (thOf S t).regs = (thOf A t).regs := by rw [h1]
            rw [hst.1, hq1, h3]
            unfold doneW setTh
            split <;> rfl
          rw [← e5]
          exact r4
    · rw [hok.bare rfl t (by rw [← hok.ths]; exact ht)] at hk
      cases hk
/-- Each outcome of the plain program without stores that wait is one of the fenced one with them. -/
theorem full_back (hR : FullR n L X L' X' pl) (hmode : 0 < mode) (hc : COk n L X m lk rg) {s0 A : Sx} (hs : SOk n L m lk rg 0 s0) (hf : s0.fell = false) (hb : ∀ t, t < n → (thOf s0 t).wait = [] ∧ (thOf s0 t).pc = 0) (h : Rch (nxX L X 0) s0 A) {o : Oc} (ho : o ∈ outsX L X 0 A) : ∃ S, Rch (nxX L' X' mode) s0 S ∧ o ∈ outsX L' X' mode S := by
  obtain ⟨hok, hAf⟩ := reach_ok hs hf hc (by omega) h
  refine ⟨_, full_bwd hR hmode hc hs hf hb h, ?_⟩
  have h1 := fun t (ht : t < n) => map_at (pl := pl) (s := A) (t := t) (by rw [hok.ths]; exact ht)
  have hae := fun t ht => at_able (h1 t ht) (hok.pc t ht) (hR.e t ht) (hR.lt t _ ht) (X := X) (X' := X') (mov_at hR ht (h1 t ht)) rfl
  rcases outs_cases hAf (fun t ht => hok.wlen t (by rw [← hok.ths]; exact ht)) ho with ⟨hm, rfl⟩ | ⟨t, ht, ha, he, rfl⟩
  · rw [moves_nil] at hm
    have hmS : movesX L' X' mode (mapS pl A) = [] := moves_nil.mpr fun t ht => by
      have htn : t < n := by rw [← hok.ths, ← map_len (pl := pl)]; exact ht
      exact ⟨by rw [(hae t htn).2]; exact (hm t (by rw [hok.ths]; exact htn)).1, by rw [h1 t htn]; exact hok.bare rfl t htn⟩
    have := outs_end hmS
    rw [ended_eq (L := L) (L' := L') (A := A) (map_len A) (fun t ht => by
      have htn : t < n := by rw [← hok.ths]; exact ht
      exact ⟨(hae t htn).1, by rw [h1 t htn]⟩)] at this
    exact this
  · have htn : t < n := by rw [← hok.ths]; exact ht
    have hl := able_lt ha
    have hmv := mov_at hR htn (h1 t htn) hl
    have hAw := hok.bare rfl t htn
    refine outs_fall (s := mapS pl A) (by rw [map_len]; exact ht) ((hae t htn).2.trans ha) ?_
    cases hwt : wtO (opT X A t 0) with
    | true =>
      rcases store_eff (X := X') (s := mapS pl A) (t := t) (by rw [hmv.o]; exact hwt) with e | ⟨x, hx, e⟩
      · exact e
      · exfalso
        have := ((at_store (h1 t htn) hmv rfl rfl).mp hx).eff hAw
        rw [he] at this
        cases this
    | false =>
      have := at_eff (h1 t htn) hmv (hR.nx t _ htn hl hwt) rfl rfl
      rw [this, he]
      rfl
end

end Go.Proofs.Ytgofbkgfonlceac
