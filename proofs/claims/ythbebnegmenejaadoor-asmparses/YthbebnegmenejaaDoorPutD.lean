/-
  What the document's put does with any line.
-/
import Derived.Test.YthbebnegmenejaaDoorPutB
import Derived.Test.YthbebnegmenejaaDoorPutC
import Derived.Test.YthbebnegmenejaaDoorLineE
namespace Go.Proofs.YthbebnegmenejaaDoor
open Go.RowKit

theorem thread_no : opOf [116, 104, 114, 101, 97, 100] = none := by decide

/-- Behind the third line: the fourth is the first thread's. -/
def Four (k : Nat) (st : St) : Prop := 3 ≤ k → (k = 3 ↔ st.ths = [])

theorem numsOf_len {l : List UInt8} {vs : List Int} (h : numsOf l = some vs) : vs.length ≤ l.length := by
  have key : ∀ (a : List (List UInt8)) (us : List Int), numsL a = some us → us.length = a.length := by
    intro a
    induction a with
    | nil => intro us h; simp [numsL] at h; subst h; rfl
    | cons x r ih =>
      intro us h
      rw [numsL] at h
      split at h
      · rename_i v vs' _ h2
        simp at h; subst h
        simp [ih _ h2]
      · cases h
  have h1 := key _ _ h
  have h2 := cutL_len 32 l
  rw [h1]; simp; omega

theorem step_of {k : Nat} (h3 : 3 ≤ k) {l : List UInt8} {st : St} {vs : List Int} (hn : numsOf l = some vs) : stepL k l st = if nameL l = [116, 104, 114, 101, 97, 100] ∧ vs = [] then some { st with ths := st.ths ++ [[]] } else if st.ths = [] then none else ordS st (nameL l) vs := by
  unfold stepL ordS
  rw [hn]
  have n0 : ¬ k = 0 := by omega
  have n1 : ¬ k = 1 := by omega
  have n2 : ¬ k = 2 := by omega
  simp only [if_neg n0, if_neg n1, if_neg n2]
  cases opOf (nameL l) <;> rfl

theorem Four.step {k : Nat} {l : List UInt8} {st st' : St} (h : Four k st) (h0 : k < 3 → st.ths = []) (hs : stepL k l st = some st') : Four (k + 1) st' ∧ (k + 1 < 3 → st'.ths = []) := by
  rcases Nat.lt_or_ge k 3 with h3 | h3
  · have e := h0 h3
    have e' : st'.ths = [] := by
      unfold stepL at hs
      split at hs
      · cases hs
      · rcases (by omega : k = 0 ∨ k = 1 ∨ k = 2) with rfl | rfl | rfl
        · simp at hs; obtain ⟨_, rfl⟩ := hs; exact e
        · simp at hs; obtain ⟨_, rfl⟩ := hs; exact e
        · simp at hs; obtain ⟨_, rfl⟩ := hs; exact e
    exact ⟨fun h => ⟨fun _ => e', fun _ => by omega⟩, fun _ => e'⟩
  · have e' : st'.ths ≠ [] := by
      cases hn : numsOf l with
      | none => unfold stepL at hs; rw [hn] at hs; cases hs
      | some vs =>
        rw [step_of h3 hn] at hs
        split at hs
        · simp at hs; subst hs; simp
        · split at hs
          · cases hs
          · rename_i hne
            unfold ordS at hs
            split at hs
            · cases hs
            · split at hs
              · simp at hs; subst hs
                intro e
                exact hne (by simpa using e)
              · cases hs
    exact ⟨fun _ => ⟨fun e => by omega, fun e => absurd e e'⟩, fun h => by omega⟩

theorem put_any (B pb : Nat) (k : Nat) (hk : k ≤ 4000) (s : ByteArray) (hs : s.size ≤ 4000) (w : World) (cv wv : Value) (tv : List Value) (st : St) (hP : PSt w B pb cv wv tv st) (hz : Sz k st) (hf : Four k st) :
    Calls Tryd.prog 13 #[.pointer (some ⟨pb, 0, none⟩), .int .i64 k, .string s] w fun e w' => PutQ B pb w (stepL k s.data.toList st) e w' := by
  cases hn : numsOf s.data.toList with
  | none =>
    have e : stepL k s.data.toList st = none := by unfold stepL; rw [hn]
    rw [e]
    exact (put_none pb k s hs hn w).mono fun e w' h => ⟨Kept.of_below h.2 hP.le, h.1⟩
  | some vs =>
    have hvl := numsOf_len hn
    rw [← Lib.size_eq] at hvl
    rcases (by omega : k = 0 ∨ k = 1 ∨ k = 2 ∨ 3 ≤ k) with rfl | rfl | rfl | h3
    · unfold stepL
      rw [hn]
      by_cases hm : nameL s.data.toList = [119, 111, 114, 100, 115]
      · simpa [hm] using put_words B pb s hs vs hn hm w cv wv tv st hP
      · simpa [hm] using put_words_no B pb s hs vs hn hm w cv wv tv st hP
    · unfold stepL
      rw [hn]
      by_cases hm : nameL s.data.toList = [108, 111, 99, 107, 115] ∧ vs.length = 1
      · simpa [hm] using put_locks B pb s hs vs hn hm w cv wv tv st hP
      · simpa [hm] using put_locks_no B pb s hs vs hn hm w cv wv tv st hP
    · unfold stepL
      rw [hn]
      by_cases hm : nameL s.data.toList = [114, 101, 103, 115] ∧ vs.length = 1
      · simpa [hm] using put_regs B pb s hs vs hn hm w cv wv tv st hP
      · simpa [hm] using put_regs_no B pb s hs vs hn hm w cv wv tv st hP
    · have k0 : ((k : Int) == 0) = false := by simp; omega
      have k1 : ((k : Int) == 1) = false := by simp; omega
      have k2 : ((k : Int) == 2) = false := by simp; omega
      have z1 := hz.n
      have z2 := hz.t (st.ths.length - 1)
      rw [step_of h3 hn]
      by_cases hm : nameL s.data.toList = [116, 104, 114, 101, 97, 100]
      · by_cases hv : vs = []
        · subst hv
          rw [if_pos ⟨hm, rfl⟩]
          refine (put_thread k k0 k1 k2 B pb s hs [] hn true rfl hm w cv wv tv st hP (show _ ≤ _ by omega)).mono ?_
          rintro e w' ⟨rfl, h1, h2⟩
          exact ⟨h1, rfl, h2⟩
        · rw [if_neg (fun h => hv h.2)]
          have e : ordS st (nameL s.data.toList) vs = none := by unfold ordS; rw [hm, thread_no]
          rw [e, ite_self]
          have hl : ((vs.length : Int) == 0) = false := by
            cases vs with
            | nil => exact absurd rfl hv
            | cons a r => simp; omega
          refine (put_thread k k0 k1 k2 B pb s hs vs hn false hl hm w cv wv tv st hP (show _ ≤ _ by omega)).mono ?_
          rintro e w' ⟨rfl, h1, _⟩
          exact ⟨h1, rfl⟩
      · rw [if_neg (fun h => hm h.1)]
        by_cases he : k = 3
        · subst he
          rw [if_pos ((hf (Nat.le_refl _)).1 rfl)]
          exact (put_three pb s hs vs hn hm w).mono fun e w' h => ⟨Kept.of_below h.2 hP.le, h.1⟩
        · have hne : st.ths ≠ [] := fun e => he ((hf h3).2 e)
          have hpos : st.ths.length ≠ 0 := fun e => hne (List.eq_nil_of_length_eq_zero e)
          rw [if_neg hne]
          have k3 : ((k : Int) == 3) = false := by simp; omega
          obtain ⟨gc, cap, rfl⟩ : ∃ gc cap, cv = .slice (some ⟨gc, 0, none⟩) st.ths.length cap := by
            rcases hP.built.code.2 with ⟨_, h1⟩ | ⟨g, cp, cur, hv, _⟩
            · exact absurd h1 hpos
            · exact ⟨g, cp, hv⟩
          exact put_order k k0 k1 k2 k3 B pb gc st.ths.length cap wv tv st s hs vs hn hm (st.ths.length - 1) (by omega) rfl (by omega) (by omega) (by omega) w hP

end Go.Proofs.YthbebnegmenejaaDoor
