/-
  What the program's readLine does with any line.
-/
import Derived.Test.YthbebnegmenejaaGreatDoorLineD
namespace Go.Proofs.YthbebnegmenejaaGreatDoor
open Go.RowKit

/-- A program of k lines is no greater than these are. -/
structure Sz (k : Nat) (st : St) : Prop where
  n : st.ths.length ≤ k
  t : ∀ t, (st.ths.getD t []).length ≤ k

theorem Sz.step {k q : Nat} {line : List UInt8} {st st' : St} (h : Sz k st) (hs : stepL q line st = some st') : Sz (k + 1) st' := by
  have up : Sz (k + 1) st := ⟨by have := h.n; omega, fun t => by have := h.t t; omega⟩
  unfold stepL at hs
  split at hs
  · cases hs
  · rename_i vs _
    split at hs
    · split at hs
      · cases hs; exact ⟨up.n, up.t⟩
      · cases hs
    · split at hs
      · split at hs
        · cases hs; exact ⟨up.n, up.t⟩
        · cases hs
      · split at hs
        · split at hs
          · cases hs; exact ⟨up.n, up.t⟩
          · cases hs
        · split at hs
          · cases hs
            refine ⟨by have := h.n; simp; omega, fun t => ?_⟩
            have h1 := h.t t
            show ((st.ths ++ [[]]).getD t []).length ≤ k + 1
            rcases Nat.lt_or_ge t st.ths.length with h2 | h2
            · simp only [List.getD, List.getElem?_append_left h2] at h1 ⊢; omega
            · simp only [List.getD, List.getElem?_append_right h2]
              cases t - st.ths.length <;> simp
          · split at hs
            · cases hs
            · split at hs
              · cases hs
              · split at hs
                · cases hs
                  refine ⟨by have := h.n; simp; omega, fun t => ?_⟩
                  have h1 := h.t t
                  rename_i op _ _
                  show ((st.ths.set (st.ths.length - 1) _).getD t []).length ≤ k + 1
                  by_cases h2 : st.ths.length - 1 = t
                  · subst h2
                    rename_i h3 _ _
                    have h4 : st.ths.length - 1 < st.ths.length := by
                      have : st.ths.length ≠ 0 := fun e => by simp_all
                      omega
                    simp only [List.getD, List.getElem?_set_self h4, Option.getD_some, List.length_append] at h1 ⊢
                    simp; omega
                  · simp only [List.getD, List.getElem?_set_ne h2] at h1 ⊢; omega
                · cases hs

theorem cnt_le {op : Int} (h : 1 ≤ op ∧ op ≤ 18) : (ks op).size ≤ 3 := by
  rcases op_cases op with h1 | rfl | rfl | rfl | rfl | rfl | rfl | rfl | rfl | rfl | rfl | rfl | rfl | rfl | rfl | rfl | rfl | rfl | rfl
  · omega
  all_goals decide

section
variable {B pb mb ob : Nat} {js : List Nat} {w w1 : World}
theorem at_shape (hm : w.heap[mb]? = some (.map shapesArr 18)) {op : Nat} (h : 1 ≤ op ∧ op ≤ 18) : ∃ x y z, cnt3 x y z = (cntOf op : Nat) ∧ (Instr.lookup 43 (.map (some mb)) (.int .i64 (op : Int)) false).run Tryz.prog w = .ok (.agg #[.string (nm (op : Int)), .int .i64 x, .int .i64 y, .int .i64 z]) w := by
  obtain ⟨j, x, y, z, hk, hf⟩ := find_in (op := (op : Int)) (by omega)
  exact ⟨x, y, z, cnt3_ks hk, run_look1 Tryz.underlying43 Tryz.underlying3 w mb 18 shapesArr op j _ hm hf⟩

theorem add_no (N : ByteArray) (te : TypeId) (ep : Value) (he : w.cell? ⟨0, 0, none⟩ = some (.iface te ep)) (cv wv : Value) (tv : List Value) (st : St) (hP : PSt w B pb cv wv tv st) (hR : Rd w B pb mb ob js) (hn4 : st.ths.length ≤ 4000) (va : Option Addr) (l vc : Nat)
    (h : st.ths = [] ∨ ∀ op, opOf N.data.toList = some op → l ≠ cntOf op) :
    Calls Tryz.prog 42 #[.pointer (some ⟨pb, 0, none⟩), .string N, .slice va l vc] w fun e w' => e = .returned (.iface te ep) ∧ Below w.heap.size w w' := by
  obtain ⟨ca, cc, rfl⟩ := owns_slice hP.built.code
  cases ho : opOf N.data.toList with
  | none =>
    refine addOrder_no pb mb ob _ cc hn4 ca N 0 false .nilIface l vc va 0 te ep w he hP.c0 hR.c4 hR.c5 (names_no hR.m2 hR.hjs ho) ?_
    rcases Nat.eq_zero_or_pos st.ths.length with h1 | h1
    · exact Or.inl h1
    · exact Or.inr (Or.inl ⟨h1, rfl⟩)
  | some op =>
    obtain ⟨o1, o2, _⟩ := opOf_some ho
    obtain ⟨x, y, z, hc, hl⟩ := at_shape hR.m1 ⟨o1, o2⟩
    refine addOrder_no pb mb ob _ cc hn4 ca N op true (.agg #[.string (nm (op : Int)), .int .i64 x, .int .i64 y, .int .i64 z]) l vc va (cntOf op : Nat) te ep w he hP.c0 hR.c4 hR.c5 (names_yes hR.m2 hR.hall hR.hjs ho) ?_
    rcases Nat.eq_zero_or_pos st.ths.length with h1 | h1
    · exact Or.inl h1
    · refine Or.inr (Or.inr ⟨h1, rfl, ?_, hl, fun W => count_any _ x y z _ hc W⟩)
      rcases h with h | h
      · rw [h] at h1; simp at h1
      · have := h op ho
        simp; omega

theorem add_yes (N : ByteArray) (cv wv : Value) (tv : List Value) (st : St) (hP : PSt w B pb cv wv tv st) (hR : Rd w B pb mb ob js) (hn4 : st.ths.length ≤ 4000) (hlen : (st.ths.getD (st.ths.length - 1) []).length ≤ 4000) (hne : st.ths ≠ []) (vs : List Int) (va : Option Addr) (vc Bv op : Nat) (ho : opOf N.data.toList = some op) (hl : vs.length = cntOf op)
    (hvo : w.ownsRow Bv 3 1 (.slice va vs.length vc) vs.length (vs.map (Value.int .i64))) :
    Calls Tryz.prog 42 #[.pointer (some ⟨pb, 0, none⟩), .string N, .slice va vs.length vc] w fun e w' => e = .returned .nilIface ∧ Kept B pb w w' ∧ Rd w' B pb mb ob js ∧ ∃ cv' tv', PSt w' B pb cv' wv tv' { st with ths := st.ths.set (st.ths.length - 1) (st.ths.getD (st.ths.length - 1) [] ++ [((op : Int), vs.getD 0 0, vs.getD 1 0, vs.getD 2 0)]) } := by
  have hpos : st.ths.length ≠ 0 := fun e => hne (List.eq_nil_of_length_eq_zero e)
  obtain ⟨o1, o2, o3⟩ := opOf_some ho
  obtain ⟨x, y, z, hc, hl2⟩ := at_shape hR.m1 ⟨o1, o2⟩
  have hN : nm (op : Int) = N := ByteArray.ext (Array.toList_inj.mp o3)
  rw [hN] at hl2
  obtain ⟨gc, cap, rfl⟩ : ∃ gc cap, cv = .slice (some ⟨gc, 0, none⟩) st.ths.length cap := by
    rcases hP.built.code.2 with ⟨_, h1⟩ | ⟨g, cp, cur, hv, _⟩
    · exact absurd h1 hpos
    · exact ⟨g, cp, hv⟩
  refine (addOrder_yes B pb mb ob gc st.ths.length cap wv tv st N op x y z vs va vc Bv (st.ths.length - 1) (by omega) rfl hn4 w hP hR.c4 hR.c5 (names_yes hR.m2 hR.hall hR.hjs ho) hl2 (by show cnt3 x y z = _; rw [hc, hl]) ?_ hvo hlen).mono ?_
  · rw [hl]; exact cnt_le (by omega)
  · rintro e w' ⟨rfl, hb, hk, tv', hP'⟩
    exact ⟨rfl, hk, hR.kept hk (World.cell?_of_block (w := w) hb) (World.cell?_of_block (w := w) hb), _, tv', hP'⟩
end

theorem readLine_any (B pb mb ob : Nat) (js : List Nat) (k : Nat) (hk : k ≤ 4000) (s : ByteArray) (hs : s.size ≤ 4000) (te : TypeId) (ep : Value) (w : World) (hE : Env w te ep) (cv wv : Value) (tv : List Value) (st : St) (hP : PSt w B pb cv wv tv st) (hR : Rd w B pb mb ob js) (hz : Sz k st) :
    Calls Tryz.prog 32 #[.pointer (some ⟨pb, 0, none⟩), .int .i64 k, .string s] w fun e w' => LineQ B pb mb ob js (.iface te ep) w (stepL k s.data.toList st) e w' := by
  unfold stepL
  cases hn : numsOf s.data.toList with
  | none =>
    refine (readLine_none pb k s hs hn te ep w hE).mono ?_
    rintro e w' ⟨rfl, hb⟩
    exact ⟨Kept.of_below hb hP.le, rfl⟩
  | some vs =>
    rcases (by omega : k = 0 ∨ k = 1 ∨ k = 2 ∨ 3 ≤ k) with rfl | rfl | rfl | h3
    · by_cases hm : nameL s.data.toList = [119, 111, 114, 100, 115]
      · simpa [hm] using readLine_words B pb mb ob js s hs vs hn hm te ep w hE cv wv tv st hP hR
      · simpa [hm] using readLine_words_no B pb mb ob js s hs vs hn hm te ep w hE cv wv tv st hP
    · by_cases hm : nameL s.data.toList = [108, 111, 99, 107, 115] ∧ vs.length = 1
      · simpa [hm] using readLine_locks B pb mb ob js s hs vs hn hm te ep w hE cv wv tv st hP hR
      · simpa [hm] using readLine_locks_no B pb mb ob js s hs vs hn hm te ep w hE cv wv tv st hP
    · by_cases hm : nameL s.data.toList = [114, 101, 103, 115] ∧ vs.length = 1
      · simpa [hm] using readLine_regs B pb mb ob js s hs vs hn hm te ep w hE cv wv tv st hP hR
      · simpa [hm] using readLine_regs_no B pb mb ob js s hs vs hn hm te ep w hE cv wv tv st hP
    · have k0 : ((k : Int) == 0) = false := by simp; omega
      have k1 : ((k : Int) == 1) = false := by simp; omega
      have k2 : ((k : Int) == 2) = false := by simp; omega
      have n0 : ¬ k = 0 := by omega
      have n1 : ¬ k = 1 := by omega
      have n2 : ¬ k = 2 := by omega
      have z1 := hz.n
      have z2 := hz.t (st.ths.length - 1)
      simp only [if_neg n0, if_neg n1, if_neg n2]
      by_cases hm : nameL s.data.toList = [116, 104, 114, 101, 97, 100] ∧ vs = []
      · obtain ⟨hm, rfl⟩ := hm
        rw [if_pos ⟨hm, rfl⟩]
        exact readLine_thread k k0 k1 k2 B pb mb ob js s hs hn hm te ep w hE cv wv tv st hP hR (show _ ≤ _ by omega)
      · rw [if_neg hm]
        have no : ∀ o : Option St, o = none → (st.ths = [] ∨ ∀ op, opOf (nameL s.data.toList) = some op → vs.length ≠ cntOf op) → Calls Tryz.prog 32 #[.pointer (some ⟨pb, 0, none⟩), .int .i64 k, .string s] w fun e w' => LineQ B pb mb ob js (.iface te ep) w o e w' := by
          rintro o rfl h
          refine (readLine_tail k k0 k1 k2 pb s hs vs hn hm te ep w hE (fun v w' => LineQ B pb mb ob js (.iface te ep) w none (.returned v) w') ?_).mono ?_
          · intro nm va vc w1 HNM hb1 hown
            have hP1 := hP.below hb1
            refine (add_no nm te ep (hE.below hb1).err cv wv tv st hP1 (hR.below hb1 hP.le) (by omega) va _ vc (by rw [HNM.out]; exact h)).mono ?_
            rintro e w' ⟨rfl, hb2⟩
            exact ⟨_, rfl, (Kept.of_below hb1 hP.le).trans (Kept.of_below hb2 hP1.le), rfl⟩
          · rintro e w' ⟨v, rfl, h⟩
            exact h
        by_cases hne : st.ths = []
        · rw [if_pos hne]
          exact no _ rfl (Or.inl hne)
        · rw [if_neg hne]
          cases ho : opOf (nameL s.data.toList) with
          | none => exact no _ rfl (Or.inr (fun op h => by rw [ho] at h; cases h))
          | some op =>
            by_cases hl : vs.length = cntOf op
            · simp only [if_pos hl]
              refine (readLine_tail k k0 k1 k2 pb s hs vs hn hm te ep w hE (fun v w' => LineQ B pb mb ob js (.iface te ep) w (some { st with ths := st.ths.set (st.ths.length - 1) (st.ths.getD (st.ths.length - 1) [] ++ [((op : Int), vs.getD 0 0, vs.getD 1 0, vs.getD 2 0)]) }) (.returned v) w') ?_).mono ?_
              · intro nm va vc w1 HNM hb1 hown
                have hP1 := hP.below hb1
                refine (add_yes nm cv wv tv st hP1 (hR.below hb1 hP.le) (by omega) (by omega) hne vs va vc _ op (by rw [HNM.out]; exact ho) hl hown).mono ?_
                rintro e w' ⟨rfl, hk2, hR2, cv', tv', hP2⟩
                exact ⟨_, rfl, (Kept.of_below hb1 hP.le).trans hk2, rfl, hR2, cv', wv, tv', hP2⟩
              · rintro e w' ⟨v, rfl, h⟩
                exact h
            · simp only [if_neg hl]
              exact no _ rfl (Or.inr (fun op' h => by rw [ho] at h; cases h; exact hl))

end Go.Proofs.YthbebnegmenejaaGreatDoor
