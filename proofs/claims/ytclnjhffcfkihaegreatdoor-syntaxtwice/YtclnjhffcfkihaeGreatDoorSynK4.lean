/-
  The document's printer: blocks; every statement.
  The document's Print.
  The program's parser: every expression; two words that are asked for.
-/
import Derived.Test.YtclnjhffcfkihaeGreatDoorSynK1
import Derived.Test.YtclnjhffcfkihaeGreatDoorSqJ
namespace Go.Proofs.YtclnjhffcfkihaeGreatDoor
section
open Go.RowKit

theorem pcsB_flat (ps : List (List Pc)) (p : List Pc) : pcsB (ps ++ [p]).flatten = pcsB ps.flatten ++ pcsB p := by
  rw [List.flatten_append, pcsB_app]
  simp
theorem pcsB_take (ps : List (List Pc)) (j : Nat) : (pcsB (ps.take j).flatten).length ≤ (pcsB ps.flatten).length := by
  have h : ps.flatten = (ps.take j).flatten ++ (ps.drop j).flatten := by rw [← List.flatten_append, List.take_append_drop]
  rw [h, pcsB_len_app]
  omega
theorem wfn_x {x : Nd} (h : WfN x) (hk : 15 ≤ kindN x) : WfX x := by
  match x, h, hk with
  | .mk k n p t ks, h, hk =>
    unfold WfN at h
    rw [if_pos (show 15 ≤ k from hk)] at h
    exact h
theorem nds_len : ∀ ks : List Nd, ks.length ≤ ndsSize ks
  | [] => Nat.le_refl _
  | x :: r => by
    have := nds_len r
    have := size_pos x
    rw [ndsSize, List.length_cons]
    omega
theorem len_flat {d : Nat} : ∀ ks : List Nd, (∀ y, y ∈ ks → (pcsB (pcsN d y)).length ≤ 7000 * ndSize y) → (pcsB (ks.map (pcsN d)).flatten).length ≤ 7000 * ndsSize ks
  | [], _ => by simp [pcsB]
  | y :: r, h => by
    have h1 := h y (List.mem_cons_self ..)
    have h2 := len_flat r fun z hz => h z (List.mem_cons_of_mem _ hz)
    rw [List.map_cons, List.flatten_cons, pcsB_len_app, ndsSize]
    omega
theorem len_side9 (n : Nat) : 12 * n ≤ 7000 * n := Nat.mul_le_mul_right _ (by decide)
/-- How long a statement is, how long a block's statements are. -/
theorem len_n : ∀ N x d, ndSize x ≤ N → d + ndSize x ≤ 2000 → WfN x → (15 ≤ kindN x → (pcsB (pcsX x)).length ≤ 7000 * ndSize x) ∧ (6 ≤ kindN x ∧ kindN x ≤ 14 → (pcsB (pcsN d x)).length ≤ 7000 * ndSize x) ∧ (kindN x = 5 → (pcsB (bodP (d + 1) x)).length + 7000 ≤ 7000 * ndSize x)
  | 0, x, _, hN, _, _ => by have := size_pos x; omega
  | N + 1, .mk k n p t ks, d, hN, hM, hw => by
    unfold WfN at hw
    by_cases hk : 15 ≤ k
    · rw [if_pos hk] at hw
      refine ⟨fun _ => Nat.le_trans (len_x _ _ (Nat.le_refl _) hw) (len_side9 _), fun h => ?_, fun h => ?_⟩
      · have : k ≤ 14 := h.2
        omega
      · have : k = 5 := h
        omega
    · rw [if_neg hk] at hw
      obtain ⟨rfl, hs, hks⟩ := hw
      have hsz : ndSize (.mk k 0 p t ks) = ndsSize ks + 1 := by rw [ndSize]
      rw [hsz] at hN hM ⊢
      have IH : ∀ y, y ∈ ks → ∀ d', d' + ndSize y ≤ 2000 → (15 ≤ kindN y → (pcsB (pcsX y)).length ≤ 7000 * ndSize y) ∧ (6 ≤ kindN y ∧ kindN y ≤ 14 → (pcsB (pcsN d' y)).length ≤ 7000 * ndSize y) ∧ (kindN y = 5 → (pcsB (bodP (d' + 1) y)).length + 7000 ≤ 7000 * ndSize y) := fun y hy d' hd' =>
        len_n N y d' (by have := size_mem hy; omega) hd' (wfNs_mem hks hy)
      refine ⟨fun h => absurd h hk, fun h6 => ?_, fun h5 => ?_⟩
      · have h6' : 6 ≤ k ∧ k ≤ 14 := h6
        rcases hs with h | ⟨rfl, ht, a, hq, ha⟩ | ⟨rfl, ht, a, hq, ha⟩ | ⟨rfl, ht, b, c, hq, hb, hc⟩ | ⟨rfl, rfl, a, ha, hq⟩ | ⟨rfl, rfl, a, ha, hq⟩ | ⟨rfl, rfl, a, hq, ha⟩ | ⟨hk2, ht, hq⟩ | ⟨rfl, rfl, hq⟩
        · omega
        · obtain ⟨x, rfl, rfl⟩ := one_kid hq
          have e1 := (IH x (by simp) d (by simp only [ndsSize] at hM; omega)).1 ha
          have q1 : pcsN d x = pcsX x := pcsN_x ha
          have ht2 := ht.2.1
          simp only [ndsSize] at hM ⊢
          simp [pcsN, partsP, pcsNs, pcsB_app, pcsB, pcB, tab_is, tab_len, q1]
          omega
        · obtain ⟨x, rfl, rfl⟩ := one_kid hq
          have e1 := (IH x (by simp) d (by simp only [ndsSize] at hM; omega)).1 ha
          have q1 : pcsN d x = pcsX x := pcsN_x ha
          have ht2 := ht.2.1
          simp only [ndsSize] at hM ⊢
          simp [pcsN, partsP, pcsNs, pcsB_app, pcsB, pcB, tab_is, tab_len, q1]
          omega
        · obtain ⟨x, y, z, rfl, kx, rfl, rfl⟩ := three_kids hq
          have e1 := (IH x (by simp) d (by simp only [ndsSize] at hM; omega)).1 (by omega)
          have e2 := (IH y (by simp) d (by simp only [ndsSize] at hM; omega)).1 hb
          have e3 := (IH z (by simp) d (by simp only [ndsSize] at hM; omega)).1 hc
          have q1 : pcsN d x = pcsX x := pcsN_x (by omega)
          have q2 : pcsN d y = pcsX y := pcsN_x hb
          have q3 : pcsN d z = pcsX z := pcsN_x hc
          have ht2 := ht.2.1
          simp only [ndsSize] at hM ⊢
          simp [pcsN, partsP, pcsNs, pcsB_app, pcsB, pcB, tab_is, tab_len, q1, q2, q3]
          omega
        · rcases hq with hq | hq
          · obtain ⟨x, y, rfl, rfl, ky⟩ := two_kids hq
            have e1 := (IH x (by simp) d (by simp only [ndsSize] at hM; omega)).1 ha
            have e2 := (IH y (by simp) d (by simp only [ndsSize] at hM; omega)).2.2 ky
            have q1 : pcsN d x = pcsX x := pcsN_x ha
            have q2 : pcsN d y = pS 123 :: .b 10 :: (bodP (d + 1) y ++ (tabsP d ++ [pS 125])) := pcsN_b ky
            simp only [ndsSize] at hM ⊢
            simp [pcsN, partsP, pcsNs, pcsB_app, pcsB, pcB, tab_is, tab_len, q1, q2]
            omega
          · obtain ⟨x, y, z, rfl, rfl, ky, kz⟩ := three_kids hq
            have e1 := (IH x (by simp) d (by simp only [ndsSize] at hM; omega)).1 ha
            have e2 := (IH y (by simp) d (by simp only [ndsSize] at hM; omega)).2.2 ky
            have e3 := (IH z (by simp) d (by simp only [ndsSize] at hM; omega)).2.2 kz
            have q1 : pcsN d x = pcsX x := pcsN_x ha
            have q2 : pcsN d y = pS 123 :: .b 10 :: (bodP (d + 1) y ++ (tabsP d ++ [pS 125])) := pcsN_b ky
            have q3 : pcsN d z = pS 123 :: .b 10 :: (bodP (d + 1) z ++ (tabsP d ++ [pS 125])) := pcsN_b kz
            simp only [ndsSize] at hM ⊢
            simp [pcsN, partsP, pcsNs, pcsB_app, pcsB, pcB, tab_is, tab_len, q1, q2, q3]
            omega
        · obtain ⟨x, y, rfl, rfl, ky⟩ := two_kids hq
          have e1 := (IH x (by simp) d (by simp only [ndsSize] at hM; omega)).1 ha
          have e2 := (IH y (by simp) d (by simp only [ndsSize] at hM; omega)).2.2 ky
          have q1 : pcsN d x = pcsX x := pcsN_x ha
          have q2 : pcsN d y = pS 123 :: .b 10 :: (bodP (d + 1) y ++ (tabsP d ++ [pS 125])) := pcsN_b ky
          simp only [ndsSize] at hM ⊢
          simp [pcsN, partsP, pcsNs, pcsB_app, pcsB, pcB, tab_is, tab_len, q1, q2]
          omega
        · obtain ⟨x, rfl, rfl⟩ := one_kid hq
          have e1 := (IH x (by simp) d (by simp only [ndsSize] at hM; omega)).1 ha
          have q1 : pcsN d x = pcsX x := pcsN_x ha
          simp only [ndsSize] at hM ⊢
          simp [pcsN, partsP, pcsNs, pcsB_app, pcsB, pcB, tab_is, tab_len, q1]
          omega
        · have ht2 := ht.2.1
          obtain rfl : ks = [] := by simpa using hq
          rcases hk2 with rfl | rfl
          · simp [pcsN, partsP, pcsB_app, pcsB, pcB, tab_is, tab_len]
            omega
          · simp [pcsN, partsP, pcsB_app, pcsB, pcB, tab_is, tab_len]
            omega
        · simp [pcsN, partsP, pcsB_app, pcsB, pcB, tab_is, tab_len]
          omega
      · obtain rfl : k = 5 := h5
        have hq : ∀ y, y ∈ ks → 6 ≤ kindN y ∧ kindN y ≤ 14 := by
          rcases hs with h | h | h | h | h | h | h | h | h
          · exact fun y hy => h.2.2 _ (List.mem_map_of_mem hy)
          all_goals omega
        have := len_flat (d := d + 1) ks fun y hy => (IH y hy (d + 1) (by have := size_mem hy; omega)).2.1 (hq y hy)
        rw [bodP, pcsNs_is]
        omega
end

section
open Go.RowKit

/-- A global, a lock, a thread, as it is printed. -/
theorem glob_txt {x : Nd} (h : WfG x ∨ WfT x) : (∃ p t, x = .mk 2 0 p t [] ∧ NameOk t ∧ pcsB (pcsG x) = [105, 110, 116, 32] ++ t ++ [59, 10]) ∨ (∃ n p t, x = .mk 2 n p t [] ∧ n ≠ 0 ∧ n.natAbs ≤ 999999999 ∧ NameOk t ∧ pcsB (pcsG x) = [105, 110, 116, 32] ++ t ++ [32, 61, 32] ++ Lib.itoa n ++ [59, 10]) ∨ (∃ p t, x = .mk 3 0 p t [] ∧ NameOk t ∧ pcsB (pcsG x) = [108, 111, 99, 107, 32] ++ t ++ [59, 10]) ∨ (∃ p b, x = .mk 4 0 p [] [b] ∧ WfN b ∧ kindN b = 5 ∧ pcsB (pcsG x) = [116, 104, 114, 101, 97, 100, 32, 123, 10] ++ pcsB (bodP 1 b) ++ [125, 10]) := by
  match x, h with
  | .mk k n p t ks, h =>
    rcases h with h | h
    · unfold WfG at h
      rcases h with ⟨rfl, ht, hn, rfl⟩ | ⟨rfl, rfl, ht, rfl⟩
      · by_cases h0 : n = 0
        · subst h0
          refine Or.inl ⟨p, t, rfl, ht, ?_⟩
          simp [pcsG, pcsB, pcB]
        · refine Or.inr (Or.inl ⟨n, p, t, rfl, h0, hn, ht, ?_⟩)
          unfold Lib.itoa
          by_cases hneg : n < 0
          · simp [pcsG, pcsB, pcB, h0, hneg]
          · have hna : n.natAbs = n.toNat := by omega
            simp [pcsG, pcsB, pcB, h0, hneg, hna]
      · refine Or.inr (Or.inr (Or.inl ⟨p, t, rfl, ht, ?_⟩))
        simp [pcsG, pcsB, pcB]
    · unfold WfT at h
      obtain ⟨rfl, rfl, rfl, b, rfl, hb, h5, _⟩ := h
      refine Or.inr (Or.inr (Or.inr ⟨p, b, rfl, hb, h5, ?_⟩))
      have q : pcsN 0 b = pS 123 :: .b 10 :: (bodP 1 b ++ (tabsP 0 ++ [pS 125])) := pcsN_b h5
      simp [pcsG, pcsNs, pcsB_app, pcsB, pcB, q, tab_is, tabB]
theorem glob_len {x : Nd} (h : WfG x ∨ WfT x) (hs : ndSize x ≤ 700) : (pcsB (pcsG x)).length ≤ 7000 * ndSize x := by
  have hp := size_pos x
  rcases glob_txt h with ⟨p, t, rfl, ht, he⟩ | ⟨n, p, t, rfl, h0, hn, ht, he⟩ | ⟨p, t, rfl, ht, he⟩ | ⟨p, b, rfl, hb, h5, he⟩
  · rw [he]
    have := ht.2.1
    simp only [List.length_append, List.length_cons, List.length_nil]
    omega
  · rw [he]
    have := ht.2.1
    have := Lib.itoa_length_le n (by omega) (by omega)
    simp only [List.length_append, List.length_cons, List.length_nil]
    omega
  · rw [he]
    have := ht.2.1
    simp only [List.length_append, List.length_cons, List.length_nil]
    omega
  · rw [he]
    simp only [ndSize, ndsSize] at hs ⊢
    have := (len_n _ b 0 (Nat.le_refl _) (by omega) hb).2.2 h5
    simp only [List.length_append, List.length_cons, List.length_nil]
    rw [Nat.zero_add] at this
    omega
theorem prog_len : ∀ ks : List Nd, (∀ x, x ∈ ks → WfG x ∨ WfT x) → ndsSize ks ≤ 700 → (pcsB (pcsP ks)).length ≤ 7000 * ndsSize ks
  | [], _, _ => by simp [pcsP, pcsB]
  | x :: r, h, hs => by
    rw [ndsSize] at hs ⊢
    have h1 := glob_len (h x (List.mem_cons_self ..)) (by omega)
    have h2 := prog_len r (fun y hy => h y (List.mem_cons_of_mem _ hy)) (by omega)
    unfold pcsP at h2 ⊢
    rw [List.map_cons, List.flatten_cons, pcsB_len_app]
    omega
theorem wfp_mem {ks : List Nd} (h : WfP ks) : ∀ x, x ∈ ks → WfG x ∨ WfT x := by
  obtain ⟨gs, ts, rfl, h1, h2⟩ := h
  intro x hx
  rcases List.mem_append.1 hx with hx | hx
  · exact Or.inl (h1 x hx)
  · exact Or.inr (h2 x hx)
end

section
open Go.RowKit

section
variable {E : Int}
/-- Every expression: the program's parser reads it. -/
theorem qexpr_all : ∀ (N : Nat) (l : List Tok), l.length ≤ N → ∀ d, Cpr 165 [] E d l (unaryT E d l) ∧ ∀ k : Nat, k ≤ 5 → Cpr 152 [.int .i64 ((k : Int) + 1)] E d l (exprT E k d l) := by
  intro N
  induction N using Nat.strongRecOn with
  | _ N ih =>
    intro l hl d
    have IH : ∀ r : List Tok, r.length < l.length → ∀ d, Cpr 165 [] E d r (unaryT E d r) ∧ ∀ k : Nat, k ≤ 5 → Cpr 152 [.int .i64 ((k : Int) + 1)] E d r (exprT E k d r) := fun r hr d => ih r.length (by omega) r (Nat.le_refl _) d
    have hu := qahead (E := E) (l := l) (d := d) (fun r hr _ => (IH r hr (d + 1)).1) (fun r hr _ => (IH r hr (d + 1)).2 0 (by omega))
    exact ⟨hu, fun k hk => qexpr hk hu fun r m hr hm => (IH r hr d).2 m hm⟩
theorem qexpr0 (l : List Tok) (d : Nat) : Cpr 152 [.int .i64 1] E d l (exprT E 0 d l) := (qexpr_all l.length l (Nat.le_refl _) d).2 0 (by omega)
end
section
variable {C : Cx9} {w w' : World} {d : Nat} {bx : Option (Nat × Obj)} {ps : List (List Int × Value)} {l : List Tok} {rows : List Row}
/-- Two words or signs that are asked for. -/
theorem qword2 (h : GoP C w d bx ps l rows) (y z : ByteArray) (hy : isLit y.data.toList) (hz : isLit z.data.toList) (hsh : shOk d [y.data.toList, z.data.toList]) (R : Except (Int × Int) (Nat × List Tok)) (HR : wordsR C.E d [y.data.toList, z.data.toList] l = R) :
    Calls Tryz.prog 91 #[.pointer (some ⟨C.P, 0, none⟩), .slice (some ⟨w.heap.size, 0, none⟩) 2 2] (w.alloc (.cells #[.string y, .string z] 9)) fun e w' => WdQ C w bx ps rows R e w' := by
  have hA := (Below.refl w.heap.size w).alloc (Nat.le_refl _) (.cells #[.string y, .string z] 9)
  obtain ⟨i, -, -, -, hP⟩ := h.cells
  refine (qwords (h.below hA) w.heap.size 2 [y, z] rfl (by decide) (heap_alloc_new _ _) (by omega) (fun x hx => by simp at hx; rcases hx with rfl | rfl <;> assumption) hsh R HR).mono ?_
  intro e w' hq
  exact wdq_only hq (Only.of hA)
theorem words_two {E : Int} {y z : List UInt8} (h1 : ¬ opB y) (h2 : ¬ shB y) : wordsR E d [y, z] l = match takeT E y l with
    | .error q => .error q
    | .ok r => wordsR E d [z] r := by
  rw [wordsR, takeT]
  split
  · rw [if_neg (fun h => h1 h.1)]
    unfold stepD
    rw [if_neg h1, if_neg h2]
  · rfl
theorem lit_word {s : List UInt8} (h : isWord s = true) : isLit s := Or.inl h
end
end

end Go.Proofs.YtclnjhffcfkihaeGreatDoor
