/-
  What is found in a text are tokens; expressions as pieces of a text.
  Statements, blocks and programs as pieces of a text; what is printed is read as it was.
-/
import Derived.Test.YtggfbfjdiikaeaaGreatDoorSynG
namespace Go.Proofs.YtggfbfjdiikaeaaGreatDoor
section
theorem sign_two {l : List UInt8} (h : l.take 2 ∈ twoL) : signN l = 2 := by unfold signN; rw [if_pos h]
theorem take_all2 (p : UInt8 → Bool) : ∀ l : List UInt8, (l.takeWhile p).all p = true
  | [] => rfl
  | b :: r => by
    by_cases h : p b = true
    · simp [List.takeWhile_cons_of_pos h, h, take_all2 p r]
    · simp [List.takeWhile_cons_of_neg h]
/-- What is found is a token. -/
theorem one_ok {l : List UInt8} {k v : Int} {m : Nat} (h : oneL l = some (k, v, m)) : TkOk (k, v, l.take m) := by
  match l, h with
  | b :: r, h =>
    rw [oneL] at h
    have tk : ∀ p : UInt8 → Bool, (b :: r).take (1 + (r.takeWhile p).length) = b :: r.takeWhile p := fun p => by
      rw [Nat.add_comm, List.take_succ_cons, takeWhile_take]
    split at h
    · rename_i hb
      split at h
      · cases h
      · rename_i h12
        simp only [Option.some.injEq, Prod.mk.injEq] at h
        obtain ⟨rfl, rfl, rfl⟩ := h
        rw [tk]
        by_cases hw : isWord (b :: r.takeWhile isNam) = true
        · exact Or.inr (Or.inl ⟨by unfold kindW; rw [if_pos hw], rfl, hw⟩)
        · exact Or.inl ⟨by unfold kindW; rw [if_neg hw], rfl, ⟨b, _, rfl, hb, take_all2 _ _⟩, by simp only [List.length_cons]; omega, by simpa using hw⟩
    · split at h
      · rename_i hl hd
        split at h
        · cases h
        · rename_i h9
          simp only [Option.some.injEq, Prod.mk.injEq] at h
          obtain ⟨rfl, rfl, rfl⟩ := h
          rw [tk]
          have hall : (b :: r.takeWhile isDig).all isDig = true := by simp only [List.all_cons, hd, Bool.true_and]; exact take_all2 _ _
          have hlen : (b :: r.takeWhile isDig).length ≤ 9 := by simp only [List.length_cons]; omega
          have hm := magFrom_lt (b :: r.takeWhile isDig) 0 hall
          have hp : 10 ^ (b :: r.takeWhile isDig).length ≤ 10 ^ 9 := Nat.pow_le_pow_right (by omega) hlen
          have hm2 : magFrom 0 (b :: r.takeWhile isDig) = mag (b :: r.takeWhile isDig) := rfl
          have v0 : (0 : Int) ≤ (mag (b :: r.takeWhile isDig) : Int) := by omega
          have v9 : (mag (b :: r.takeWhile isDig) : Int) ≤ 999999999 := by omega
          refine Or.inr (Or.inr (Or.inl ⟨rfl, v0, v9, ?_⟩))
          show b :: r.takeWhile isDig = Lib.decDigits ((mag (b :: r.takeWhile isDig) : Int)).toNat
          rw [Int.toNat_natCast, dec_mag _ _ rfl hall (by simp) (fun h48 => ?_)]
          have hb48 : b = 48 := by simpa using h48
          have : (r.takeWhile isDig).length = 0 := by
            rcases Nat.eq_zero_or_pos (r.takeWhile isDig).length with h0 | h0
            · exact h0
            · exact absurd (Or.inr ⟨by omega, by rw [hb48]; rfl⟩) h9
          rw [hb48, List.eq_nil_of_length_eq_zero this]
      · split at h
        · cases h
        · rename_i hs
          simp only [Option.some.injEq, Prod.mk.injEq] at h
          obtain ⟨rfl, rfl, rfl⟩ := h
          refine Or.inr (Or.inr (Or.inr ⟨rfl, rfl, ?_⟩))
          show (b :: r).take (signN (b :: r)) ∈ twoL ∨ ∃ c, (b :: r).take (signN (b :: r)) = [c] ∧ c ∈ oneS
          by_cases h2 : (b :: r).take 2 ∈ twoL
          · rw [sign_two h2]; exact Or.inl h2
          · have hn : signN (b :: r) = if b ∈ oneS then 1 else 0 := by unfold signN; rw [if_neg h2]
            by_cases hb1 : b ∈ oneS
            · rw [hn, if_pos hb1]
              exact Or.inr ⟨b, by simp, hb1⟩
            · rw [hn, if_neg hb1] at hs
              exact absurd rfl hs
theorem scan_ok : ∀ (f i : Nat) (l : List UInt8) (acc : List Tok), ToksOk acc → ToksOk (scanF f i l acc).1
  | 0, _, _, acc, h => by rw [scanF]; exact h
  | f + 1, i, l, acc, h => by
    rw [scanF]
    split
    · intro t ht; cases ht
    · split
      · exact h
      · split
        · intro t ht; cases ht
        · rename_i k v m ho
          refine scan_ok f _ _ _ fun t ht => ?_
          rcases List.mem_append.1 ht with ht | ht
          · exact h t ht
          · obtain rfl : t = _ := by simpa using ht
            exact one_ok ho
/-- WHAT IS FOUND IN A TEXT ARE TOKENS. -/
theorem scanL_ok (l : List UInt8) : ToksOk (scanL l).1 := by
  unfold scanL
  split
  · intro t ht; cases ht
  · exact scan_ok _ _ _ _ fun t ht => by cases ht

/-- A byte that ends whatever stands ahead of it. -/
def endB (c : UInt8) : Bool := !(isNam c) && decide (c.toNat ≠ 61) && decide (c.toNat ≠ 38) && decide (c.toNat ≠ 124)
/-- One that ends a sign. -/
def endS (c : UInt8) : Bool := decide (c.toNat ≠ 61) && decide (c.toNat ≠ 38) && decide (c.toNat ≠ 124)
theorem sign_len {t r : List UInt8} (h : t ∈ twoL ∨ ∃ b, t = [b] ∧ b ∈ oneS) (hr : ∀ c, r.head? = some c → endS c = true) : signN (t ++ r) = t.length := by
  rcases h with h | ⟨b, rfl, hb⟩
  · have h2 : t.length = 2 := by
      simp only [twoL, List.mem_cons, List.not_mem_nil, or_false] at h
      rcases h with rfl | rfl | rfl | rfl | rfl | rfl <;> rfl
    have ht : (t ++ r).take 2 = t := by rw [← h2, List.take_left]
    rw [sign_two (by rw [ht]; exact h), h2]
  · have hn : ¬ ([b] ++ r).take 2 ∈ twoL := by
      match r, hr with
      | [], _ => simp [twoL]
      | c :: q, hr =>
        have hc := hr c rfl
        simp only [endS, Bool.and_eq_true, decide_eq_true_eq] at hc
        intro hm
        simp only [List.cons_append, List.nil_append, List.take_succ_cons, List.take_zero, twoL, List.mem_cons, List.cons.injEq, and_true, List.not_mem_nil, or_false] at hm
        rcases hm with h | h | h | h | h | h <;> (rw [h.2] at hc; revert hc; decide)
    unfold signN
    rw [if_neg hn]
    show (if b ∈ oneS then 1 else 0) = 1
    rw [if_pos hb]
theorem fol_any {a : Tk} (h : TkOk a) {r : List UInt8} (hr : ∀ c, r.head? = some c → endB c = true) : folB a r := by
  unfold folB
  split
  · rename_i h4
    rcases h with h | h | h | h
    · omega
    · omega
    · omega
    · refine sign_len h.2.2 fun c hc => ?_
      have := hr c hc
      simp only [endB, Bool.and_eq_true] at this
      simp only [endS, Bool.and_eq_true]
      exact ⟨⟨this.1.1.2, this.1.2⟩, this.2⟩
  · intro c hc
    have := hr c hc
    simp only [endB, Bool.and_eq_true, Bool.not_eq_true'] at this
    exact this.1.1.1
theorem fol_sign {a : Tk} (h : TkOk a) (h4 : a.1 = 4) {r : List UInt8} (hr : ∀ c, r.head? = some c → endS c = true) : folB a r := by
  unfold folB
  rw [if_pos h4]
  rcases h with h | h | h | h
  · omega
  · omega
  · omega
  · exact sign_len h.2.2 hr

/-- An expression's pieces. -/
def pcsX : Nd → List Pc
  | .mk k n _ t ks => if k = 15 then [.t (3, n, Lib.decDigits n.toNat)] else match ks with
    | [] => [.t (1, 0, t)]
    | [a] => .t (4, 0, if k = 17 then [45] else [33]) :: (if bindX a < 5 then [.t (4, 0, [40])] ++ pcsX a ++ [.t (4, 0, [41])] else pcsX a)
    | a :: b :: _ => (if bindX a < lvl t then [.t (4, 0, [40])] ++ pcsX a ++ [.t (4, 0, [41])] else pcsX a) ++ [.b 32, .t (4, 0, t), .b 32] ++ (if bindX b < lvl t + 1 then [.t (4, 0, [40])] ++ pcsX b ++ [.t (4, 0, [41])] else pcsX b)
def sideP (x : Nd) (m : Int) : List Pc := if bindX x < m then [.t (4, 0, [40])] ++ pcsX x ++ [.t (4, 0, [41])] else pcsX x
/-- A byte that an expression begins with. -/
def begB (c : UInt8) : Bool := isLet c || isDig c || decide (c.toNat = 45) || decide (c.toNat = 33) || decide (c.toNat = 40)
theorem beg_end {c : UInt8} (h : begB c = true) : endS c = true := by
  simp [begB, isLet, isDig] at h
  simp [endS]
  omega
/-- What is well of an expression's pieces. -/
def GoodX (P : List Pc) (T : List Tk) : Prop := pcsT P = T ∧ (∃ c r, pcsB P = c :: r ∧ begB c = true) ∧ ∀ s, (∀ c, s.head? = some c → endB c = true) → PcOk s P
theorem tk_lp : TkOk (4, 0, [40]) := Or.inr (Or.inr (Or.inr ⟨rfl, rfl, Or.inr ⟨40, rfl, by decide⟩⟩))
theorem tk_rp : TkOk (4, 0, [41]) := Or.inr (Or.inr (Or.inr ⟨rfl, rfl, Or.inr ⟨41, rfl, by decide⟩⟩))
theorem good_side {x : Nd} (h : GoodX (pcsX x) (toksX x)) (m : Int) : GoodX (sideP x m) (sideX x m) := by
  unfold sideP sideX
  split
  · obtain ⟨h1, ⟨c, r, h2, h3⟩, h4⟩ := h
    refine ⟨by simp only [pcsT_app, pcsT, h1, List.cons_append, List.nil_append], ⟨40, pcsB (pcsX x) ++ [41], by simp [pcsB_app, pcsB, pcB], by decide⟩, fun s hs => ?_⟩
    refine PcOk.app (a := [.t (4, 0, [40])] ++ pcsX x) (b := [.t (4, 0, [41])]) ?_ ⟨tk_rp, fol_any tk_rp (by simpa [pcsB] using hs), trivial⟩
    refine PcOk.app (a := [.t (4, 0, [40])]) (b := pcsX x) ⟨tk_lp, fol_sign tk_lp rfl (fun d hd => ?_), trivial⟩ (h4 _ fun d hd => ?_)
    · rw [pcsB, List.nil_append, h2] at hd
      simp only [List.cons_append, List.head?_cons, Option.some.injEq] at hd
      rw [← hd]; exact beg_end h3
    · simp only [pcsB, pcB, List.cons_append, List.nil_append, List.head?_cons, Option.some.injEq] at hd
      rw [← hd]; decide
  · exact h
theorem lvl_sign {t : List UInt8} (h : 0 ≤ lvl t) : TkOk (4, 0, t) ∧ ∀ r, folB (4, 0, t) (32 :: r) := by
  have ht : t ∈ twoL ∨ ∃ b, t = [b] ∧ b ∈ oneS := by
    unfold lvl at h
    split at h
    · rename_i h1; rw [h1]; exact Or.inl (by decide)
    · split at h
      · rename_i h1; rw [h1]; exact Or.inl (by decide)
      · split at h
        · rename_i h1
          rcases h1 with h1 | h1 | h1 | h1 | h1 | h1 <;> rw [h1]
          · exact Or.inl (by decide)
          · exact Or.inl (by decide)
          · exact Or.inr ⟨60, rfl, by decide⟩
          · exact Or.inl (by decide)
          · exact Or.inr ⟨62, rfl, by decide⟩
          · exact Or.inl (by decide)
        · split at h
          · rename_i h1
            rcases h1 with h1 | h1 <;> rw [h1]
            · exact Or.inr ⟨43, rfl, by decide⟩
            · exact Or.inr ⟨45, rfl, by decide⟩
          · split at h
            · rename_i h1; rw [h1]; exact Or.inr ⟨42, rfl, by decide⟩
            · omega
  have hk : TkOk (4, 0, t) := Or.inr (Or.inr (Or.inr ⟨rfl, rfl, ht⟩))
  refine ⟨hk, fun r => fol_sign hk rfl fun c hc => ?_⟩
  simp only [List.head?_cons, Option.some.injEq] at hc
  rw [← hc]; decide
/-- An expression's pieces are well. -/
theorem good_x : ∀ N x, ndSize x ≤ N → WfX x → GoodX (pcsX x) (toksX x)
  | 0, .mk _ _ _ _ _, hN, _ => by simp [ndSize] at hN
  | N + 1, .mk k n p t ks, hN, hw => by
    have one : ∀ (a : Tk), TkOk a → (∃ c r, a.2.2 = c :: r ∧ begB c = true) → GoodX [.t a] [a] := fun a ha hb =>
      ⟨rfl, by obtain ⟨c, r, h1, h2⟩ := hb; exact ⟨c, r, by simp [pcsB, pcB, h1], h2⟩, fun s hs => ⟨ha, fol_any ha (by simpa [pcsB] using hs), trivial⟩⟩
    unfold WfX at hw
    rcases hw with ⟨rfl, hn, hn9, rfl, rfl⟩ | ⟨hk15, rfl, hw⟩
    · rw [pcsX, if_pos rfl, toksX, if_pos rfl]
      refine one _ (Or.inr (Or.inr (Or.inl ⟨rfl, hn, hn9, rfl⟩))) ?_
      have hd := dec_digs n.toNat n.toNat (Nat.le_refl _)
      obtain ⟨c, r, hl⟩ := List.exists_cons_of_ne_nil hd.2.1
      refine ⟨c, r, hl, ?_⟩
      have := hd.1
      rw [hl] at this
      simp only [List.all_cons, Bool.and_eq_true] at this
      simp [begB, this.1]
    · match ks, hw, hN with
      | [], hw, _ =>
        rw [pcsX, if_neg hk15, toksX, if_neg hk15]
        obtain ⟨b, r, hb, hl, _⟩ := hw.2.1
        exact one _ (Or.inl ⟨rfl, rfl, hw.2⟩) ⟨b, r, hb, by simp [begB, hl]⟩
      | [a], hw, hN =>
        have ha := good_side (good_x N a (by simp only [ndSize, ndsSize] at hN; omega) hw.2.2) 5
        rw [pcsX, if_neg hk15, toksX, if_neg hk15]
        change GoodX (.t (4, 0, if k = 17 then [45] else [33]) :: sideP a 5) ((4, 0, if k = 17 then [45] else [33]) :: sideX a 5)
        obtain ⟨h1, ⟨c, r, h2, h3⟩, h4⟩ := ha
        have htk : TkOk (4, 0, if k = 17 then [45] else [33]) := Or.inr (Or.inr (Or.inr ⟨rfl, rfl, by
          show (if k = 17 then [45] else [33]) ∈ twoL ∨ ∃ b, (if k = 17 then [45] else [33]) = [b] ∧ b ∈ oneS
          split
          · exact Or.inr ⟨45, rfl, by decide⟩
          · exact Or.inr ⟨33, rfl, by decide⟩⟩))
        refine ⟨by rw [pcsT, h1], ?_, fun s hs => ⟨htk, fol_sign htk rfl fun d hd => ?_, h4 s hs⟩⟩
        · by_cases hk : k = 17
          · exact ⟨45, pcsB (sideP a 5), by simp [pcsB, pcB, hk], by decide⟩
          · exact ⟨33, pcsB (sideP a 5), by simp [pcsB, pcB, hk], by decide⟩
        · rw [h2] at hd
          simp only [List.cons_append, List.head?_cons, Option.some.injEq] at hd
          rw [← hd]; exact beg_end h3
      | [a, b], hw, hN =>
        obtain ⟨rfl, hl0, hwa, hwb⟩ := hw
        have ha := good_side (good_x N a (by simp only [ndSize, ndsSize] at hN; omega) hwa) (lvl t)
        have hb := good_side (good_x N b (by simp only [ndSize, ndsSize] at hN; omega) hwb) (lvl t + 1)
        rw [pcsX, if_neg (show ¬ (19 : Int) = 15 by decide), toksX, if_neg (show ¬ (19 : Int) = 15 by decide)]
        change GoodX (sideP a (lvl t) ++ [.b 32, .t (4, 0, t), .b 32] ++ sideP b (lvl t + 1)) (sideX a (lvl t) ++ [(4, 0, t)] ++ sideX b (lvl t + 1))
        obtain ⟨a1, ⟨ca, ra, a2, a3⟩, a4⟩ := ha
        obtain ⟨b1, ⟨cb, rb, b2, b3⟩, b4⟩ := hb
        obtain ⟨htk, hfo⟩ := lvl_sign hl0
        refine ⟨by simp only [pcsT_app, pcsT, a1, b1], ⟨ca, ra ++ pcsB [.b 32, .t (4, 0, t), .b 32] ++ pcsB (sideP b (lvl t + 1)), by simp only [pcsB_app, a2, List.cons_append], a3⟩, fun s hs => ?_⟩
        refine PcOk.app (PcOk.app (a4 _ fun d hd => ?_) ⟨by decide, htk, ?_, by decide, trivial⟩) (b4 s hs)
        · simp only [pcsB, pcB, List.cons_append, List.nil_append, List.head?_cons, Option.some.injEq] at hd
          rw [← hd]; decide
        · simp only [pcsB, pcB, List.cons_append, List.nil_append]
          exact hfo _
end

section
/-- A tab for each block around. -/
def tabsP (i : Nat) : List Pc := List.replicate i (.b 9)
theorem tabs_t : ∀ (i : Nat) (r : List Pc), pcsT (tabsP i ++ r) = pcsT r
  | 0, _ => rfl
  | i + 1, r => by
    show pcsT (.b 9 :: (tabsP i ++ r)) = _
    rw [pcsT]; exact tabs_t i r
theorem tabs_ok {s : List UInt8} : ∀ (i : Nat) {r : List Pc}, PcOk s r → PcOk s (tabsP i ++ r)
  | 0, _, h => h
  | i + 1, r, h => by
    show PcOk s (.b 9 :: (tabsP i ++ r))
    exact ⟨by decide, tabs_ok i h⟩
abbrev pS (c : UInt8) : Pc := .t (4, 0, [c])
abbrev pW (w : List UInt8) : Pc := .t (2, 0, w)
abbrev pNm (t : List UInt8) : Pc := .t (1, 0, t)
/-- A node's pieces, of those of its kids; i blocks around. -/
def partsP (i : Nat) (k : Int) (t : List UInt8) (ps : List (List Pc)) : List Pc :=
  if k = 5 then pS 123 :: .b 10 :: (ps.flatten ++ (tabsP i ++ [pS 125]))
  else tabsP i ++ (
  if k = 6 then pW wInt :: .b 32 :: pNm t :: .b 32 :: pS 61 :: .b 32 :: (ps.getD 0 [] ++ [pS 59, .b 10])
  else if k = 7 then pNm t :: .b 32 :: pS 61 :: .b 32 :: (ps.getD 0 [] ++ [pS 59, .b 10])
  else if k = 8 then pNm t :: .b 32 :: pS 61 :: .b 32 :: pW wCas :: pS 40 :: (ps.getD 0 [] ++ pS 44 :: .b 32 :: (ps.getD 1 [] ++ pS 44 :: .b 32 :: (ps.getD 2 [] ++ [pS 41, pS 59, .b 10])))
  else if k = 9 then pW wIf :: .b 32 :: pS 40 :: (ps.getD 0 [] ++ pS 41 :: .b 32 :: (ps.getD 1 [] ++ match ps.drop 2 with
    | [] => [.b 10]
    | c :: _ => .b 32 :: pW wElse :: .b 32 :: (c ++ [.b 10])))
  else if k = 10 then pW wWhile :: .b 32 :: pS 40 :: (ps.getD 0 [] ++ pS 41 :: .b 32 :: (ps.getD 1 [] ++ [.b 10]))
  else if k = 11 then pW wPrint :: pS 40 :: (ps.getD 0 [] ++ [pS 41, pS 59, .b 10])
  else if k = 12 then [pW wLock, pS 40, pNm t, pS 41, pS 59, .b 10]
  else if k = 13 then [pW wUnlock, pS 40, pNm t, pS 41, pS 59, .b 10]
  else [pW wFence, pS 59, .b 10])
mutual
/-- A node's pieces, i blocks around. -/
def pcsN (i : Nat) : Nd → List Pc
  | .mk k n p t ks => if 15 ≤ k then pcsX (.mk k n p t ks) else partsP i k t (pcsNs (if k = 5 then i + 1 else i) ks)
def pcsNs (i : Nat) : List Nd → List (List Pc)
  | [] => []
  | x :: r => pcsN i x :: pcsNs i r
end

theorem fol_b {a : Tk} (h : TkOk a) {c : UInt8} (hc : endB c = true) {q : List UInt8} : folB a (c :: q) :=
  fol_any h fun d hd => by simp only [List.head?_cons, Option.some.injEq] at hd; rw [← hd]; exact hc
theorem fol_s {a : Tk} (h : TkOk a) (h4 : a.1 = 4) {c : UInt8} (hc : endS c = true) {q : List UInt8} : folB a (c :: q) :=
  fol_sign h h4 fun d hd => by simp only [List.head?_cons, Option.some.injEq] at hd; rw [← hd]; exact hc
theorem head_b {c : UInt8} (hc : endB c = true) {q : List UInt8} : ∀ d, (c :: q).head? = some d → endB d = true := fun d hd => by
  simp only [List.head?_cons, Option.some.injEq] at hd; rw [← hd]; exact hc
theorem tk_s {c : UInt8} (h : c ∈ oneS) : TkOk (4, 0, [c]) := Or.inr (Or.inr (Or.inr ⟨rfl, rfl, Or.inr ⟨c, rfl, h⟩⟩))
theorem tk_w {w : List UInt8} (h : isWord w = true) : TkOk (2, 0, w) := Or.inr (Or.inl ⟨rfl, rfl, h⟩)
theorem tk_n {t : List UInt8} (h : NameOk t) : TkOk (1, 0, t) := Or.inl ⟨rfl, rfl, h⟩
/-- A sign ahead of an expression. -/
theorem fol_x {a : Tk} (h : TkOk a) (h4 : a.1 = 4) {P : List Pc} {T : List Tk} (hP : GoodX P T) {r : List Pc} {s : List UInt8} : folB a (pcsB (P ++ r) ++ s) := by
  obtain ⟨_, ⟨c, q, h2, h3⟩, _⟩ := hP
  rw [pcsB_app, h2]
  exact fol_s h h4 (beg_end h3)
/-- An expression, and what stands behind it. -/
theorem x_then {P r : List Pc} {T : List Tk} {s : List UInt8} (hP : GoodX P T) (hr : ∀ c, (pcsB r ++ s).head? = some c → endB c = true) (h : PcOk s r) : PcOk s (P ++ r) := PcOk.app (hP.2.2 _ hr) h

/-- What is well of a block's pieces. -/
def PcB (P : List Pc) (T : List Tk) : Prop := pcsT P = T ∧ ∀ s, (∀ c, s.head? = some c → endB c = true) → PcOk s P
/-- .. of a statement's. -/
def PcS (P : List Pc) (T : List Tk) : Prop := pcsT P = T ∧ ∀ s, PcOk s P
theorem b_then {P r : List Pc} {T : List Tk} {s : List UInt8} (hP : PcB P T) (hr : ∀ c, (pcsB r ++ s).head? = some c → endB c = true) (h : PcOk s r) : PcOk s (P ++ r) := PcOk.app (hP.2 _ hr) h
def AllS : List (List Pc) → List (List Tk) → Prop
  | [], [] => True
  | p :: ps, t :: ts => PcS p t ∧ AllS ps ts
  | _, _ => False
theorem good_all : ∀ {ps : List (List Pc)} {ts : List (List Tk)}, AllS ps ts → PcS ps.flatten ts.flatten
  | [], [], _ => ⟨rfl, fun _ => trivial⟩
  | p :: ps, t :: ts, h => by
    obtain ⟨h1, h2⟩ := good_all h.2
    refine ⟨by rw [List.flatten_cons, pcsT_app, h.1.1, h1, List.flatten_cons], fun s => ?_⟩
    rw [List.flatten_cons]
    exact PcOk.app (h.1.2 _) (h2 s)

/-- What is well of a node's pieces. -/
def PcN (i : Nat) (x : Nd) : Prop := (15 ≤ kindN x → GoodX (pcsN i x) (toksN x)) ∧ (kindN x = 5 → PcB (pcsN i x) (toksN x)) ∧ (6 ≤ kindN x ∧ kindN x ≤ 14 → PcS (pcsN i x) (toksN x))
theorem stmts_ok {i : Nat} : ∀ {ks : List Nd}, (∀ x, x ∈ ks → PcN i x ∧ 6 ≤ kindN x ∧ kindN x ≤ 14) → AllS (pcsNs i ks) (toksNs ks)
  | [], _ => trivial
  | x :: r, h => by
    rw [pcsNs, toksNs]
    exact ⟨(h x (by simp)).1.2.2 (h x (by simp)).2, stmts_ok fun y hy => h y (by simp [hy])⟩
theorem one_kid {ks : List Nd} {a : Int} (h : ks.map kindN = [a]) : ∃ x, ks = [x] ∧ kindN x = a := by
  match ks, h with
  | [x], h => exact ⟨x, rfl, by simpa using h⟩
theorem two_kids {ks : List Nd} {a b : Int} (h : ks.map kindN = [a, b]) : ∃ x y, ks = [x, y] ∧ kindN x = a ∧ kindN y = b := by
  match ks, h with
  | [x, y], h => exact ⟨x, y, rfl, by simpa using h⟩
theorem three_kids {ks : List Nd} {a b c : Int} (h : ks.map kindN = [a, b, c]) : ∃ x y z, ks = [x, y, z] ∧ kindN x = a ∧ kindN y = b ∧ kindN z = c := by
  match ks, h with
  | [x, y, z], h => exact ⟨x, y, z, rfl, by simpa using h⟩
/-- A bracket ahead of a name. -/
theorem fol_name {t : List UInt8} (ht : NameOk t) {r : List Pc} {s : List UInt8} : folB (4, 0, [40]) (pcsB (pNm t :: r) ++ s) := by
  obtain ⟨⟨b, q, rfl, hl, _⟩, _⟩ := ht
  exact fol_s (tk_s (by decide)) rfl (c := b) (beg_end (by simp [begB, hl]))
/-- A statement's or block's pieces are well, if those of its kids are. -/
theorem good_node {i : Nat} {k p : Int} {t : List UInt8} {ks : List Nd} (hk : ¬ 15 ≤ k) (hs : ShapeN k t (ks.map kindN)) (hks : ∀ x, x ∈ ks → PcN (if k = 5 then i + 1 else i) x) : PcN i (.mk k 0 p t ks) := by
  refine ⟨fun h => absurd h hk, fun h5 => ?_, fun h6 => ?_⟩
  · obtain rfl : k = 5 := h5
    have hq : ∀ x, x ∈ ks → 6 ≤ kindN x ∧ kindN x ≤ 14 := by
      rcases hs with h | h | h | h | h | h | h | h | h
      · exact fun x hx => h.2.2 _ (List.mem_map_of_mem hx)
      all_goals omega
    have ha := good_all (stmts_ok (i := i + 1) (ks := ks) fun x hx => ⟨hks x hx, hq x hx⟩)
    rw [pcsN, if_neg hk, toksN, if_neg hk, if_pos rfl, partsP, if_pos rfl, partsT, if_pos rfl]
    refine ⟨?_, fun s hh => ?_⟩
    · show (4, 0, [123]) :: pcsT ((pcsNs (i + 1) ks).flatten ++ (tabsP i ++ [pS 125])) = _
      rw [pcsT_app, ha.1, tabs_t]; rfl
    · refine ⟨tk_s (by decide), fol_b (tk_s (by decide)) (c := 10) (by decide), by decide, PcOk.app (ha.2 _) (tabs_ok i ⟨tk_s (by decide), fol_any (tk_s (by decide)) hh, trivial⟩)⟩
  · have h6' : 6 ≤ k ∧ k ≤ 14 := h6
    have h5 : ¬ k = 5 := by omega
    rw [if_neg h5] at hks
    rw [pcsN, if_neg hk, toksN, if_neg hk, if_neg h5, partsP, if_neg h5, partsT, if_neg h5]
    rcases hs with h | ⟨rfl, ht, a, hq, ha⟩ | ⟨rfl, ht, a, hq, ha⟩ | ⟨rfl, ht, b, c, hq, hb, hc⟩ | ⟨rfl, rfl, a, ha, hq⟩ | ⟨rfl, rfl, a, ha, hq⟩ | ⟨rfl, rfl, a, hq, ha⟩ | ⟨hk2, ht, hq⟩ | ⟨rfl, rfl, hq⟩
    · omega
    · obtain ⟨x, rfl, rfl⟩ := one_kid hq
      have hx := (hks x (by simp)).1 ha
      simp only [pcsNs, toksNs, List.getD_cons_zero, if_true]
      refine ⟨?_, fun s => tabs_ok i ⟨tk_w (by decide), fol_b (tk_w (by decide)) (c := 32) (by decide), by decide, tk_n ht, fol_b (tk_n ht) (c := 32) (by decide), by decide, tk_s (by decide), fol_b (tk_s (by decide)) (c := 32) (by decide), by decide, x_then hx (head_b (c := 59) (by decide)) ⟨tk_s (by decide), fol_b (tk_s (by decide)) (c := 10) (by decide), by decide, trivial⟩⟩⟩
      rw [tabs_t]
      simp only [pcsT, pcsT_app, hx.1]
    · obtain ⟨x, rfl, rfl⟩ := one_kid hq
      have hx := (hks x (by simp)).1 ha
      simp only [pcsNs, toksNs, List.getD_cons_zero, if_true, show ¬ (7 : Int) = 6 by decide, if_false]
      refine ⟨?_, fun s => tabs_ok i ⟨tk_n ht, fol_b (tk_n ht) (c := 32) (by decide), by decide, tk_s (by decide), fol_b (tk_s (by decide)) (c := 32) (by decide), by decide, x_then hx (head_b (c := 59) (by decide)) ⟨tk_s (by decide), fol_b (tk_s (by decide)) (c := 10) (by decide), by decide, trivial⟩⟩⟩
      rw [tabs_t]
      simp only [pcsT, pcsT_app, hx.1]
    · obtain ⟨x, y, z, rfl, hx16, rfl, rfl⟩ := three_kids hq
      have hx := (hks x (by simp)).1 (by omega)
      have hy := (hks y (by simp)).1 hb
      have hz := (hks z (by simp)).1 hc
      simp only [pcsNs, toksNs, List.getD_cons_zero, List.getD_cons_succ, if_true, show ¬ (8 : Int) = 6 by decide, show ¬ (8 : Int) = 7 by decide, if_false]
      refine ⟨?_, fun s => tabs_ok i ⟨tk_n ht, fol_b (tk_n ht) (c := 32) (by decide), by decide, tk_s (by decide), fol_b (tk_s (by decide)) (c := 32) (by decide), by decide, tk_w (by decide), fol_b (tk_w (by decide)) (c := 40) (by decide), tk_s (by decide), fol_x (tk_s (by decide)) rfl hx, x_then hx (head_b (c := 44) (by decide)) ⟨tk_s (by decide), fol_b (tk_s (by decide)) (c := 32) (by decide), by decide, x_then hy (head_b (c := 44) (by decide)) ⟨tk_s (by decide), fol_b (tk_s (by decide)) (c := 32) (by decide), by decide, x_then hz (head_b (c := 41) (by decide)) ⟨tk_s (by decide), fol_b (tk_s (by decide)) (c := 59) (by decide), tk_s (by decide), fol_b (tk_s (by decide)) (c := 10) (by decide), by decide, trivial⟩⟩⟩⟩⟩
      rw [tabs_t]
      simp only [pcsT, pcsT_app, hx.1, hy.1, hz.1]
    · rcases hq with hq | hq
      · obtain ⟨x, y, rfl, rfl, hy5⟩ := two_kids hq
        have hx := (hks x (by simp)).1 ha
        have hy := (hks y (by simp)).2.1 hy5
        simp only [pcsNs, toksNs, List.getD_cons_zero, List.getD_cons_succ, List.drop_succ_cons, List.drop_zero, if_true, show ¬ (9 : Int) = 6 by decide, show ¬ (9 : Int) = 7 by decide, show ¬ (9 : Int) = 8 by decide, if_false]
        refine ⟨?_, fun s => tabs_ok i ⟨tk_w (by decide), fol_b (tk_w (by decide)) (c := 32) (by decide), by decide, tk_s (by decide), fol_x (tk_s (by decide)) rfl hx, x_then hx (head_b (c := 41) (by decide)) ⟨tk_s (by decide), fol_b (tk_s (by decide)) (c := 32) (by decide), by decide, b_then hy (head_b (c := 10) (by decide)) ⟨by decide, trivial⟩⟩⟩⟩
        rw [tabs_t]
        simp only [pcsT, pcsT_app, hx.1, hy.1, List.append_nil]
      · obtain ⟨x, y, z, rfl, rfl, hy5, hz5⟩ := three_kids hq
        have hx := (hks x (by simp)).1 ha
        have hy := (hks y (by simp)).2.1 hy5
        have hz := (hks z (by simp)).2.1 hz5
        simp only [pcsNs, toksNs, List.getD_cons_zero, List.getD_cons_succ, List.drop_succ_cons, List.drop_zero, if_true, show ¬ (9 : Int) = 6 by decide, show ¬ (9 : Int) = 7 by decide, show ¬ (9 : Int) = 8 by decide, if_false]
        refine ⟨?_, fun s => tabs_ok i ⟨tk_w (by decide), fol_b (tk_w (by decide)) (c := 32) (by decide), by decide, tk_s (by decide), fol_x (tk_s (by decide)) rfl hx, x_then hx (head_b (c := 41) (by decide)) ⟨tk_s (by decide), fol_b (tk_s (by decide)) (c := 32) (by decide), by decide, b_then hy (head_b (c := 32) (by decide)) ⟨by decide, tk_w (by decide), fol_b (tk_w (by decide)) (c := 32) (by decide), by decide, b_then hz (head_b (c := 10) (by decide)) ⟨by decide, trivial⟩⟩⟩⟩⟩
        rw [tabs_t]
        simp only [pcsT, pcsT_app, hx.1, hy.1, hz.1, List.append_nil]
    · obtain ⟨x, y, rfl, rfl, hy5⟩ := two_kids hq
      have hx := (hks x (by simp)).1 ha
      have hy := (hks y (by simp)).2.1 hy5
      simp only [pcsNs, toksNs, List.getD_cons_zero, List.getD_cons_succ, if_true, show ¬ (10 : Int) = 6 by decide, show ¬ (10 : Int) = 7 by decide, show ¬ (10 : Int) = 8 by decide, show ¬ (10 : Int) = 9 by decide, if_false]
      refine ⟨?_, fun s => tabs_ok i ⟨tk_w (by decide), fol_b (tk_w (by decide)) (c := 32) (by decide), by decide, tk_s (by decide), fol_x (tk_s (by decide)) rfl hx, x_then hx (head_b (c := 41) (by decide)) ⟨tk_s (by decide), fol_b (tk_s (by decide)) (c := 32) (by decide), by decide, b_then hy (head_b (c := 10) (by decide)) ⟨by decide, trivial⟩⟩⟩⟩
      rw [tabs_t]
      simp only [pcsT, pcsT_app, hx.1, hy.1, List.append_nil]
    · obtain ⟨x, rfl, rfl⟩ := one_kid hq
      have hx := (hks x (by simp)).1 ha
      simp only [pcsNs, toksNs, List.getD_cons_zero, if_true, show ¬ (11 : Int) = 6 by decide, show ¬ (11 : Int) = 7 by decide, show ¬ (11 : Int) = 8 by decide, show ¬ (11 : Int) = 9 by decide, show ¬ (11 : Int) = 10 by decide, if_false]
      refine ⟨?_, fun s => tabs_ok i ⟨tk_w (by decide), fol_b (tk_w (by decide)) (c := 40) (by decide), tk_s (by decide), fol_x (tk_s (by decide)) rfl hx, x_then hx (head_b (c := 41) (by decide)) ⟨tk_s (by decide), fol_b (tk_s (by decide)) (c := 59) (by decide), tk_s (by decide), fol_b (tk_s (by decide)) (c := 10) (by decide), by decide, trivial⟩⟩⟩
      rw [tabs_t]
      simp only [pcsT, pcsT_app, hx.1]
    · rcases hk2 with rfl | rfl
      · simp only [if_true, show ¬ (12 : Int) = 6 by decide, show ¬ (12 : Int) = 7 by decide, show ¬ (12 : Int) = 8 by decide, show ¬ (12 : Int) = 9 by decide, show ¬ (12 : Int) = 10 by decide, show ¬ (12 : Int) = 11 by decide, if_false]
        refine ⟨?_, fun s => tabs_ok i ⟨tk_w (by decide), fol_b (tk_w (by decide)) (c := 40) (by decide), tk_s (by decide), fol_name ht, tk_n ht, fol_b (tk_n ht) (c := 41) (by decide), tk_s (by decide), fol_b (tk_s (by decide)) (c := 59) (by decide), tk_s (by decide), fol_b (tk_s (by decide)) (c := 10) (by decide), by decide, trivial⟩⟩
        rw [tabs_t]
        rfl
      · simp only [if_true, show ¬ (13 : Int) = 6 by decide, show ¬ (13 : Int) = 7 by decide, show ¬ (13 : Int) = 8 by decide, show ¬ (13 : Int) = 9 by decide, show ¬ (13 : Int) = 10 by decide, show ¬ (13 : Int) = 11 by decide, show ¬ (13 : Int) = 12 by decide, if_false]
        refine ⟨?_, fun s => tabs_ok i ⟨tk_w (by decide), fol_b (tk_w (by decide)) (c := 40) (by decide), tk_s (by decide), fol_name ht, tk_n ht, fol_b (tk_n ht) (c := 41) (by decide), tk_s (by decide), fol_b (tk_s (by decide)) (c := 59) (by decide), tk_s (by decide), fol_b (tk_s (by decide)) (c := 10) (by decide), by decide, trivial⟩⟩
        rw [tabs_t]
        rfl
    · simp only [show ¬ (14 : Int) = 6 by decide, show ¬ (14 : Int) = 7 by decide, show ¬ (14 : Int) = 8 by decide, show ¬ (14 : Int) = 9 by decide, show ¬ (14 : Int) = 10 by decide, show ¬ (14 : Int) = 11 by decide, show ¬ (14 : Int) = 12 by decide, show ¬ (14 : Int) = 13 by decide, if_false]
      refine ⟨?_, fun s => tabs_ok i ⟨tk_w (by decide), fol_b (tk_w (by decide)) (c := 59) (by decide), tk_s (by decide), fol_b (tk_s (by decide)) (c := 10) (by decide), by decide, trivial⟩⟩
      rw [tabs_t]
      rfl
end

end Go.Proofs.YtggfbfjdiikaeaaGreatDoor
