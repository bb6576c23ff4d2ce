/-
  Texts made of tokens and blanks: their tokens are found again; and what is found are tokens.
-/
import Derived.Test.YtclnjhffcfkihaeGreatDoorSynG
import Derived.Test.YtclnjhffcfkihaeGreatDoorBase
namespace Go.Proofs.YtclnjhffcfkihaeGreatDoor
/-- What is a token, without its byte. -/
def TkOk (a : Tk) : Prop := (a.1 = 1 ∧ a.2.1 = 0 ∧ NameOk a.2.2) ∨ (a.1 = 2 ∧ a.2.1 = 0 ∧ isWord a.2.2 = true) ∨ (a.1 = 3 ∧ 0 ≤ a.2.1 ∧ a.2.1 ≤ 999999999 ∧ a.2.2 = Lib.decDigits a.2.1.toNat) ∨ (a.1 = 4 ∧ a.2.1 = 0 ∧ (a.2.2 ∈ twoL ∨ ∃ b, a.2.2 = [b] ∧ b ∈ oneS))
/-- May this byte (or the end) follow a token at once? -/
def folB (a : Tk) (r : List UInt8) : Prop :=
  if a.1 = 4 then signN (a.2.2 ++ r) = a.2.2.length else ∀ c, r.head? = some c → isNam c = false
/-- The token at a byte. -/
def tokAt (i : Nat) (a : Tk) : Tok := ⟨a.1, a.2.1, (i : Int), a.2.2⟩
theorem strip_at (i : Nat) (a : Tk) : strip (tokAt i a) = a := rfl

theorem takeWhile_stop (p : UInt8 → Bool) : ∀ (l r : List UInt8), l.all p = true → (∀ c, r.head? = some c → p c = false) → (l ++ r).takeWhile p = l
  | [], [], _, _ => rfl
  | [], c :: r, _, h => by rw [List.nil_append, List.takeWhile_cons_of_neg (by simp [h c rfl])]
  | b :: l, r, hl, h => by
    simp only [List.all_cons, Bool.and_eq_true] at hl
    rw [List.cons_append, List.takeWhile_cons_of_pos hl.1, takeWhile_stop p l r hl.2 h]
theorem dig_nam {c : UInt8} (h : isNam c = false) : isDig c = false := by
  simp only [isNam, Bool.or_eq_false_iff] at h; exact h.2
theorem word_letters {l : List UInt8} (h : isWord l = true) : ∃ b r, l = b :: r ∧ isLet b = true ∧ r.all isNam = true := by
  simp only [isWord, decide_eq_true_eq, wordsL, List.mem_cons, List.not_mem_nil, or_false] at h
  rcases h with rfl | rfl | rfl | rfl | rfl | rfl | rfl | rfl | rfl | rfl <;> exact ⟨_, _, rfl, by decide, by decide⟩
theorem dec_len (u : Nat) (h : u ≤ 999999999) : (Lib.decDigits u).length ≤ 9 := by
  rw [Lib.decDigits_length]
  have key : ∀ n u : Nat, u < 10 ^ n → 1 ≤ n → (Lib.decDigits u).length ≤ n := by
    intro n
    induction n with
    | zero => intro u _ h; omega
    | succ n ih =>
      intro u hu _
      rw [Lib.decDigits]
      split
      · simp
      · rename_i h10
        have h1 : u / 10 < 10 ^ n := by
          have : 10 ^ (n + 1) = 10 ^ n * 10 := Nat.pow_succ 10 n
          omega
        have h2 : 1 ≤ n := by
          rcases Nat.eq_zero_or_pos n with rfl | h
          · simp at h1; omega
          · exact h
        have := ih (u / 10) h1 h2
        simp only [List.length_append, List.length_cons, List.length_nil]
        omega
  have := key 9 u (by omega) (by omega)
  rw [Lib.decDigits_length] at this
  exact this
/-- A token is found where it stands, if what follows may. -/
theorem one_tok {a : Tk} (h : TkOk a) (r : List UInt8) (hr : folB a r) : oneL (a.2.2 ++ r) = some (a.1, a.2.1, a.2.2.length) ∧ (∃ b q, a.2.2 = b :: q ∧ canBe b = true ∧ isBlk b = false ∧ b.toNat ≠ 47) := by
  obtain ⟨k, v, t⟩ := a
  have letter : ∀ (b : UInt8) (q : List UInt8), t = b :: q → isLet b = true → q.all isNam = true → t.length ≤ 12 → k ≠ 4 → v = 0 → kindW t = k → oneL (t ++ r) = some (k, v, t.length) ∧ (∃ b q, t = b :: q ∧ canBe b = true ∧ isBlk b = false ∧ b.toNat ≠ 47) := fun b q ht hb hq hl hk hv hw => by
    subst ht
    have hf : ∀ c, r.head? = some c → isNam c = false := by
      have := hr
      unfold folB at this
      rw [if_neg (show ¬ k = 4 from hk)] at this
      exact this
    have htw := takeWhile_stop isNam q r hq hf
    refine ⟨?_, b, q, rfl, ?_, ?_, ?_⟩
    · rw [List.cons_append, oneL, if_pos hb, htw, if_neg (by simp only [List.length_cons] at hl; omega), hw, hv]
      simp only [List.length_cons, Nat.add_comm]
    · simp [isLet] at hb; simp [canBe, isBlk]; omega
    · simp [isLet] at hb; simp [isBlk]; omega
    · simp [isLet] at hb; omega
  rcases h with ⟨rfl, rfl, ⟨b, q, ht, hb, hq⟩, hl, hw⟩ | ⟨rfl, rfl, hw⟩ | ⟨rfl, h0, h9, ht⟩ | ⟨rfl, rfl, ht⟩
  · exact letter b q ht hb hq hl (by decide) rfl (by unfold kindW; rw [hw]; rfl)
  · obtain ⟨b, q, ht, hb, hq⟩ := word_letters hw
    have hw6 : t.length ≤ 6 := word_len hw
    exact letter b q ht hb hq (by omega) (by decide) rfl (by unfold kindW; rw [if_pos (show isWord t = true from hw)])
  · have hf : ∀ c, r.head? = some c → isDig c = false := fun c hc => by
      have := hr
      unfold folB at this
      rw [if_neg (show ¬ (3 : Int) = 4 by decide)] at this
      exact dig_nam (this c hc)
    have ht' : t = Lib.decDigits v.toNat := ht
    have h0' : 0 ≤ v := h0
    have h9' : v ≤ 999999999 := h9
    have hd := dec_digs v.toNat v.toNat (Nat.le_refl _)
    have hlen := dec_len v.toNat (by omega)
    rw [← ht'] at hd hlen
    obtain ⟨hd1, hd2, hd3, hd4⟩ := hd
    match t, hd1, hd2, hd3, hd4, hlen with
    | b :: q, hd1, _, hd3, hd4, hlen =>
      simp only [List.all_cons, Bool.and_eq_true] at hd1
      have hb2 : 48 ≤ b.toNat ∧ b.toNat ≤ 57 := by have := hd1.1; simp [isDig] at this; exact this
      have hnl : isLet b = false := by simp [isLet]; omega
      have htw := takeWhile_stop isDig q r hd1.2 hf
      refine ⟨?_, b, q, rfl, by simp [canBe, isBlk]; omega, by simp [isBlk]; omega, by omega⟩
      show oneL (b :: q ++ r) = _
      rw [List.cons_append, oneL, if_neg (by simp [hnl]), if_pos hd1.1, htw, if_neg ?_, hd3]
      · simp only [List.length_cons, Nat.add_comm]
        have : ((v.toNat : Nat) : Int) = v := by omega
        rw [this]
      · rintro (h | ⟨h, h48⟩)
        · simp only [List.length_cons] at hlen; omega
        · have hb48 : b = 48 := UInt8.toNat_inj.1 (by rw [h48]; rfl)
          have hv0 := hd4 (by simp [hb48])
          rw [hv0] at ht'
          rw [dec_zero] at ht'
          simp only [List.cons.injEq] at ht'
          rw [ht'.2] at h
          simp at h
  · have hs : signN (t ++ r) = t.length := by
      have := hr
      unfold folB at this
      rw [if_pos rfl] at this
      exact this
    have key : ∀ (b : UInt8) (q : List UInt8), t = b :: q → isLet b = false → isDig b = false → canBe b = true → isBlk b = false → b.toNat ≠ 47 → oneL (t ++ r) = some (4, 0, t.length) ∧ (∃ b q, t = b :: q ∧ canBe b = true ∧ isBlk b = false ∧ b.toNat ≠ 47) := fun b q ht h1 h2 h3 h4 h5 => by
      refine ⟨?_, b, q, ht, h3, h4, h5⟩
      rw [ht] at hs ⊢
      rw [List.cons_append] at hs ⊢
      rw [oneL, if_neg (by simp [h1]), if_neg (by simp [h2]), hs, if_neg (by simp)]
    have ht' : t ∈ twoL ∨ ∃ b, t = [b] ∧ b ∈ oneS := ht
    rcases ht' with h | ⟨b, hb, h⟩
    · simp only [twoL, List.mem_cons, List.not_mem_nil, or_false] at h
      rcases h with h | h | h | h | h | h <;> exact key _ _ h (by decide) (by decide) (by decide) (by decide) (by decide)
    · simp only [oneS, List.mem_cons, List.not_mem_nil, or_false] at h
      rcases h with h | h | h | h | h | h | h | h | h | h | h | h | h <;> exact key _ _ (by rw [hb, h]) (by decide) (by decide) (by decide) (by decide) (by decide)

/-- A blank byte is gone over. -/
theorem scan_blank {b : UInt8} (hb : isBlk b = true) (f i : Nat) (r : List UInt8) (acc : List Tok) : scanF f i (b :: r) acc = scanF f (i + 1) r acc := by
  cases f with
  | zero => rw [scanF, scanF]
  | succ f =>
    have hc : canBe b = true := by simp [canBe, hb]
    have hs : skipL false (b :: r) = ((skipL false r).1 + 1, (skipL false r).2) := by rw [skipL, if_neg (by simp [hc]), if_neg (by simp), if_pos hb]
    rw [scanF, scanF, hs]
    simp only [List.drop_succ_cons]
    have e1 : i + ((skipL false r).1 + 1) = i + 1 + (skipL false r).1 := by omega
    rw [e1]
/-- A token is found. -/
theorem scan_tok {a : Tk} (h : TkOk a) (f i : Nat) (r : List UInt8) (hr : folB a r) (acc : List Tok) : scanF (f + 1) i (a.2.2 ++ r) acc = scanF f (i + a.2.2.length) r (acc ++ [tokAt i a]) := by
  obtain ⟨ho, b, q, hb, hc, hk, h47⟩ := one_tok h r hr
  have hs : skipL false (a.2.2 ++ r) = (0, false) := by
    rw [hb, List.cons_append, skipL, if_neg (by simp [hc]), if_neg (by simp), if_neg (by simp [hk]), if_neg (fun h => h47 h.1)]
  rw [scanF, hs]
  simp only [Bool.false_eq_true, if_false, List.drop_zero, Nat.add_zero]
  rw [if_neg (by rw [hb]; simp), ho]
  simp only [List.drop_left, List.take_left]
  rfl

/-- Pieces of a text: a blank, a token. -/
inductive Pc where
  | b (c : UInt8)
  | t (a : Tk)
def pcB : Pc → List UInt8
  | .b c => [c]
  | .t a => a.2.2
def pcsB : List Pc → List UInt8
  | [] => []
  | x :: r => pcB x ++ pcsB r
def pcsT : List Pc → List Tk
  | [] => []
  | .b _ :: r => pcsT r
  | .t a :: r => a :: pcsT r
/-- Pieces that may stand so, s behind them. -/
def PcOk (s : List UInt8) : List Pc → Prop
  | [] => True
  | .b c :: r => isBlk c = true ∧ PcOk s r
  | .t a :: r => TkOk a ∧ folB a (pcsB r ++ s) ∧ PcOk s r
theorem pcsB_app : ∀ a b : List Pc, pcsB (a ++ b) = pcsB a ++ pcsB b
  | [], b => rfl
  | x :: r, b => by rw [List.cons_append, pcsB, pcsB, pcsB_app r b, List.append_assoc]
theorem pcsT_app : ∀ a b : List Pc, pcsT (a ++ b) = pcsT a ++ pcsT b
  | [], b => rfl
  | .b c :: r, b => by rw [List.cons_append, pcsT, pcsT, pcsT_app r b]
  | .t a :: r, b => by rw [List.cons_append, pcsT, pcsT, pcsT_app r b, List.cons_append]
theorem PcOk.app {s : List UInt8} : ∀ {a b : List Pc}, PcOk (pcsB b ++ s) a → PcOk s b → PcOk s (a ++ b)
  | [], b, _, hb => hb
  | .b c :: r, b, ha, hb => ⟨ha.1, PcOk.app ha.2 hb⟩
  | .t a :: r, b, ha, hb => ⟨ha.1, by show folB a (pcsB (r ++ b) ++ s); rw [pcsB_app, List.append_assoc]; exact ha.2.1, PcOk.app ha.2.2 hb⟩
/-- The tokens of pieces are found again. -/
theorem scan_pcs : ∀ (ps : List Pc), PcOk [] ps → ∀ (f i : Nat) (acc : List Tok), (pcsT ps).length < f → ∃ l, scanF f i (pcsB ps) acc = (acc ++ l, 0, 0) ∧ l.map strip = pcsT ps
  | [], _, f, i, acc, hf => by
    match f, hf with
    | f + 1, _ =>
      refine ⟨[], ?_, rfl⟩
      rw [pcsB, scanF]
      simp [skipL]
  | .b c :: r, h, f, i, acc, hf => by
    obtain ⟨l, h1, h2⟩ := scan_pcs r h.2 f (i + 1) acc hf
    refine ⟨l, ?_, h2⟩
    show scanF f i (c :: pcsB r) acc = _
    rw [scan_blank h.1]
    exact h1
  | .t a :: r, h, f, i, acc, hf => by
    match f, hf with
    | f + 1, hf =>
      have hfl := h.2.1
      rw [List.append_nil] at hfl
      obtain ⟨l, h1, h2⟩ := scan_pcs r h.2.2 f (i + a.2.2.length) (acc ++ [tokAt i a]) (by simp only [pcsT, List.length_cons] at hf; omega)
      refine ⟨tokAt i a :: l, ?_, by simp only [List.map_cons, strip_at, h2]; rfl⟩
      show scanF (f + 1) i (a.2.2 ++ pcsB r) acc = _
      rw [scan_tok h.1 f i _ hfl, h1]
      simp

end Go.Proofs.YtclnjhffcfkihaeGreatDoor
