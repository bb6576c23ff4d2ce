/-
  Chapter 8 as plain functions of bytes: which can stand, what parts tokens, a token, all of a text's.
  The document's small functions of chapter 8, of bytes and of words; and the program's.
  There are no more tokens than bytes.
-/
import Derived.Test.YtclnjhffcfkihaeGreatDoorBase
namespace Go.Proofs.YtclnjhffcfkihaeGreatDoor
section
def isLet (b : UInt8) : Bool := (decide (97 ≤ b.toNat) && decide (b.toNat ≤ 122)) || decide (b.toNat = 95)
def isBlk (b : UInt8) : Bool := decide (b.toNat = 32) || decide (b.toNat = 9) || decide (b.toNat = 13) || decide (b.toNat = 10)
def canBe (b : UInt8) : Bool := isBlk b || (decide (32 ≤ b.toNat) && decide (b.toNat ≤ 126))
def isNam (b : UInt8) : Bool := isLet b || isDig b

/-- Over blanks and notes: how many bytes, and whether the one behind them cannot stand. -/
def skipL : Bool → List UInt8 → Nat × Bool
  | _, [] => (0, false)
  | note, b :: r =>
    if canBe b = false then (0, true)
    else if note = true then ((skipL (decide (b.toNat ≠ 10)) r).1 + 1, (skipL (decide (b.toNat ≠ 10)) r).2)
    else if isBlk b = true then ((skipL false r).1 + 1, (skipL false r).2)
    else if b.toNat = 47 ∧ (r.head?.map UInt8.toNat) = some 47 then ((skipL true r).1 + 1, (skipL true r).2)
    else (0, false)

/-- The words. -/
def wordsL : List (List UInt8) := [[105, 110, 116], [108, 111, 99, 107], [117, 110, 108, 111, 99, 107], [116, 104, 114, 101, 97, 100], [105, 102], [101, 108, 115, 101], [119, 104, 105, 108, 101], [112, 114, 105, 110, 116], [102, 101, 110, 99, 101], [99, 97, 115]]
def isWord (l : List UInt8) : Bool := decide (l ∈ wordsL)
/-- A name's kind. -/
def kindW (l : List UInt8) : Int := if isWord l = true then 2 else 1
/-- The signs of two bytes, and those of one. -/
def twoL : List (List UInt8) := [[60, 61], [62, 61], [61, 61], [33, 61], [38, 38], [124, 124]]
def oneS : List UInt8 := [43, 45, 42, 60, 62, 33, 40, 41, 123, 125, 59, 44, 61]
/-- How long the sign at the first byte is; 0: there is none. -/
def signN (l : List UInt8) : Nat :=
  if l.take 2 ∈ twoL then 2 else match l with
    | [] => 0
    | b :: _ => if b ∈ oneS then 1 else 0

/-- The token at the first byte: its kind, its number, its length. -/
def oneL : List UInt8 → Option (Int × Int × Nat)
  | [] => none
  | b :: r =>
    if isLet b = true then
      (if 12 < 1 + (r.takeWhile isNam).length then none
        else some (kindW (b :: r.takeWhile isNam), 0, 1 + (r.takeWhile isNam).length))
    else if isDig b = true then
      (if 9 < 1 + (r.takeWhile isDig).length ∨ (1 < 1 + (r.takeWhile isDig).length ∧ b.toNat = 48) then none
        else some (3, (mag (b :: r.takeWhile isDig) : Int), 1 + (r.takeWhile isDig).length))
    else if signN (b :: r) = 0 then none else some (4, 0, signN (b :: r))

/-- A token: its kind, its number, its first byte, its text. -/
structure Tok where
  kind : Int
  num : Int
  pos : Int
  text : List UInt8

/-- H1 to H3, from byte i on: what is behind it, what is found already. -/
def scanF : Nat → Nat → List UInt8 → List Tok → List Tok × (Int × Int)
  | 0, _, _, acc => (acc, 0, 0)
  | f + 1, i, l, acc =>
    if (skipL false l).2 = true then ([], 4, ((i + (skipL false l).1 : Nat) : Int))
    else if l.drop (skipL false l).1 = [] then (acc, 0, 0)
    else match oneL (l.drop (skipL false l).1) with
      | none => ([], 5, ((i + (skipL false l).1 : Nat) : Int))
      | some (k, v, m) => scanF f (i + (skipL false l).1 + m) ((l.drop (skipL false l).1).drop m) (acc ++ [⟨k, v, ((i + (skipL false l).1 : Nat) : Int), (l.drop (skipL false l).1).take m⟩])

/-- H1 to H3: a text's tokens, the first fault's code and byte. -/
def scanL (l : List UInt8) : List Tok × (Int × Int) := if 4000 < l.length then ([], 1, 0) else scanF (l.length + 1) 0 l []

theorem skipL_le : ∀ (l : List UInt8) (n : Bool), (skipL n l).1 ≤ l.length
  | [], _ => Nat.le_refl _
  | b :: r, n => by
    unfold skipL
    split
    · simp
    · split
      · have := skipL_le r (decide (b.toNat ≠ 10)); simpa using this
      · split
        · have := skipL_le r false; simpa using this
        · split
          · have := skipL_le r true; simpa using this
          · simp
theorem word_len {l : List UInt8} (h : isWord l = true) : l.length ≤ 6 := by
  simp only [isWord, decide_eq_true_eq, wordsL, List.mem_cons, List.not_mem_nil, or_false] at h
  rcases h with rfl | rfl | rfl | rfl | rfl | rfl | rfl | rfl | rfl | rfl <;> decide
theorem signN_le (l : List UInt8) : signN l ≤ l.length := by
  unfold signN
  split
  · rename_i h
    match l, h with
    | [], h => simp [twoL] at h
    | [a], h => simp [twoL] at h
    | a :: b :: r, _ => simp
  · match l with
    | [] => simp
    | a :: r => show (if a ∈ oneS then 1 else 0) ≤ _; split <;> simp
theorem takeWhile_le (p : UInt8 → Bool) (l : List UInt8) : (l.takeWhile p).length ≤ l.length := by
  have := congrArg List.length (List.takeWhile_append_dropWhile (p := p) (l := l))
  simp only [List.length_append] at this
  omega
theorem takeWhile_take (p : UInt8 → Bool) : ∀ l : List UInt8, l.take (l.takeWhile p).length = l.takeWhile p
  | [] => rfl
  | b :: r => by
    by_cases h : p b = true
    · simp [List.takeWhile_cons_of_pos h, takeWhile_take p r]
    · simp [List.takeWhile_cons_of_neg h]
theorem oneL_len {l : List UInt8} {k v : Int} {m : Nat} (h : oneL l = some (k, v, m)) : 1 ≤ m ∧ m ≤ l.length := by
  match l, h with
  | b :: r, h =>
    have h1 := takeWhile_le isNam r
    have h2 := takeWhile_le isDig r
    have h3 := signN_le (b :: r)
    simp only [List.length_cons] at h3 ⊢
    simp only [oneL] at h
    split at h
    · split at h
      · cases h
      · simp only [Option.some.injEq, Prod.mk.injEq] at h; omega
    · split at h
      · split at h
        · cases h
        · simp only [Option.some.injEq, Prod.mk.injEq] at h; omega
      · split at h
        · cases h
        · simp only [Option.some.injEq, Prod.mk.injEq] at h; omega
end

section
open Go.RowKit

theorem rlet_any (c : UInt8) (w : World) :
    Calls Tryz.prog 62 #[.int .u8 (c.toNat : Int)] w fun e w' => e = .returned (.bool (isLet c)) ∧ w' = w := by
  go_enter Tryz.func62, Tryz.ntmps62
  go_wp2
  all_goals go_ret
  all_goals refine ⟨ret_bool ?_, rfl⟩
  all_goals (rw [Bool.eq_iff_iff]; simp [isLet] <;> omega)
theorem rdig_any (c : UInt8) (w : World) :
    Calls Tryz.prog 63 #[.int .u8 (c.toNat : Int)] w fun e w' => e = .returned (.bool (isDig c)) ∧ w' = w := by
  go_enter Tryz.func63, Tryz.ntmps63
  go_wp2
  all_goals go_ret
  all_goals refine ⟨ret_bool ?_, rfl⟩
  all_goals (rw [Bool.eq_iff_iff]; simp [isDig] <;> omega)
theorem rblk_any (c : UInt8) (w : World) :
    Calls Tryz.prog 61 #[.int .u8 (c.toNat : Int)] w fun e w' => e = .returned (.bool (isBlk c)) ∧ w' = w := by
  go_enter Tryz.func61, Tryz.ntmps61
  go_wp2
  all_goals go_ret
  all_goals refine ⟨ret_bool ?_, rfl⟩
  all_goals (rw [Bool.eq_iff_iff]; simp [isBlk] <;> omega)
theorem rcan_any (c : UInt8) (w : World) :
    Calls Tryz.prog 60 #[.int .u8 (c.toNat : Int)] w fun e w' => e = .returned (.bool (canBe c)) ∧ w' = w := by
  cases hb : isBlk c
  all_goals
    go_enter Tryz.func60, Tryz.ntmps60
    go_wp2_with (first | (go_at_call 61; refine (rblk_any c _).mono ?_; rintro e w' ⟨rfl, rfl⟩; rw [hb]))
    all_goals go_ret
    all_goals refine ⟨ret_bool ?_, rfl⟩
    all_goals (rw [Bool.eq_iff_iff]; simp [canBe, hb] <;> omega)
theorem plet_any (c : UInt8) (w : World) :
    Calls Tryz.prog 82 #[.int .u8 (c.toNat : Int)] w fun e w' => e = .returned (.bool (isLet c)) ∧ w' = w := by
  go_enter Tryz.func82, Tryz.ntmps82
  go_wp2
  all_goals go_ret
  all_goals refine ⟨ret_bool ?_, rfl⟩
  all_goals (rw [Bool.eq_iff_iff]; simp [isLet] <;> omega)
theorem pdig_any (c : UInt8) (w : World) :
    Calls Tryz.prog 84 #[.int .u8 (c.toNat : Int)] w fun e w' => e = .returned (.bool (isDig c)) ∧ w' = w := by
  go_enter Tryz.func84, Tryz.ntmps84
  go_wp2
  all_goals go_ret
  all_goals refine ⟨ret_bool ?_, rfl⟩
  all_goals (rw [Bool.eq_iff_iff]; simp [isDig] <;> omega)
theorem pblk_any (c : UInt8) (w : World) :
    Calls Tryz.prog 78 #[.int .u8 (c.toNat : Int)] w fun e w' => e = .returned (.bool (isBlk c)) ∧ w' = w := by
  go_enter Tryz.func78, Tryz.ntmps78
  go_wp2
  all_goals go_ret
  all_goals refine ⟨ret_bool ?_, rfl⟩
  all_goals (rw [Bool.eq_iff_iff]; simp [isBlk] <;> omega)

/-- A text is one of the words, or none of them. -/
theorem word_cases (s : ByteArray) : isWord s.data.toList = false ∨ ∃ l ∈ wordsL, s = ⟨⟨l⟩⟩ := by
  by_cases h : s.data.toList ∈ wordsL
  · exact Or.inr ⟨_, h, str_of rfl⟩
  · exact Or.inl (by simp [isWord, h])
theorem word_ne {s : ByteArray} (h : isWord s.data.toList = false) {l : List UInt8} (hl : l ∈ wordsL) : (s.toList == l) = false := by
  rw [Lib.toList_data, beq_eq_false_iff_ne]
  intro e
  rw [e] at h
  simp [isWord, hl] at h

theorem rword_any (s : ByteArray) (w : World) :
    Calls Tryz.prog 64 #[.string s] w fun e w' => e = .returned (.bool (isWord s.data.toList)) ∧ w' = w := by
  rcases word_cases s with h | ⟨l, hl, rfl⟩
  · have h1 := word_ne h (l := [105, 110, 116]) (by simp [wordsL])
    have h2 := word_ne h (l := [108, 111, 99, 107]) (by simp [wordsL])
    have h3 := word_ne h (l := [117, 110, 108, 111, 99, 107]) (by simp [wordsL])
    have h4 := word_ne h (l := [116, 104, 114, 101, 97, 100]) (by simp [wordsL])
    have h5 := word_ne h (l := [105, 102]) (by simp [wordsL])
    have h6 := word_ne h (l := [101, 108, 115, 101]) (by simp [wordsL])
    have h7 := word_ne h (l := [119, 104, 105, 108, 101]) (by simp [wordsL])
    have h8 := word_ne h (l := [112, 114, 105, 110, 116]) (by simp [wordsL])
    have h9 := word_ne h (l := [102, 101, 110, 99, 101]) (by simp [wordsL])
    have h10 := word_ne h (l := [99, 97, 115]) (by simp [wordsL])
    go_enter Tryz.func64, Tryz.ntmps64
    go_wp2
    go_ret
    exact ⟨ret_bool h.symm, rfl⟩
  · simp only [wordsL, List.mem_cons, List.not_mem_nil, or_false] at hl
    rcases hl with rfl | rfl | rfl | rfl | rfl | rfl | rfl | rfl | rfl | rfl
    all_goals
      go_enter Tryz.func64, Tryz.ntmps64
      go_wp2
      go_ret
      exact ⟨rfl, rfl⟩
theorem pkind_any (s : ByteArray) (w : World) :
    Calls Tryz.prog 112 #[.string s] w fun e w' => e = .returned (.int .i64 (kindW s.data.toList)) ∧ w' = w := by
  rcases word_cases s with h | ⟨l, hl, rfl⟩
  · have h1 := word_ne h (l := [105, 110, 116]) (by simp [wordsL])
    have h2 := word_ne h (l := [108, 111, 99, 107]) (by simp [wordsL])
    have h3 := word_ne h (l := [117, 110, 108, 111, 99, 107]) (by simp [wordsL])
    have h4 := word_ne h (l := [116, 104, 114, 101, 97, 100]) (by simp [wordsL])
    have h5 := word_ne h (l := [105, 102]) (by simp [wordsL])
    have h6 := word_ne h (l := [101, 108, 115, 101]) (by simp [wordsL])
    have h7 := word_ne h (l := [119, 104, 105, 108, 101]) (by simp [wordsL])
    have h8 := word_ne h (l := [112, 114, 105, 110, 116]) (by simp [wordsL])
    have h9 := word_ne h (l := [102, 101, 110, 99, 101]) (by simp [wordsL])
    have h10 := word_ne h (l := [99, 97, 115]) (by simp [wordsL])
    go_enter Tryz.func112, Tryz.ntmps112
    go_wp2
    go_ret
    exact ⟨ret_int (by rw [kindW, h]; rfl), rfl⟩
  · simp only [wordsL, List.mem_cons, List.not_mem_nil, or_false] at hl
    rcases hl with rfl | rfl | rfl | rfl | rfl | rfl | rfl | rfl | rfl | rfl
    all_goals
      go_enter Tryz.func112, Tryz.ntmps112
      go_wp2
      go_ret
      exact ⟨rfl, rfl⟩
end

section
theorem scanF_len : ∀ (f i : Nat) (l : List UInt8) (acc : List Tok), (scanF f i l acc).1.length ≤ acc.length + l.length
  | 0, _, _, acc => by simp [scanF]
  | f + 1, i, l, acc => by
    rw [scanF]
    split
    · simp
    · split
      · simp
      · split
        · simp
        · rename_i k v m h
          have h1 := oneL_len h
          have h2 := scanF_len f (i + (skipL false l).1 + m) ((l.drop (skipL false l).1).drop m) (acc ++ [⟨k, v, ((i + (skipL false l).1 : Nat) : Int), (l.drop (skipL false l).1).take m⟩])
          simp only [List.length_append, List.length_cons, List.length_nil, List.length_drop] at h1 h2 ⊢
          omega
theorem scanL_len (l : List UInt8) : (scanL l).1.length ≤ 4000 := by
  unfold scanL
  split
  · simp
  · have := scanF_len (l.length + 1) 0 l []
    simp only [List.length_nil] at this
    omega
end

end Go.Proofs.YtclnjhffcfkihaeGreatDoor
