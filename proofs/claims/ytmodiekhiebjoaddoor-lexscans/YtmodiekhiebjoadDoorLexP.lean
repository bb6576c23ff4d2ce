/-
  Chapter 8 as plain functions of bytes: which can stand, what parts tokens, a token, all of a text's.
-/
import Derived.Test.YtmodiekhiebjoadDoorNum
namespace Go.Proofs.YtmodiekhiebjoadDoor

def isLet (b : UInt8) : Bool := (decide (97 ≤ b.toNat) && decide (b.toNat ≤ 122)) || decide (b.toNat = 95)
def isBlk (b : UInt8) : Bool := decide (b.toNat = 32) || decide (b.toNat = 9) || decide (b.toNat = 13) || decide (b.toNat = 10)
def canBe (b : UInt8) : Bool := isBlk b || (decide (32 ≤ b.toNat) && decide (b.toNat ≤ 126))
def isNam (b : UInt8) : Bool := isLet b || isDig b

/-- Over blanks and notes: how many bytes, and whether the one behind them cannot stand. -/
def skipL : Bool → List UInt8 → Nat × Bool
  | _, [] => (0, false)
  | note, b :: r =>
    if canBe b = false then (0, true)
    else if note = true then ((skipL (decide (b.toNat ≠ 10)) r).1 + 1, (skipL (decide (b.toNat ≠ 10)) r).2)
    else if isBlk b = true then ((skipL false r).1 + 1, (skipL false r).2)
    else if b.toNat = 47 ∧ (r.head?.map UInt8.toNat) = some 47 then ((skipL true r).1 + 1, (skipL true r).2)
    else (0, false)

/-- The words. -/
def wordsL : List (List UInt8) := [[105, 110, 116], [108, 111, 99, 107], [117, 110, 108, 111, 99, 107], [116, 104, 114, 101, 97, 100], [105, 102], [101, 108, 115, 101], [119, 104, 105, 108, 101], [112, 114, 105, 110, 116], [102, 101, 110, 99, 101], [99, 97, 115]]
def isWord (l : List UInt8) : Bool := decide (l ∈ wordsL)
/-- A name's kind. -/
def kindW (l : List UInt8) : Int := if isWord l = true then 2 else 1
/-- The signs of two bytes, and those of one. -/
def twoL : List (List UInt8) := [[60, 61], [62, 61], [61, 61], [33, 61], [38, 38], [124, 124]]
def oneS : List UInt8 := [43, 45, 42, 60, 62, 33, 40, 41, 123, 125, 59, 44, 61]
/-- How long the sign at the first byte is; 0: there is none. -/
def signN (l : List UInt8) : Nat :=
  if l.take 2 ∈ twoL then 2 else match l with
    | [] => 0
    | b :: _ => if b ∈ oneS then 1 else 0

/-- The token at the first byte: its kind, its number, its length. -/
def oneL : List UInt8 → Option (Int × Int × Nat)
  | [] => none
  | b :: r =>
    if isLet b = true then
      (if 12 < 1 + (r.takeWhile isNam).length then none
        else some (kindW (b :: r.takeWhile isNam), 0, 1 + (r.takeWhile isNam).length))
    else if isDig b = true then
      (if 9 < 1 + (r.takeWhile isDig).length ∨ (1 < 1 + (r.takeWhile isDig).length ∧ b.toNat = 48) then none
        else some (3, (mag (b :: r.takeWhile isDig) : Int), 1 + (r.takeWhile isDig).length))
    else if signN (b :: r) = 0 then none else some (4, 0, signN (b :: r))

/-- A token: its kind, its number, its first byte, its text. -/
structure Tok where
  kind : Int
  num : Int
  pos : Int
  text : List UInt8

/-- H1 to H3, from byte i on: what is behind it, what is found already. -/
def scanF : Nat → Nat → List UInt8 → List Tok → List Tok × (Int × Int)
  | 0, _, _, acc => (acc, 0, 0)
  | f + 1, i, l, acc =>
    if (skipL false l).2 = true then ([], 4, ((i + (skipL false l).1 : Nat) : Int))
    else if l.drop (skipL false l).1 = [] then (acc, 0, 0)
    else match oneL (l.drop (skipL false l).1) with
      | none => ([], 5, ((i + (skipL false l).1 : Nat) : Int))
      | some (k, v, m) => scanF f (i + (skipL false l).1 + m) ((l.drop (skipL false l).1).drop m) (acc ++ [⟨k, v, ((i + (skipL false l).1 : Nat) : Int), (l.drop (skipL false l).1).take m⟩])

/-- H1 to H3: a text's tokens, the first fault's code and byte. -/
def scanL (l : List UInt8) : List Tok × (Int × Int) := if 4000 < l.length then ([], 1, 0) else scanF (l.length + 1) 0 l []

theorem skipL_le : ∀ (l : List UInt8) (n : Bool), (skipL n l).1 ≤ l.length
  | [], _ => Nat.le_refl _
  | b :: r, n => by
    unfold skipL
    split
    · simp
    · split
      · have := skipL_le r (decide (b.toNat ≠ 10)); simpa using this
      · split
        · have := skipL_le r false; simpa using this
        · split
          · have := skipL_le r true; simpa using this
          · simp
theorem word_len {l : List UInt8} (h : isWord l = true) : l.length ≤ 6 := by
  simp only [isWord, decide_eq_true_eq, wordsL, List.mem_cons, List.not_mem_nil, or_false] at h
  rcases h with rfl | rfl | rfl | rfl | rfl | rfl | rfl | rfl | rfl | rfl <;> decide
theorem signN_le (l : List UInt8) : signN l ≤ l.length := by
  unfold signN
  split
  · rename_i h
    match l, h with
    | [], h => simp [twoL] at h
    | [a], h => simp [twoL] at h
    | a :: b :: r, _ => simp
  · match l with
    | [] => simp
    | a :: r => show (if a ∈ oneS then 1 else 0) ≤ _; split <;> simp
theorem takeWhile_le (p : UInt8 → Bool) (l : List UInt8) : (l.takeWhile p).length ≤ l.length := by
  have := congrArg List.length (List.takeWhile_append_dropWhile (p := p) (l := l))
  simp only [List.length_append] at this
  omega
theorem takeWhile_take (p : UInt8 → Bool) : ∀ l : List UInt8, l.take (l.takeWhile p).length = l.takeWhile p
  | [] => rfl
  | b :: r => by
    by_cases h : p b = true
    · simp [List.takeWhile_cons_of_pos h, takeWhile_take p r]
    · simp [List.takeWhile_cons_of_neg h]
theorem oneL_len {l : List UInt8} {k v : Int} {m : Nat} (h : oneL l = some (k, v, m)) : 1 ≤ m ∧ m ≤ l.length := by
  match l, h with
  | b :: r, h =>
    have h1 := takeWhile_le isNam r
    have h2 := takeWhile_le isDig r
    have h3 := signN_le (b :: r)
    simp only [List.length_cons] at h3 ⊢
    simp only [oneL] at h
    split at h
    · split at h
      · cases h
      · simp only [Option.some.injEq, Prod.mk.injEq] at h; omega
    · split at h
      · split at h
        · cases h
        · simp only [Option.some.injEq, Prod.mk.injEq] at h; omega
      · split at h
        · cases h
        · simp only [Option.some.injEq, Prod.mk.injEq] at h; omega

end Go.Proofs.YtmodiekhiebjoadDoor
