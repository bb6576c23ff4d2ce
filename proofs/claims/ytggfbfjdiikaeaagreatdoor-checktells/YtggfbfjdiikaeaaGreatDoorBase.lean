/-
  What every text leans on: what lies in memory, rows that the call owns, an append to one of them.
  Numbers in decimal, as chapter 1 has them: one digit to nineteen, no nought ahead of others, a minus ahead but not of 0, within 64 bits.
  Chapter 8 as plain functions of bytes: which can stand, what parts tokens, a token, all of a text's.
  Numbers' digits: what they tell, and back.
  The document's small functions of chapter 8, of bytes and of words; and the program's.
  The document's way over blanks and notes.
  The program's scanner in memory; whether the byte that is next can stand.
-/
import Derived.Test.YtggfbfjdiikaeaaGreatDoorRows
import Derived.WalkKit
import Derived.WalkSpells
import Derived.WalkLawsBesides
import Derived.Lib.Strings
import Derived.Deep.AppendLies
import Derived.StillTailTactics
import Derived.Lib.AtoiAllCases
import Derived.Lib.ItoaNum
import Derived.Deep.QuietTactic
import Derived.BigQuiet
namespace Go.Proofs.YtggfbfjdiikaeaaGreatDoor
section
open Go.RowKit

theorem ret_int {k : IntKind} {a b : Int} (h : a = b) : Ending.returned (.int k a) = .returned (.int k b) := by rw [h]
theorem ret_bool {a b : Bool} (h : a = b) : Ending.returned (.bool a) = .returned (.bool b) := by rw [h]
theorem lt_of_cell {w : World} {a : Addr} {v : Value} (h : w.cell? a = some v) : a.block < w.heap.size := by
  rcases Nat.lt_or_ge a.block w.heap.size with h1 | h1
  · exact h1
  · unfold World.cell? at h
    rw [Array.getElem?_eq_none h1] at h; cases h
theorem str_of {nm : ByteArray} {l : List UInt8} (h : nm.data.toList = l) : nm = ⟨⟨l⟩⟩ := ByteArray.ext (Array.toList_inj.mp (by simpa using h))
theorem ne_str {a b : ByteArray} (h : ¬ a.data.toList = b.data.toList) : (a.toList == b.toList) = false := by
  rw [Lib.toList_data, Lib.toList_data]
  simpa using h
/-- What lies in memory lies there when more is made. -/
theorem cell_up {w : World} {a : Addr} {v : Value} (h : w.cell? a = some v) (o : Obj) : (w.alloc o).cell? a = some v := (World.cell?_alloc_lt _ _ _ (lt_of_cell h)).trans h
theorem cell_drw {w : World} {a : Addr} {v : Value} (h : w.cell? a = some v) : w.drew.cell? a = some v := h
theorem box_cell {w : World} {g i : Nat} {cs : Array Value} {t : TypeId} {u : Value} (h : w.heap[g]? = some (.cells cs t)) (hi : cs[i]? = some u) : w.cell? ⟨g, i, none⟩ = some u := by
  simp [World.cell?, h, hi]
theorem box_free {w : World} {g i : Nat} {cs : Array Value} {t : TypeId} (h : w.heap[g]? = some (.cells cs t)) : w.frozen? ⟨g, i, none⟩ = false := by
  simp [World.frozen?, h]
theorem box_later {w : World} {g : Nat} {o : Obj} (h : w.heap[g]? = some o) (p : Obj) : (w.alloc p).heap[g]? = some o := by
  have hl : g < w.heap.size := by
    rcases Nat.lt_or_ge g w.heap.size with h1 | h1
    · exact h1
    · rw [Array.getElem?_eq_none h1] at h; cases h
  exact (((Below.refl w.heap.size w).alloc (Nat.le_refl _) p).block _ hl).trans h
theorem below_drewN {B : Nat} {a w : World} (h : Below B a w) {k : Nat} : Below B a (w.drewN k) := ⟨h.os, h.tape, h.output, h.size, h.block⟩
theorem fam_keeps {w w' : World} {B : Nat} {e : TypeId} {size : Nat} {v : Value} {n : Nat} {xs : List Value} (h : w.ownsRow B e size v n xs) (hb : ∀ g, v.ownBlock = some g → w'.heap[g]? = w.heap[g]?) : w'.ownsRow B e size v n xs := by
  refine ⟨h.1, ?_⟩
  rcases h.2 with h0 | ⟨g, cap, cur, hv, hg, hh, r⟩
  · exact Or.inl h0
  · exact Or.inr ⟨g, cap, cur, hv, hg, by rw [hb g (by rw [hv]; rfl)]; exact hh, r⟩
theorem owns_below2 {w w' : World} {base : Nat} {e : TypeId} {size : Nat} {v : Value} {n : Nat} {xs : List Value} (h : w.ownsRow base e size v n xs) (hb : Below w.heap.size w w') : w'.ownsRow base e size v n xs := by
  refine ⟨h.1, ?_⟩
  rcases h.2 with h0 | ⟨g, cap, cur, hv, hg, hh, r⟩
  · exact Or.inl h0
  · have hlt : g < w.heap.size := by
      rcases Nat.lt_or_ge g w.heap.size with h1 | h1
      · exact h1
      · rw [Array.getElem?_eq_none h1] at hh; cases hh
    exact Or.inr ⟨g, cap, cur, hv, hg, by rw [hb.block g hlt]; exact hh, r⟩
theorem own_low {w : World} {B B' : Nat} {e : TypeId} {size : Nat} {v : Value} {n : Nat} {xs : List Value} (h : w.ownsRow B e size v n xs) (hB : B' ≤ B) : w.ownsRow B' e size v n xs := by
  refine ⟨h.1, ?_⟩
  rcases h.2 with h0 | ⟨g, cap, cur, hv, hg, r⟩
  · exact Or.inl h0
  · exact Or.inr ⟨g, cap, cur, hv, Nat.le_trans hB hg, r⟩
theorem owns_slice {w : World} {B : Nat} {e : TypeId} {size : Nat} {v : Value} {n : Nat} {xs : List Value} (h : w.ownsRow B e size v n xs) : ∃ a c, v = .slice a n c := by
  rcases h.2 with ⟨h0, h1⟩ | ⟨g, cp, cur, hv, _⟩
  · exact ⟨none, 0, by rw [h0, h1]⟩
  · exact ⟨_, _, hv⟩
/-- An append's run, kept whole. -/
def AppS (ts : Array TypeId) (ty : TypeId) (args : Array Value) : Sem Value := Builtin.append_ ts ty args
theorem appS_eq (ts : Array TypeId) (ty : TypeId) (args : Array Value) : Builtin.append_ ts ty args = AppS ts ty args := rfl
theorem info_is {e : TypeId} {z : Value} {size bytes : Nat} (h : (Tryz.prog.info? e).map (fun i => (i.zero, i.size, i.bytes)) = some (some z, size, bytes)) : ∃ i, Tryz.prog.info? e = some i ∧ i.zero = some z ∧ i.size = size ∧ i.bytes = bytes := by
  cases hi : Tryz.prog.info? e with
  | none => rw [hi] at h; simp at h
  | some i => rw [hi] at h; simp at h; exact ⟨i, rfl, h.1, h.2.1, h.2.2⟩
/-- An append to a row of one's own of what has just been laid: its run. -/
theorem app_row {T e : TypeId} {z : Value} {size bytes : Nat} (ht : Tryz.prog.underlying T = some (.slice e)) (hinfo : (Tryz.prog.info? e).map (fun i => (i.zero, i.size, i.bytes)) = some (some z, size, bytes)) (hzs : z.cells.size = size) (hsz : 0 < size)
    {w W : World} {B : Nat} {v : Value} {n : Nat} {xs : List Value} (hown : w.ownsRow B e size v n xs) (hb : Below w.heap.size w W) (hB : B ≤ w.heap.size) (m : Nat) (news : Array Value) (hl : news.size = m * size) (h1 : ∀ u ∈ news.toList, u.oneCell' = true) (hm : 0 < m) (h63 : n + m ≤ 1000000) (hby : bytes ≤ 1000) :
    ∃ g cap w3, (AppS #[T, T] T #[v, .slice (some ⟨W.heap.size, 0, none⟩) m m]).run Tryz.prog (W.alloc (.cells news e)) = .ok (.slice (some ⟨g, 0, none⟩) (n + m) cap) w3 ∧ w3.ownsRow B e size (.slice (some ⟨g, 0, none⟩) (n + m) cap) (n + m) (xs ++ news.toList) ∧ (W.alloc (.cells news e)).grownBy w3 v.ownBlock ∧ (v.ownBlock = some g ∨ g = W.heap.size + 1) := by
  obtain ⟨i, hi, hz0, hz1, hz2⟩ := info_is hinfo
  have hown' : (W.alloc (.cells news e)).ownsRow B e size v n xs := (fam_keeps hown (fun g hg => hb.block g (hown.lt g hg).2)).alloc _
  have hbs := hb.size
  obtain ⟨g, cap, w3, r1, r2, r3, r4, _⟩ := run_append_lies (P := Tryz.prog) (W.alloc (.cells news e)) T T B e i z size bytes ht hi hz0 hz1 hz2 hzs hsz v n xs hown' ⟨W.heap.size, 0, none⟩ m m news.toList (by simpa using hl) (World.news_of_block (cs := news) (t := e) (fr := (0, 0)) (heap_alloc_new W _)) h1 hm (by unfold maxLen; omega) (by
    have : (n + m) * bytes ≤ 1000000 * 1000 := Nat.mul_le_mul h63 hby
    omega) (by simp; omega) (W.heap.size + 1) (by simp)
  exact ⟨g, cap, w3, r1, r2, r3, r4⟩
/-- A region that draws its order, of operations that only read, and at its end some that wait for all of them. -/
theorem region_tail {P : Program} {id : Nat} {Q : Exit → Act → World → Prop} {a : Act} {w : World} {l : List Oper} (n : Nat) (hm : P.follows .mixedOrders = true) (hB : Region.lexTailB .any l.toArray n = true)
    (h : wpStill P l.toArray w.drew (fun a' => wpList P l.toArray Q (l.drop n) a' w.drew) (l.take n) a) : (Code.region id l.toArray true).wp P Q a w := wp_region_still_tail n hm hB h
end

section
def isDig (c : UInt8) : Bool := decide (48 ≤ c.toNat) && decide (c.toNat ≤ 57)
/-- The number that digits tell. -/
def mag (l : List UInt8) : Nat := l.foldl (fun a c => a * 10 + (c.toNat - 48)) 0
def isNeg (l : List UInt8) : Bool := l.head? == some 45
def digs (l : List UInt8) : List UInt8 := if isNeg l then l.tail else l
def formed (l : List UInt8) : Bool := l.all isDig && decide (1 ≤ l.length) && decide (l.length ≤ 19)
theorem mag_snoc (l : List UInt8) (c : UInt8) : mag (l ++ [c]) = mag l * 10 + (c.toNat - 48) := by
  simp [mag]
def magFrom (a : Nat) (l : List UInt8) : Nat := l.foldl (fun a c => a * 10 + (c.toNat - 48)) a
theorem magFrom_lt : ∀ (l : List UInt8) (a : Nat), l.all isDig = true → magFrom a l < (a + 1) * 10 ^ l.length
  | [], a, _ => by simp [magFrom]
  | c :: r, a, h => by
    simp only [List.all_cons, Bool.and_eq_true] at h
    have h2 : c.toNat ≤ 57 := by have := h.1; simp [isDig] at this; omega
    have h3 := magFrom_lt r (a * 10 + (c.toNat - 48)) h.2
    have h4 : (a * 10 + (c.toNat - 48) + 1) * 10 ^ r.length ≤ (a + 1) * 10 * 10 ^ r.length := Nat.mul_le_mul_right _ (by omega)
    simp only [List.length_cons, Nat.pow_succ]
    calc magFrom a (c :: r) = magFrom (a * 10 + (c.toNat - 48)) r := rfl
      _ < (a * 10 + (c.toNat - 48) + 1) * 10 ^ r.length := h3
      _ ≤ (a + 1) * 10 * 10 ^ r.length := h4
      _ = (a + 1) * (10 ^ r.length * 10) := by rw [Nat.mul_assoc, Nat.mul_comm 10]
theorem parseUint10_mag : ∀ (l : List UInt8) (a : Nat), l.all isDig = true → (a + 1) * 10 ^ l.length ≤ 10000000000000000000 → Lib.parseUint10 a l = .ok (magFrom a l)
  | [], a, _, _ => rfl
  | c :: r, a, h, hb => by
    simp only [List.all_cons, Bool.and_eq_true] at h
    have hc : 48 ≤ c.toNat ∧ c.toNat ≤ 57 := by have := h.1; simp [isDig] at this; omega
    simp only [List.length_cons, Nat.pow_succ] at hb
    have hp : 1 ≤ 10 ^ r.length := Nat.pow_pos (by omega)
    have h4 : (a * 10 + (c.toNat - 48) + 1) * 10 ^ r.length ≤ (a + 1) * 10 * 10 ^ r.length := Nat.mul_le_mul_right _ (by omega)
    have h5 : (a + 1) * (10 ^ r.length * 10) = (a + 1) * 10 * 10 ^ r.length := by rw [Nat.mul_assoc, Nat.mul_comm 10]
    have h6 : a * 10 + (c.toNat - 48) + 1 ≤ (a * 10 + (c.toNat - 48) + 1) * 10 ^ r.length := Nat.le_mul_of_pos_right _ hp
    rw [Lib.parseUint10, if_pos hc, if_neg (by omega), if_neg (by omega)]
    exact parseUint10_mag r _ h.2 (by omega)

theorem parseMag_mag {l : List UInt8} (h : formed l = true) : Lib.parseMag l = .ok (mag l) := by
  simp only [formed, Bool.and_eq_true, decide_eq_true_eq] at h
  have h2 : 10 ^ l.length ≤ 10 ^ 19 := Nat.pow_le_pow_right (by omega) h.2
  unfold Lib.parseMag
  rw [if_neg (by intro e; rw [e] at h; simp at h)]
  exact parseUint10_mag l 0 h.1.1 (by omega)

theorem atoi_pos {l : List UInt8} (hn : isNeg l = false) (h : formed (digs l) = true) : Lib.atoiAll l = if mag (digs l) ≤ 9223372036854775807 then .ok (mag (digs l) : Int) else .range := by
  have hd : digs l = l := by simp [digs, hn]
  rw [hd] at h ⊢
  match l, h with
  | [], h => simp [formed] at h
  | c :: r, h =>
    have hc : 48 ≤ c.toNat := by have := h; simp [formed, isDig] at this; omega
    rw [Lib.atoiAll_plain c r (by omega) (by omega), parseMag_mag h]
    simp only [Lib.signless]
    split <;> split <;> first | rfl | omega
end

section
def isLet (b : UInt8) : Bool := (decide (97 ≤ b.toNat) && decide (b.toNat ≤ 122)) || decide (b.toNat = 95)
def isBlk (b : UInt8) : Bool := decide (b.toNat = 32) || decide (b.toNat = 9) || decide (b.toNat = 13) || decide (b.toNat = 10)
def canBe (b : UInt8) : Bool := isBlk b || (decide (32 ≤ b.toNat) && decide (b.toNat ≤ 126))
def isNam (b : UInt8) : Bool := isLet b || isDig b

/-- Over blanks and notes: how many bytes, and whether the one behind them cannot stand. -/
def skipL : Bool → List UInt8 → Nat × Bool
  | _, [] => (0, false)
  | note, b :: r =>
    if canBe b = false then (0, true)
    else if note = true then ((skipL (decide (b.toNat ≠ 10)) r).1 + 1, (skipL (decide (b.toNat ≠ 10)) r).2)
    else if isBlk b = true then ((skipL false r).1 + 1, (skipL false r).2)
    else if b.toNat = 47 ∧ (r.head?.map UInt8.toNat) = some 47 then ((skipL true r).1 + 1, (skipL true r).2)
    else (0, false)

/-- The words. -/
def wordsL : List (List UInt8) := [[105, 110, 116], [108, 111, 99, 107], [117, 110, 108, 111, 99, 107], [116, 104, 114, 101, 97, 100], [105, 102], [101, 108, 115, 101], [119, 104, 105, 108, 101], [112, 114, 105, 110, 116], [102, 101, 110, 99, 101], [99, 97, 115]]
def isWord (l : List UInt8) : Bool := decide (l ∈ wordsL)
/-- A name's kind. -/
def kindW (l : List UInt8) : Int := if isWord l = true then 2 else 1
/-- The signs of two bytes, and those of one. -/
def twoL : List (List UInt8) := [[60, 61], [62, 61], [61, 61], [33, 61], [38, 38], [124, 124]]
def oneS : List UInt8 := [43, 45, 42, 60, 62, 33, 40, 41, 123, 125, 59, 44, 61]
/-- How long the sign at the first byte is; 0: there is none. -/
def signN (l : List UInt8) : Nat :=
  if l.take 2 ∈ twoL then 2 else match l with
    | [] => 0
    | b :: _ => if b ∈ oneS then 1 else 0

/-- The token at the first byte: its kind, its number, its length. -/
def oneL : List UInt8 → Option (Int × Int × Nat)
  | [] => none
  | b :: r =>
    if isLet b = true then
      (if 12 < 1 + (r.takeWhile isNam).length then none
        else some (kindW (b :: r.takeWhile isNam), 0, 1 + (r.takeWhile isNam).length))
    else if isDig b = true then
      (if 9 < 1 + (r.takeWhile isDig).length ∨ (1 < 1 + (r.takeWhile isDig).length ∧ b.toNat = 48) then none
        else some (3, (mag (b :: r.takeWhile isDig) : Int), 1 + (r.takeWhile isDig).length))
    else if signN (b :: r) = 0 then none else some (4, 0, signN (b :: r))

/-- A token: its kind, its number, its first byte, its text. -/
structure Tok where
  kind : Int
  num : Int
  pos : Int
  text : List UInt8

/-- H1 to H3, from byte i on: what is behind it, what is found already. -/
def scanF : Nat → Nat → List UInt8 → List Tok → List Tok × (Int × Int)
  | 0, _, _, acc => (acc, 0, 0)
  | f + 1, i, l, acc =>
    if (skipL false l).2 = true then ([], 4, ((i + (skipL false l).1 : Nat) : Int))
    else if l.drop (skipL false l).1 = [] then (acc, 0, 0)
    else match oneL (l.drop (skipL false l).1) with
      | none => ([], 5, ((i + (skipL false l).1 : Nat) : Int))
      | some (k, v, m) => scanF f (i + (skipL false l).1 + m) ((l.drop (skipL false l).1).drop m) (acc ++ [⟨k, v, ((i + (skipL false l).1 : Nat) : Int), (l.drop (skipL false l).1).take m⟩])

/-- H1 to H3: a text's tokens, the first fault's code and byte. -/
def scanL (l : List UInt8) : List Tok × (Int × Int) := if 4000 < l.length then ([], 1, 0) else scanF (l.length + 1) 0 l []

theorem skipL_le : ∀ (l : List UInt8) (n : Bool), (skipL n l).1 ≤ l.length
  | [], _ => Nat.le_refl _
  | b :: r, n => by
    unfold skipL
    split
    · simp
    · split
      · have := skipL_le r (decide (b.toNat ≠ 10)); simpa using this
      · split
        · have := skipL_le r false; simpa using this
        · split
          · have := skipL_le r true; simpa using this
          · simp
theorem word_len {l : List UInt8} (h : isWord l = true) : l.length ≤ 6 := by
  simp only [isWord, decide_eq_true_eq, wordsL, List.mem_cons, List.not_mem_nil, or_false] at h
  rcases h with rfl | rfl | rfl | rfl | rfl | rfl | rfl | rfl | rfl | rfl <;> decide
theorem signN_le (l : List UInt8) : signN l ≤ l.length := by
  unfold signN
  split
  · rename_i h
    match l, h with
    | [], h => simp [twoL] at h
    | [a], h => simp [twoL] at h
    | a :: b :: r, _ => simp
  · match l with
    | [] => simp
    | a :: r => show (if a ∈ oneS then 1 else 0) ≤ _; split <;> simp
theorem takeWhile_le (p : UInt8 → Bool) (l : List UInt8) : (l.takeWhile p).length ≤ l.length := by
  have := congrArg List.length (List.takeWhile_append_dropWhile (p := p) (l := l))
  simp only [List.length_append] at this
  omega
theorem takeWhile_take (p : UInt8 → Bool) : ∀ l : List UInt8, l.take (l.takeWhile p).length = l.takeWhile p
  | [] => rfl
  | b :: r => by
    by_cases h : p b = true
    · simp [List.takeWhile_cons_of_pos h, takeWhile_take p r]
    · simp [List.takeWhile_cons_of_neg h]
theorem oneL_len {l : List UInt8} {k v : Int} {m : Nat} (h : oneL l = some (k, v, m)) : 1 ≤ m ∧ m ≤ l.length := by
  match l, h with
  | b :: r, h =>
    have h1 := takeWhile_le isNam r
    have h2 := takeWhile_le isDig r
    have h3 := signN_le (b :: r)
    simp only [List.length_cons] at h3 ⊢
    simp only [oneL] at h
    split at h
    · split at h
      · cases h
      · simp only [Option.some.injEq, Prod.mk.injEq] at h; omega
    · split at h
      · split at h
        · cases h
        · simp only [Option.some.injEq, Prod.mk.injEq] at h; omega
      · split at h
        · cases h
        · simp only [Option.some.injEq, Prod.mk.injEq] at h; omega
end

section
/-- Digits that tell a number are that number's digits. -/
theorem mag_pos : ∀ (l : List UInt8) (a : Nat), 1 ≤ a → 1 ≤ magFrom a l
  | [], a, h => h
  | c :: r, a, h => mag_pos r (a * 10 + (c.toNat - 48)) (by omega)
theorem mag_head {c : UInt8} {r : List UInt8} (hc : isDig c = true) (h : c ≠ 48) : 1 ≤ mag (c :: r) := by
  have h1 : 48 ≤ c.toNat ∧ c.toNat ≤ 57 := by simp [isDig] at hc; exact hc
  have h2 : c.toNat ≠ 48 := fun e => h (UInt8.toNat_inj.1 (by simpa using e))
  exact mag_pos r (0 * 10 + (c.toNat - 48)) (by omega)
theorem dec_mag (n : Nat) : ∀ l : List UInt8, l.length = n → l.all isDig = true → l ≠ [] → (l.head? = some 48 → l = [48]) → Lib.decDigits (mag l) = l := by
  induction n with
  | zero => intro l hl _ hne _; exact absurd (List.eq_nil_of_length_eq_zero hl) hne
  | succ n ih =>
    intro l hl hd hne h0
    obtain ⟨t, c, rfl⟩ : ∃ t c, l = t ++ [c] := ⟨l.dropLast, l.getLast hne, (List.dropLast_concat_getLast hne).symm⟩
    simp only [List.all_append, List.all_cons, List.all_nil, Bool.and_true, Bool.and_eq_true] at hd
    have hc : 48 ≤ c.toNat ∧ c.toNat ≤ 57 := by have := hd.2; simp [isDig] at this; exact this
    have ec : UInt8.ofNat (48 + (c.toNat - 48)) = c := by rw [show 48 + (c.toNat - 48) = c.toNat by omega]; exact UInt8.ofNat_toNat
    rw [mag_snoc, Lib.decDigits]
    cases t with
    | nil =>
      have e : mag [] = 0 := rfl
      rw [e, dif_pos (by omega)]
      simp [ec]
    | cons a r =>
      have ha : a ≠ 48 := fun e => by
        have := h0 (by simp [e])
        simp at this
      have hp := mag_head (r := r) (by have := hd.1; simp at this; exact this.1) ha
      rw [dif_neg (by omega), show (mag (a :: r) * 10 + (c.toNat - 48)) / 10 = mag (a :: r) by omega, show (mag (a :: r) * 10 + (c.toNat - 48)) % 10 = c.toNat - 48 by omega, ec]
      rw [ih (a :: r) (by simpa using hl) hd.1 (by simp) (fun e => absurd (by simpa using e) ha)]
theorem dec_zero : Lib.decDigits 0 = [48] := by rw [Lib.decDigits, dif_pos (by omega)]; rfl
theorem dec_digs : ∀ (n u : Nat), u ≤ n → (Lib.decDigits u).all isDig = true ∧ Lib.decDigits u ≠ [] ∧ mag (Lib.decDigits u) = u ∧ ((Lib.decDigits u).head? = some 48 → u = 0) := by
  intro n
  induction n with
  | zero =>
    intro u h
    obtain rfl : u = 0 := by omega
    rw [dec_zero]
    decide
  | succ n ih =>
    intro u h
    have hd : ∀ d : Nat, d < 10 → isDig (UInt8.ofNat (48 + d)) = true ∧ (UInt8.ofNat (48 + d)).toNat = 48 + d := by decide
    rw [Lib.decDigits]
    split
    · rename_i h1
      have h2 := hd u h1
      refine ⟨by simp only [List.all_cons, List.all_nil, Bool.and_true]; exact h2.1, by simp, ?_, ?_⟩
      · show 0 * 10 + ((UInt8.ofNat (48 + u)).toNat - 48) = u
        omega
      · intro e
        simp only [List.head?_cons, Option.some.injEq] at e
        have : (UInt8.ofNat (48 + u)).toNat = 48 := by rw [e]; rfl
        omega
    · rename_i h1
      obtain ⟨a1, a2, a3, a4⟩ := ih (u / 10) (by omega)
      have h2 := hd (u % 10) (by omega)
      refine ⟨by simp only [List.all_append, List.all_cons, List.all_nil, Bool.and_true, a1, h2.1], by simp, ?_, ?_⟩
      · rw [mag_snoc, a3, h2.2]; omega
      · intro e
        cases hc : Lib.decDigits (u / 10) with
        | nil => exact absurd hc a2
        | cons x r =>
          rw [hc] at e a4
          have := a4 (by simpa using e)
          omega
end

section
open Go.RowKit

theorem rlet_any (c : UInt8) (w : World) :
    Calls Tryz.prog 69 #[.int .u8 (c.toNat : Int)] w fun e w' => e = .returned (.bool (isLet c)) ∧ w' = w := by
  go_enter Tryz.func69, Tryz.ntmps69
  go_wp2
  all_goals go_ret
  all_goals refine ⟨ret_bool ?_, rfl⟩
  all_goals (rw [Bool.eq_iff_iff]; simp [isLet] <;> omega)
theorem rdig_any (c : UInt8) (w : World) :
    Calls Tryz.prog 70 #[.int .u8 (c.toNat : Int)] w fun e w' => e = .returned (.bool (isDig c)) ∧ w' = w := by
  go_enter Tryz.func70, Tryz.ntmps70
  go_wp2
  all_goals go_ret
  all_goals refine ⟨ret_bool ?_, rfl⟩
  all_goals (rw [Bool.eq_iff_iff]; simp [isDig] <;> omega)
theorem rblk_any (c : UInt8) (w : World) :
    Calls Tryz.prog 68 #[.int .u8 (c.toNat : Int)] w fun e w' => e = .returned (.bool (isBlk c)) ∧ w' = w := by
  go_enter Tryz.func68, Tryz.ntmps68
  go_wp2
  all_goals go_ret
  all_goals refine ⟨ret_bool ?_, rfl⟩
  all_goals (rw [Bool.eq_iff_iff]; simp [isBlk] <;> omega)
theorem rcan_any (c : UInt8) (w : World) :
    Calls Tryz.prog 67 #[.int .u8 (c.toNat : Int)] w fun e w' => e = .returned (.bool (canBe c)) ∧ w' = w := by
  cases hb : isBlk c
  all_goals
    go_enter Tryz.func67, Tryz.ntmps67
    go_wp2_with (first | (go_at_call 68; refine (rblk_any c _).mono ?_; rintro e w' ⟨rfl, rfl⟩; rw [hb]))
    all_goals go_ret
    all_goals refine ⟨ret_bool ?_, rfl⟩
    all_goals (rw [Bool.eq_iff_iff]; simp [canBe, hb] <;> omega)
theorem plet_any (c : UInt8) (w : World) :
    Calls Tryz.prog 105 #[.int .u8 (c.toNat : Int)] w fun e w' => e = .returned (.bool (isLet c)) ∧ w' = w := by
  go_enter Tryz.func105, Tryz.ntmps105
  go_wp2
  all_goals go_ret
  all_goals refine ⟨ret_bool ?_, rfl⟩
  all_goals (rw [Bool.eq_iff_iff]; simp [isLet] <;> omega)
theorem pdig_any (c : UInt8) (w : World) :
    Calls Tryz.prog 107 #[.int .u8 (c.toNat : Int)] w fun e w' => e = .returned (.bool (isDig c)) ∧ w' = w := by
  go_enter Tryz.func107, Tryz.ntmps107
  go_wp2
  all_goals go_ret
  all_goals refine ⟨ret_bool ?_, rfl⟩
  all_goals (rw [Bool.eq_iff_iff]; simp [isDig] <;> omega)
theorem pblk_any (c : UInt8) (w : World) :
    Calls Tryz.prog 101 #[.int .u8 (c.toNat : Int)] w fun e w' => e = .returned (.bool (isBlk c)) ∧ w' = w := by
  go_enter Tryz.func101, Tryz.ntmps101
  go_wp2
  all_goals go_ret
  all_goals refine ⟨ret_bool ?_, rfl⟩
  all_goals (rw [Bool.eq_iff_iff]; simp [isBlk] <;> omega)

/-- A text is one of the words, or none of them. -/
theorem word_cases (s : ByteArray) : isWord s.data.toList = false ∨ ∃ l ∈ wordsL, s = ⟨⟨l⟩⟩ := by
  by_cases h : s.data.toList ∈ wordsL
  · exact Or.inr ⟨_, h, str_of rfl⟩
  · exact Or.inl (by simp [isWord, h])
theorem word_ne {s : ByteArray} (h : isWord s.data.toList = false) {l : List UInt8} (hl : l ∈ wordsL) : (s.toList == l) = false := by
  rw [Lib.toList_data, beq_eq_false_iff_ne]
  intro e
  rw [e] at h
  simp [isWord, hl] at h

theorem rword_any (s : ByteArray) (w : World) :
    Calls Tryz.prog 71 #[.string s] w fun e w' => e = .returned (.bool (isWord s.data.toList)) ∧ w' = w := by
  rcases word_cases s with h | ⟨l, hl, rfl⟩
  · have h1 := word_ne h (l := [105, 110, 116]) (by simp [wordsL])
    have h2 := word_ne h (l := [108, 111, 99, 107]) (by simp [wordsL])
    have h3 := word_ne h (l := [117, 110, 108, 111, 99, 107]) (by simp [wordsL])
    have h4 := word_ne h (l := [116, 104, 114, 101, 97, 100]) (by simp [wordsL])
    have h5 := word_ne h (l := [105, 102]) (by simp [wordsL])
    have h6 := word_ne h (l := [101, 108, 115, 101]) (by simp [wordsL])
    have h7 := word_ne h (l := [119, 104, 105, 108, 101]) (by simp [wordsL])
    have h8 := word_ne h (l := [112, 114, 105, 110, 116]) (by simp [wordsL])
    have h9 := word_ne h (l := [102, 101, 110, 99, 101]) (by simp [wordsL])
    have h10 := word_ne h (l := [99, 97, 115]) (by simp [wordsL])
    go_enter Tryz.func71, Tryz.ntmps71
    go_wp2
    go_ret
    exact ⟨ret_bool h.symm, rfl⟩
  · simp only [wordsL, List.mem_cons, List.not_mem_nil, or_false] at hl
    rcases hl with rfl | rfl | rfl | rfl | rfl | rfl | rfl | rfl | rfl | rfl
    all_goals
      go_enter Tryz.func71, Tryz.ntmps71
      go_wp2
      go_ret
      exact ⟨rfl, rfl⟩
theorem pkind_any (s : ByteArray) (w : World) :
    Calls Tryz.prog 134 #[.string s] w fun e w' => e = .returned (.int .i64 (kindW s.data.toList)) ∧ w' = w := by
  rcases word_cases s with h | ⟨l, hl, rfl⟩
  · have h1 := word_ne h (l := [105, 110, 116]) (by simp [wordsL])
    have h2 := word_ne h (l := [108, 111, 99, 107]) (by simp [wordsL])
    have h3 := word_ne h (l := [117, 110, 108, 111, 99, 107]) (by simp [wordsL])
    have h4 := word_ne h (l := [116, 104, 114, 101, 97, 100]) (by simp [wordsL])
    have h5 := word_ne h (l := [105, 102]) (by simp [wordsL])
    have h6 := word_ne h (l := [101, 108, 115, 101]) (by simp [wordsL])
    have h7 := word_ne h (l := [119, 104, 105, 108, 101]) (by simp [wordsL])
    have h8 := word_ne h (l := [112, 114, 105, 110, 116]) (by simp [wordsL])
    have h9 := word_ne h (l := [102, 101, 110, 99, 101]) (by simp [wordsL])
    have h10 := word_ne h (l := [99, 97, 115]) (by simp [wordsL])
    go_enter Tryz.func134, Tryz.ntmps134
    go_wp2
    go_ret
    exact ⟨ret_int (by rw [kindW, h]; rfl), rfl⟩
  · simp only [wordsL, List.mem_cons, List.not_mem_nil, or_false] at hl
    rcases hl with rfl | rfl | rfl | rfl | rfl | rfl | rfl | rfl | rfl | rfl
    all_goals
      go_enter Tryz.func134, Tryz.ntmps134
      go_wp2
      go_ret
      exact ⟨rfl, rfl⟩
end

section
open Go.RowKit

theorem drop_at (s : ByteArray) (k : Nat) (h : k < s.size) : s.data.toList.drop k = s[k] :: s.data.toList.drop (k + 1) := by
  rw [List.drop_eq_getElem_cons (by simpa using h)]; rfl
theorem drop_over (s : ByteArray) (k : Nat) (h : s.size ≤ k) : s.data.toList.drop k = [] := List.drop_of_length_le (by simpa using h)

/-- Over blanks and notes, from byte k on: the place, and whether a byte there cannot stand. -/
def skAt (s : ByteArray) (note : Bool) (k : Nat) : Nat × Bool := (k + (skipL note (s.data.toList.drop k)).1, (skipL note (s.data.toList.drop k)).2)

section
variable {s : ByteArray} {k : Nat}
theorem skAt_end (n : Bool) (h : s.size ≤ k) : skAt s n k = (k, false) := by
  rw [skAt, drop_over s k h]; rfl
theorem skAt_bad (n : Bool) (h : k < s.size) (hc : canBe s[k] = false) : skAt s n k = (k, true) := by
  rw [skAt, drop_at s k h, skipL, if_pos hc]; rfl
theorem skAt_note (h : k < s.size) (hc : canBe s[k] = true) : skAt s true k = skAt s (decide (s[k].toNat ≠ 10)) (k + 1) := by
  rw [skAt, drop_at s k h, skipL, if_neg (by simp [hc]), if_pos rfl, skAt]
  simp only [Prod.mk.injEq, and_true]; omega
theorem skAt_blk (h : k < s.size) (hc : canBe s[k] = true) (hb : isBlk s[k] = true) : skAt s false k = skAt s false (k + 1) := by
  rw [skAt, drop_at s k h, skipL, if_neg (by simp [hc]), if_neg (by simp), if_pos hb, skAt]
  simp only [Prod.mk.injEq, and_true]; omega
theorem skAt_open (h : k + 1 < s.size) (hc : canBe s[k] = true) (hb : isBlk s[k] = false) (h1 : s[k].toNat = 47) (h2 : s[k + 1].toNat = 47) : skAt s false k = skAt s true (k + 1) := by
  rw [skAt, drop_at s k (by omega), skipL, if_neg (by simp [hc]), if_neg (by simp), if_neg (by simp [hb]), if_pos ⟨h1, by rw [drop_at s (k + 1) h]; simp [h2]⟩, skAt]
  simp only [Prod.mk.injEq, and_true]; omega
theorem skAt_stop (h : k < s.size) (hc : canBe s[k] = true) (hb : isBlk s[k] = false) (h1 : ¬ (s[k].toNat = 47 ∧ ∃ h : k + 1 < s.size, s[k + 1].toNat = 47)) : skAt s false k = (k, false) := by
  rw [skAt, drop_at s k h, skipL, if_neg (by simp [hc]), if_neg (by simp), if_neg (by simp [hb]), if_neg]
  · rfl
  · rintro ⟨e1, e2⟩
    rcases Nat.lt_or_ge (k + 1) s.size with h2 | h2
    · rw [drop_at s (k + 1) h2] at e2
      exact h1 ⟨e1, h2, by simpa using e2⟩
    · rw [drop_over s (k + 1) h2] at e2
      simp at e2
theorem skAt_le (n : Bool) (h : k ≤ s.size) : k ≤ (skAt s n k).1 ∧ (skAt s n k).1 ≤ s.size := by
  have := skipL_le (s.data.toList.drop k) n
  have hl : s.data.toList.length = s.size := by simp
  rw [List.length_drop, hl] at this
  simp only [skAt]; omega
end

set_option maxRecDepth 100000 in
set_option maxHeartbeats 1600000 in
theorem rskip_any (s : ByteArray) (hs : s.size ≤ 4000) (i : Nat) (hi : i ≤ s.size) (E : Nat) (B : Bool) (HE : Hid (skAt s false i = (E, B))) (w : World) :
    Calls Tryz.prog 49 #[.string s, .int .i64 (i : Int)] w fun e w' => e = .returned (.tuple #[.int .i64 (E : Int), .bool B]) ∧ w' = w := by
  go_enter Tryz.func49, Tryz.ntmps49
  go_wp2
  go_loop [1, 6] (fun i n => ∃ (k : Nat) (b : Bool), k ≤ s.size ∧ i = .int .i64 k ∧ n = .bool b ∧ Hid (skAt s b k = (E, B))) (fun i _ => s.size - (intOf i).toNat)
  case atStart => exact ⟨i, false, hi, rfl, rfl, HE⟩
  case round =>
    obtain ⟨k, b, hk, rfl, rfl, HK⟩ := hrel
    by_cases hlt : k < s.size
    · cases hc : canBe s[k] with
      | false =>
        have h1 := HK.out
        rw [skAt_bad b hlt hc] at h1
        simp only [Prod.mk.injEq] at h1
        obtain ⟨rfl, rfl⟩ := h1
        go_wp2_with (first | (go_at_call 67; refine (rcan_any s[k] _).mono ?_; rintro e w' ⟨rfl, rfl⟩; rw [hc]))
        go_ret2
        exact ⟨rfl, rfl⟩
      | true =>
        cases b with
        | true =>
          have HN : Hid (skAt s ((s[k].toNat : Int) != 10) (k + 1) = (E, B)) := by
            have h1 := HK.out
            rw [skAt_note hlt hc] at h1
            show _ = _
            rw [← h1]
            congr 1
            rw [Bool.eq_iff_iff]; simp; omega
          cases hb : isBlk s[k]
          all_goals
            go_wp2_with (first | (go_at_call 67; refine (rcan_any s[k] _).mono ?_; rintro e w' ⟨rfl, rfl⟩; rw [hc]) | (go_at_call 68; refine (rblk_any s[k] _).mono ?_; rintro e w' ⟨rfl, rfl⟩; rw [hb]))
            go_round
            case rel => exact ⟨k + 1, _, by omega, by go_num, rfl, HN⟩
            case measure => simp [intOf]; omega
        | false =>
          cases hb : isBlk s[k] with
          | true =>
            have HN : Hid (skAt s false (k + 1) = (E, B)) := (skAt_blk hlt hc hb).symm.trans HK.out
            go_wp2_with (first | (go_at_call 67; refine (rcan_any s[k] _).mono ?_; rintro e w' ⟨rfl, rfl⟩; rw [hc]) | (go_at_call 68; refine (rblk_any s[k] _).mono ?_; rintro e w' ⟨rfl, rfl⟩; rw [hb]))
            go_round
            case rel => exact ⟨k + 1, false, by omega, by go_num, rfl, HN⟩
            case measure => simp [intOf]; omega
          | false =>
            by_cases h47 : s[k].toNat = 47 ∧ ∃ h : k + 1 < s.size, s[k + 1].toNat = 47
            · obtain ⟨h1, h2, h3⟩ := h47
              have HN : Hid (skAt s true (k + 1) = (E, B)) := (skAt_open h2 hc hb h1 h3).symm.trans HK.out
              have e1 : ((s[k].toNat : Int) == 47) = true := by simp; omega
              have e2 : ((s[k + 1].toNat : Int) == 47) = true := by simp; omega
              have h2' : (k : Int) + 1 < (s.size : Int) := by omega
              clear h1 h3 HK HE
              go_wp2_with (first | (go_at_call 67; refine (rcan_any s[k] _).mono ?_; rintro e w' ⟨rfl, rfl⟩; rw [hc]) | (go_at_call 68; refine (rblk_any s[k] _).mono ?_; rintro e w' ⟨rfl, rfl⟩; rw [hb]))
              go_round
              case rel => exact ⟨k + 1, true, by omega, by go_num, rfl, HN⟩
              case measure => simp [intOf]; omega
            · have h1 := HK.out
              rw [skAt_stop hlt hc hb h47] at h1
              simp only [Prod.mk.injEq] at h1
              obtain ⟨rfl, rfl⟩ := h1
              by_cases h1 : k + 1 < s.size
              · by_cases h2 : s[k].toNat = 47
                · have e1 : ((s[k].toNat : Int) == 47) = true := by simp; omega
                  have e2 : ((s[k + 1].toNat : Int) == 47) = false := by
                    rw [beq_eq_false_iff_ne]
                    intro e
                    exact h47 ⟨h2, h1, by omega⟩
                  have h2' : (k : Int) + 1 < (s.size : Int) := by omega
                  clear h2 HK HE h47
                  go_wp2_with (first | (go_at_call 67; refine (rcan_any s[k] _).mono ?_; rintro e w' ⟨rfl, rfl⟩; rw [hc]) | (go_at_call 68; refine (rblk_any s[k] _).mono ?_; rintro e w' ⟨rfl, rfl⟩; rw [hb]))
                  go_ret2
                  exact ⟨rfl, rfl⟩
                · have e1 : ((s[k].toNat : Int) == 47) = false := by rw [beq_eq_false_iff_ne]; omega
                  have h2' : (k : Int) + 1 < (s.size : Int) := by omega
                  clear h2 HK HE h47
                  go_wp2_with (first | (go_at_call 67; refine (rcan_any s[k] _).mono ?_; rintro e w' ⟨rfl, rfl⟩; rw [hc]) | (go_at_call 68; refine (rblk_any s[k] _).mono ?_; rintro e w' ⟨rfl, rfl⟩; rw [hb]))
                  go_ret2
                  exact ⟨rfl, rfl⟩
              · have h2' : ¬ (k : Int) + 1 < (s.size : Int) := by omega
                clear HK HE h47
                go_wp2_with (first | (go_at_call 67; refine (rcan_any s[k] _).mono ?_; rintro e w' ⟨rfl, rfl⟩; rw [hc]) | (go_at_call 68; refine (rblk_any s[k] _).mono ?_; rintro e w' ⟨rfl, rfl⟩; rw [hb]))
                go_ret2
                exact ⟨rfl, rfl⟩
    · have h1 := HK.out
      rw [skAt_end b (by omega)] at h1
      simp only [Prod.mk.injEq] at h1
      obtain ⟨rfl, rfl⟩ := h1
      go_wp2
      go_ret2
      exact ⟨rfl, rfl⟩
end

section
open Go.RowKit

/-- A scanner: its text, the byte that is next. -/
def Sc (w : World) (sb : Nat) (s : ByteArray) (k : Nat) : Prop := w.heap[sb]? = some (.cells #[.string s, .int .i64 (k : Int)] 127)
section
variable {w w' : World} {sb : Nat} {s : ByteArray} {k : Nat}
theorem Sc.c0 (h : Sc w sb s k) : w.cell? ⟨sb, 0, none⟩ = some (.string s) := box_cell h rfl
theorem Sc.c1 (h : Sc w sb s k) : w.cell? ⟨sb, 1, none⟩ = some (.int .i64 (k : Int)) := box_cell h rfl
theorem Sc.fr (h : Sc w sb s k) (i : Nat) : w.frozen? ⟨sb, i, none⟩ = false := box_free h
theorem Sc.lt (h : Sc w sb s k) : sb < w.heap.size := by
  rcases Nat.lt_or_ge sb w.heap.size with h1 | h1
  · exact h1
  · unfold Sc at h
    rw [Array.getElem?_eq_none h1] at h; cases h
theorem Sc.below (h : Sc w sb s k) (hb : Below w.heap.size w w') : Sc w' sb s k := (hb.block _ h.lt).trans h
theorem Sc.set (h : Sc w sb s k) (j : Nat) : Sc (w.setCell ⟨sb, 1, none⟩ (.int .i64 (j : Int))) sb s j := by
  unfold Sc at h ⊢
  simp only [World.setCell, Array.getElem?_modify, if_true, h, Option.map_some]
  rfl
theorem grown_of_below (h : Below w.heap.size w w') (row : Option Nat) : w.grownBy w' row := ⟨h.os, h.tape, h.output, h.size, fun i hi _ => h.block i hi⟩
theorem grown_set (W : World) (b i : Nat) (v : Value) : W.grownBy (W.setCell ⟨b, i, none⟩ v) (some b) :=
  ⟨rfl, rfl, rfl, by simp [World.setCell], fun j _ hj => Below.heap_setCell _ _ _ _ (fun e => hj (by rw [e]))⟩
theorem grown_then {a b c : World} {row : Option Nat} (h : a.grownBy b row) (k : b.grownBy c row) : a.grownBy c row :=
  ⟨k.os.trans h.os, k.tape.trans h.tape, k.output.trans h.output, Nat.le_trans h.size k.size, fun i hi hr => (k.block i (Nat.lt_of_lt_of_le hi h.size) hr).trans (h.block i hi hr)⟩
end

/-- What is given up with. -/
def badB (k : Nat) : List PanicEntry := [{ v := .iface 124 (.int .i64 (k : Int)), recovered := false }]
def badT (k : Nat) : List PanicEntry := [{ v := .iface 125 (.int .i64 (k : Int)), recovered := false }]

set_option maxRecDepth 100000 in
set_option maxHeartbeats 1600000 in
theorem ask_yes (sb : Nat) (s : ByteArray) (k : Nat) (hk : k < s.size) (hc : canBe s[k] = true) (w : World) (h : Sc w sb s k) :
    Calls Tryz.prog 104 #[.pointer (some ⟨sb, 0, none⟩)] w fun e w' => e = .returned (.tuple #[]) ∧ ∃ m, w' = w.drewN m := by
  have h0 := h.c0
  have h1 := h.c1
  clear h
  cases hb : isBlk s[k] with
  | true =>
    go_enter Tryz.func104, Tryz.ntmps104
    go_wp2_with fail
    go_quiet (fail)
    go_wp2_with (first | (go_at_call 101; refine (pblk_any s[k] _).mono ?_; rintro e w' ⟨rfl, rfl⟩; rw [hb]))
    all_goals (go_end0; exact ⟨rfl, _, rfl⟩)
  | false =>
    have hd1 : 32 ≤ (s[k].toNat : Int) := by simp [canBe, hb] at hc; omega
    have hd2 : (s[k].toNat : Int) ≤ 126 := by simp [canBe, hb] at hc; omega
    go_enter Tryz.func104, Tryz.ntmps104
    go_wp2_with fail
    go_quiet (fail)
    go_wp2_with (first | (go_at_call 101; refine (pblk_any s[k] _).mono ?_; rintro e w' ⟨rfl, rfl⟩; rw [hb]))
    go_end0
    exact ⟨rfl, _, rfl⟩

set_option maxRecDepth 100000 in
set_option maxHeartbeats 1600000 in
theorem ask_no (sb : Nat) (s : ByteArray) (k : Nat) (hk : k < s.size) (hc : canBe s[k] = false) (w : World) (h : Sc w sb s k) :
    Calls Tryz.prog 104 #[.pointer (some ⟨sb, 0, none⟩)] w fun e w' => e = .panicked (badB k) ∧ Below w.heap.size w w' := by
  have h0 := h.c0
  have h1 := h.c1
  clear h
  have hb : isBlk s[k] = false := by
    cases hb : isBlk s[k] with
    | true => simp [canBe, hb] at hc
    | false => rfl
  by_cases hd : (s[k].toNat : Int) < 32
  · go_enter Tryz.func104, Tryz.ntmps104
    go_wp2_with fail
    go_quiet (fail)
    go_wp2_with (first | (go_at_call 101; refine (pblk_any s[k] _).mono ?_; rintro e w' ⟨rfl, rfl⟩; rw [hb]))
    exact ⟨rfl, rfl, below_drewN (Below.refl _ _)⟩
  · have hd2 : 126 < (s[k].toNat : Int) := by simp [canBe, hb] at hc; omega
    go_enter Tryz.func104, Tryz.ntmps104
    go_wp2_with fail
    go_quiet (fail)
    go_wp2_with (first | (go_at_call 101; refine (pblk_any s[k] _).mono ?_; rintro e w' ⟨rfl, rfl⟩; rw [hb]))
    exact ⟨rfl, rfl, below_drewN (Below.refl _ _)⟩
end

end Go.Proofs.YtggfbfjdiikaeaaGreatDoor
