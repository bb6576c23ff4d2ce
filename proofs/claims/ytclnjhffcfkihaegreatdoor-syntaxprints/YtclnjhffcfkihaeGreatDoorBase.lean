/-
  What every text leans on: what lies in memory, rows that the call owns, an append to one of them.
  Numbers in decimal, as chapter 1 has them: one digit to nineteen, no nought ahead of others, a minus ahead but not of 0, within 64 bits.
  Numbers' digits: what they tell, and back.
-/
import Derived.Test.YtclnjhffcfkihaeGreatDoorRows
import Derived.WalkKit
import Derived.WalkSpells
import Derived.WalkLawsBesides
import Derived.Lib.Strings
import Derived.Deep.AppendLies
import Derived.StillTailTactics
import Derived.Lib.AtoiAllCases
import Derived.Lib.ItoaNum
namespace Go.Proofs.YtclnjhffcfkihaeGreatDoor
section
open Go.RowKit

theorem ret_int {k : IntKind} {a b : Int} (h : a = b) : Ending.returned (.int k a) = .returned (.int k b) := by rw [h]
theorem ret_bool {a b : Bool} (h : a = b) : Ending.returned (.bool a) = .returned (.bool b) := by rw [h]
theorem lt_of_cell {w : World} {a : Addr} {v : Value} (h : w.cell? a = some v) : a.block < w.heap.size := by
  rcases Nat.lt_or_ge a.block w.heap.size with h1 | h1
  · exact h1
  · unfold World.cell? at h
    rw [Array.getElem?_eq_none h1] at h; cases h
theorem str_of {nm : ByteArray} {l : List UInt8} (h : nm.data.toList = l) : nm = ⟨⟨l⟩⟩ := ByteArray.ext (Array.toList_inj.mp (by simpa using h))
/-- What lies in memory lies there when more is made. -/
theorem cell_up {w : World} {a : Addr} {v : Value} (h : w.cell? a = some v) (o : Obj) : (w.alloc o).cell? a = some v := (World.cell?_alloc_lt _ _ _ (lt_of_cell h)).trans h
theorem cell_drw {w : World} {a : Addr} {v : Value} (h : w.cell? a = some v) : w.drew.cell? a = some v := h
theorem box_cell {w : World} {g i : Nat} {cs : Array Value} {t : TypeId} {u : Value} (h : w.heap[g]? = some (.cells cs t)) (hi : cs[i]? = some u) : w.cell? ⟨g, i, none⟩ = some u := by
  simp [World.cell?, h, hi]
theorem box_free {w : World} {g i : Nat} {cs : Array Value} {t : TypeId} (h : w.heap[g]? = some (.cells cs t)) : w.frozen? ⟨g, i, none⟩ = false := by
  simp [World.frozen?, h]
theorem box_later {w : World} {g : Nat} {o : Obj} (h : w.heap[g]? = some o) (p : Obj) : (w.alloc p).heap[g]? = some o := by
  have hl : g < w.heap.size := by
    rcases Nat.lt_or_ge g w.heap.size with h1 | h1
    · exact h1
    · rw [Array.getElem?_eq_none h1] at h; cases h
  exact (((Below.refl w.heap.size w).alloc (Nat.le_refl _) p).block _ hl).trans h
theorem below_drewN {B : Nat} {a w : World} (h : Below B a w) {k : Nat} : Below B a (w.drewN k) := ⟨h.os, h.tape, h.output, h.size, h.block⟩
theorem fam_keeps {w w' : World} {B : Nat} {e : TypeId} {size : Nat} {v : Value} {n : Nat} {xs : List Value} (h : w.ownsRow B e size v n xs) (hb : ∀ g, v.ownBlock = some g → w'.heap[g]? = w.heap[g]?) : w'.ownsRow B e size v n xs := by
  refine ⟨h.1, ?_⟩
  rcases h.2 with h0 | ⟨g, cap, cur, hv, hg, hh, r⟩
  · exact Or.inl h0
  · exact Or.inr ⟨g, cap, cur, hv, hg, by rw [hb g (by rw [hv]; rfl)]; exact hh, r⟩
theorem owns_below2 {w w' : World} {base : Nat} {e : TypeId} {size : Nat} {v : Value} {n : Nat} {xs : List Value} (h : w.ownsRow base e size v n xs) (hb : Below w.heap.size w w') : w'.ownsRow base e size v n xs := by
  refine ⟨h.1, ?_⟩
  rcases h.2 with h0 | ⟨g, cap, cur, hv, hg, hh, r⟩
  · exact Or.inl h0
  · have hlt : g < w.heap.size := by
      rcases Nat.lt_or_ge g w.heap.size with h1 | h1
      · exact h1
      · rw [Array.getElem?_eq_none h1] at hh; cases hh
    exact Or.inr ⟨g, cap, cur, hv, hg, by rw [hb.block g hlt]; exact hh, r⟩
theorem own_low {w : World} {B B' : Nat} {e : TypeId} {size : Nat} {v : Value} {n : Nat} {xs : List Value} (h : w.ownsRow B e size v n xs) (hB : B' ≤ B) : w.ownsRow B' e size v n xs := by
  refine ⟨h.1, ?_⟩
  rcases h.2 with h0 | ⟨g, cap, cur, hv, hg, r⟩
  · exact Or.inl h0
  · exact Or.inr ⟨g, cap, cur, hv, Nat.le_trans hB hg, r⟩
theorem owns_slice {w : World} {B : Nat} {e : TypeId} {size : Nat} {v : Value} {n : Nat} {xs : List Value} (h : w.ownsRow B e size v n xs) : ∃ a c, v = .slice a n c := by
  rcases h.2 with ⟨h0, h1⟩ | ⟨g, cp, cur, hv, _⟩
  · exact ⟨none, 0, by rw [h0, h1]⟩
  · exact ⟨_, _, hv⟩
/-- An append's run, kept whole. -/
def AppS (ts : Array TypeId) (ty : TypeId) (args : Array Value) : Sem Value := Builtin.append_ ts ty args
theorem appS_eq (ts : Array TypeId) (ty : TypeId) (args : Array Value) : Builtin.append_ ts ty args = AppS ts ty args := rfl
theorem info_is {e : TypeId} {z : Value} {size bytes : Nat} (h : (Tryz.prog.info? e).map (fun i => (i.zero, i.size, i.bytes)) = some (some z, size, bytes)) : ∃ i, Tryz.prog.info? e = some i ∧ i.zero = some z ∧ i.size = size ∧ i.bytes = bytes := by
  cases hi : Tryz.prog.info? e with
  | none => rw [hi] at h; simp at h
  | some i => rw [hi] at h; simp at h; exact ⟨i, rfl, h.1, h.2.1, h.2.2⟩
/-- An append to a row of one's own of what has just been laid: its run. -/
theorem app_row {T e : TypeId} {z : Value} {size bytes : Nat} (ht : Tryz.prog.underlying T = some (.slice e)) (hinfo : (Tryz.prog.info? e).map (fun i => (i.zero, i.size, i.bytes)) = some (some z, size, bytes)) (hzs : z.cells.size = size) (hsz : 0 < size)
    {w W : World} {B : Nat} {v : Value} {n : Nat} {xs : List Value} (hown : w.ownsRow B e size v n xs) (hb : Below w.heap.size w W) (hB : B ≤ w.heap.size) (m : Nat) (news : Array Value) (hl : news.size = m * size) (h1 : ∀ u ∈ news.toList, u.oneCell' = true) (hm : 0 < m) (h63 : n + m ≤ 1000000) (hby : bytes ≤ 1000) :
    ∃ g cap w3, (AppS #[T, T] T #[v, .slice (some ⟨W.heap.size, 0, none⟩) m m]).run Tryz.prog (W.alloc (.cells news e)) = .ok (.slice (some ⟨g, 0, none⟩) (n + m) cap) w3 ∧ w3.ownsRow B e size (.slice (some ⟨g, 0, none⟩) (n + m) cap) (n + m) (xs ++ news.toList) ∧ (W.alloc (.cells news e)).grownBy w3 v.ownBlock ∧ (v.ownBlock = some g ∨ g = W.heap.size + 1) := by
  obtain ⟨i, hi, hz0, hz1, hz2⟩ := info_is hinfo
  have hown' : (W.alloc (.cells news e)).ownsRow B e size v n xs := (fam_keeps hown (fun g hg => hb.block g (hown.lt g hg).2)).alloc _
  have hbs := hb.size
  obtain ⟨g, cap, w3, r1, r2, r3, r4, _⟩ := run_append_lies (P := Tryz.prog) (W.alloc (.cells news e)) T T B e i z size bytes ht hi hz0 hz1 hz2 hzs hsz v n xs hown' ⟨W.heap.size, 0, none⟩ m m news.toList (by simpa using hl) (World.news_of_block (cs := news) (t := e) (fr := (0, 0)) (heap_alloc_new W _)) h1 hm (by unfold maxLen; omega) (by
    have : (n + m) * bytes ≤ 1000000 * 1000 := Nat.mul_le_mul h63 hby
    omega) (by simp; omega) (W.heap.size + 1) (by simp)
  exact ⟨g, cap, w3, r1, r2, r3, r4⟩
/-- A region that draws its order, of operations that only read, and at its end some that wait for all of them. -/
theorem region_tail {P : Program} {id : Nat} {Q : Exit → Act → World → Prop} {a : Act} {w : World} {l : List Oper} (n : Nat) (hm : P.follows .mixedOrders = true) (hB : Region.lexTailB .any l.toArray n = true)
    (h : wpStill P l.toArray w.drew (fun a' => wpList P l.toArray Q (l.drop n) a' w.drew) (l.take n) a) : (Code.region id l.toArray true).wp P Q a w := wp_region_still_tail n hm hB h
end

section
def isDig (c : UInt8) : Bool := decide (48 ≤ c.toNat) && decide (c.toNat ≤ 57)
/-- The number that digits tell. -/
def mag (l : List UInt8) : Nat := l.foldl (fun a c => a * 10 + (c.toNat - 48)) 0
def isNeg (l : List UInt8) : Bool := l.head? == some 45
def digs (l : List UInt8) : List UInt8 := if isNeg l then l.tail else l
def formed (l : List UInt8) : Bool := l.all isDig && decide (1 ≤ l.length) && decide (l.length ≤ 19)
theorem mag_snoc (l : List UInt8) (c : UInt8) : mag (l ++ [c]) = mag l * 10 + (c.toNat - 48) := by
  simp [mag]
def magFrom (a : Nat) (l : List UInt8) : Nat := l.foldl (fun a c => a * 10 + (c.toNat - 48)) a
theorem magFrom_lt : ∀ (l : List UInt8) (a : Nat), l.all isDig = true → magFrom a l < (a + 1) * 10 ^ l.length
  | [], a, _ => by simp [magFrom]
  | c :: r, a, h => by
    simp only [List.all_cons, Bool.and_eq_true] at h
    have h2 : c.toNat ≤ 57 := by have := h.1; simp [isDig] at this; omega
    have h3 := magFrom_lt r (a * 10 + (c.toNat - 48)) h.2
    have h4 : (a * 10 + (c.toNat - 48) + 1) * 10 ^ r.length ≤ (a + 1) * 10 * 10 ^ r.length := Nat.mul_le_mul_right _ (by omega)
    simp only [List.length_cons, Nat.pow_succ]
    calc magFrom a (c :: r) = magFrom (a * 10 + (c.toNat - 48)) r := rfl
      _ < (a * 10 + (c.toNat - 48) + 1) * 10 ^ r.length := h3
      _ ≤ (a + 1) * 10 * 10 ^ r.length := h4
      _ = (a + 1) * (10 ^ r.length * 10) := by rw [Nat.mul_assoc, Nat.mul_comm 10]
theorem parseUint10_mag : ∀ (l : List UInt8) (a : Nat), l.all isDig = true → (a + 1) * 10 ^ l.length ≤ 10000000000000000000 → Lib.parseUint10 a l = .ok (magFrom a l)
  | [], a, _, _ => rfl
  | c :: r, a, h, hb => by
    simp only [List.all_cons, Bool.and_eq_true] at h
    have hc : 48 ≤ c.toNat ∧ c.toNat ≤ 57 := by have := h.1; simp [isDig] at this; omega
    simp only [List.length_cons, Nat.pow_succ] at hb
    have hp : 1 ≤ 10 ^ r.length := Nat.pow_pos (by omega)
    have h4 : (a * 10 + (c.toNat - 48) + 1) * 10 ^ r.length ≤ (a + 1) * 10 * 10 ^ r.length := Nat.mul_le_mul_right _ (by omega)
    have h5 : (a + 1) * (10 ^ r.length * 10) = (a + 1) * 10 * 10 ^ r.length := by rw [Nat.mul_assoc, Nat.mul_comm 10]
    have h6 : a * 10 + (c.toNat - 48) + 1 ≤ (a * 10 + (c.toNat - 48) + 1) * 10 ^ r.length := Nat.le_mul_of_pos_right _ hp
    rw [Lib.parseUint10, if_pos hc, if_neg (by omega), if_neg (by omega)]
    exact parseUint10_mag r _ h.2 (by omega)

theorem parseMag_mag {l : List UInt8} (h : formed l = true) : Lib.parseMag l = .ok (mag l) := by
  simp only [formed, Bool.and_eq_true, decide_eq_true_eq] at h
  have h2 : 10 ^ l.length ≤ 10 ^ 19 := Nat.pow_le_pow_right (by omega) h.2
  unfold Lib.parseMag
  rw [if_neg (by intro e; rw [e] at h; simp at h)]
  exact parseUint10_mag l 0 h.1.1 (by omega)

theorem atoi_pos {l : List UInt8} (hn : isNeg l = false) (h : formed (digs l) = true) : Lib.atoiAll l = if mag (digs l) ≤ 9223372036854775807 then .ok (mag (digs l) : Int) else .range := by
  have hd : digs l = l := by simp [digs, hn]
  rw [hd] at h ⊢
  match l, h with
  | [], h => simp [formed] at h
  | c :: r, h =>
    have hc : 48 ≤ c.toNat := by have := h; simp [formed, isDig] at this; omega
    rw [Lib.atoiAll_plain c r (by omega) (by omega), parseMag_mag h]
    simp only [Lib.signless]
    split <;> split <;> first | rfl | omega
end

section
/-- Digits that tell a number are that number's digits. -/
theorem mag_pos : ∀ (l : List UInt8) (a : Nat), 1 ≤ a → 1 ≤ magFrom a l
  | [], a, h => h
  | c :: r, a, h => mag_pos r (a * 10 + (c.toNat - 48)) (by omega)
theorem mag_head {c : UInt8} {r : List UInt8} (hc : isDig c = true) (h : c ≠ 48) : 1 ≤ mag (c :: r) := by
  have h1 : 48 ≤ c.toNat ∧ c.toNat ≤ 57 := by simp [isDig] at hc; exact hc
  have h2 : c.toNat ≠ 48 := fun e => h (UInt8.toNat_inj.1 (by simpa using e))
  exact mag_pos r (0 * 10 + (c.toNat - 48)) (by omega)
theorem dec_mag (n : Nat) : ∀ l : List UInt8, l.length = n → l.all isDig = true → l ≠ [] → (l.head? = some 48 → l = [48]) → Lib.decDigits (mag l) = l := by
  induction n with
  | zero => intro l hl _ hne _; exact absurd (List.eq_nil_of_length_eq_zero hl) hne
  | succ n ih =>
    intro l hl hd hne h0
    obtain ⟨t, c, rfl⟩ : ∃ t c, l = t ++ [c] := ⟨l.dropLast, l.getLast hne, (List.dropLast_concat_getLast hne).symm⟩
    simp only [List.all_append, List.all_cons, List.all_nil, Bool.and_true, Bool.and_eq_true] at hd
    have hc : 48 ≤ c.toNat ∧ c.toNat ≤ 57 := by have := hd.2; simp [isDig] at this; exact this
    have ec : UInt8.ofNat (48 + (c.toNat - 48)) = c := by rw [show 48 + (c.toNat - 48) = c.toNat by omega]; exact UInt8.ofNat_toNat
    rw [mag_snoc, Lib.decDigits]
    cases t with
    | nil =>
      have e : mag [] = 0 := rfl
      rw [e, dif_pos (by omega)]
      simp [ec]
    | cons a r =>
      have ha : a ≠ 48 := fun e => by
        have := h0 (by simp [e])
        simp at this
      have hp := mag_head (r := r) (by have := hd.1; simp at this; exact this.1) ha
      rw [dif_neg (by omega), show (mag (a :: r) * 10 + (c.toNat - 48)) / 10 = mag (a :: r) by omega, show (mag (a :: r) * 10 + (c.toNat - 48)) % 10 = c.toNat - 48 by omega, ec]
      rw [ih (a :: r) (by simpa using hl) hd.1 (by simp) (fun e => absurd (by simpa using e) ha)]
theorem dec_zero : Lib.decDigits 0 = [48] := by rw [Lib.decDigits, dif_pos (by omega)]; rfl
theorem dec_digs : ∀ (n u : Nat), u ≤ n → (Lib.decDigits u).all isDig = true ∧ Lib.decDigits u ≠ [] ∧ mag (Lib.decDigits u) = u ∧ ((Lib.decDigits u).head? = some 48 → u = 0) := by
  intro n
  induction n with
  | zero =>
    intro u h
    obtain rfl : u = 0 := by omega
    rw [dec_zero]
    decide
  | succ n ih =>
    intro u h
    have hd : ∀ d : Nat, d < 10 → isDig (UInt8.ofNat (48 + d)) = true ∧ (UInt8.ofNat (48 + d)).toNat = 48 + d := by decide
    rw [Lib.decDigits]
    split
    · rename_i h1
      have h2 := hd u h1
      refine ⟨by simp only [List.all_cons, List.all_nil, Bool.and_true]; exact h2.1, by simp, ?_, ?_⟩
      · show 0 * 10 + ((UInt8.ofNat (48 + u)).toNat - 48) = u
        omega
      · intro e
        simp only [List.head?_cons, Option.some.injEq] at e
        have : (UInt8.ofNat (48 + u)).toNat = 48 := by rw [e]; rfl
        omega
    · rename_i h1
      obtain ⟨a1, a2, a3, a4⟩ := ih (u / 10) (by omega)
      have h2 := hd (u % 10) (by omega)
      refine ⟨by simp only [List.all_append, List.all_cons, List.all_nil, Bool.and_true, a1, h2.1], by simp, ?_, ?_⟩
      · rw [mag_snoc, a3, h2.2]; omega
      · intro e
        cases hc : Lib.decDigits (u / 10) with
        | nil => exact absurd hc a2
        | cons x r =>
          rw [hc] at e a4
          have := a4 (by simpa using e)
          omega
end

end Go.Proofs.YtclnjhffcfkihaeGreatDoor
