/-
  What chapter 1 says of a program's orders, as plain functions of numbers: which kinds of numbers an order has, whether a number may be, what is the first thing that is wrong.
  Rows that a run owns, each under a name of its own, in blocks that are apart: what a store and an append make of them, and what stays as it was.
  Tokens in memory, and lists of them that are made.
  What the document's Ints does with two lists of the same numbers.
  What the document's Digits does.
-/
import Derived.Test.YtclnjhffcfkihaeGreatDoorBase
import Derived.WalkKit
import Derived.WalkSpells
import Derived.WalkLawsBesides
import Derived.Deep.AppendLies
import Derived.Test.YtclnjhffcfkihaeGreatDoorLexP
import Derived.Lib.ItoaLen
import Derived.Laws.IdiomStrings
namespace Go.Proofs.YtclnjhffcfkihaeGreatDoor
section
/-- An order's three kinds of numbers: 0 nothing, 1 a register, 2 a word, 3 a lock, 4 a place, 5 any number. -/
def kd (op : Int) : Option (Int × Int × Int) :=
  if op = 1 then some (1, 5, 0) else if op = 2 then some (1, 1, 0) else if op = 3 then some (1, 1, 1) else if op = 4 then some (1, 1, 1)
  else if op = 5 then some (1, 1, 1) else if op = 6 then some (1, 1, 1) else if op = 7 then some (1, 1, 1) else if op = 8 then some (1, 2, 0)
  else if op = 9 then some (2, 1, 0) else if op = 10 then some (1, 1, 0) else if op = 11 then some (1, 1, 0) else if op = 12 then some (0, 0, 0)
  else if op = 13 then some (2, 1, 1) else if op = 14 then some (4, 0, 0) else if op = 15 then some (1, 4, 0) else if op = 16 then some (1, 0, 0)
  else if op = 17 then some (3, 0, 0) else if op = 18 then some (3, 0, 0) else none
end

section
open Go.RowKit

abbrev nilV : Value := .slice none 0 0
theorem fam_cell {w : World} {B : Nat} {e : TypeId} {size : Nat} {v : Value} {n : Nat} {xs : List Value} (h : w.ownsRow B e size v n xs) {g : Nat} (hg : v.ownBlock = some g) {i : Nat} {u : Value} (hu : xs[i]? = some u) : w.cell? ⟨g, i, none⟩ = some u := by
  have := h.cells hg i u hu
  have hadd : (⟨g, 0, none⟩ : Addr).add i = ⟨g, i, none⟩ := by unfold Addr.add; split <;> simp_all
  rwa [hadd] at this
/-- What a value looks like that owns something, or nothing. -/
theorem fam_form {w : World} {B : Nat} {e : TypeId} {size : Nat} {v : Value} {n : Nat} {xs : List Value} (h : w.ownsRow B e size v n xs) : ∃ a cap, v = .slice a n cap := by
  rcases h.2 with ⟨h0, h1⟩ | ⟨g, cap, _, hv, _⟩
  · exact ⟨none, 0, by rw [h0, h1]⟩
  · exact ⟨_, cap, hv⟩
theorem fam_block {w : World} {B : Nat} {e : TypeId} {size : Nat} {v : Value} {n : Nat} {xs : List Value} (h : w.ownsRow B e size v n xs) (hn : 0 < n) : ∃ g cap, v = .slice (some ⟨g, 0, none⟩) n cap ∧ v.ownBlock = some g ∧ B ≤ g ∧ g < w.heap.size := by
  obtain ⟨g, cap, hv, h1, h2⟩ := h.form hn
  exact ⟨g, cap, hv, by rw [hv]; rfl, h1, h2⟩
section
variable {ι : Type} [DecidableEq ι]
end

section
variable {ι : Type} {w w1 w2 : World} {B : Nat} {ty : ι → TypeId} {sz : ι → Nat} {v v1 v2 : ι → Value} {n n1 : ι → Nat} {xs xs1 : ι → List Value}

variable [DecidableEq ι]
end

/-! Rows of three cells each. -/
end

section
open Go.RowKit

def tokC (t : Tok) : List Value := [.int .i64 t.kind, .int .i64 t.num, .int .i64 t.pos, .string ⟨⟨t.text⟩⟩]
def toksV (l : List Tok) : List Value := l.flatMap tokC
theorem toksV_snoc (l : List Tok) (t : Tok) : toksV (l ++ [t]) = toksV l ++ tokC t := by simp [toksV]
/-- A token that is nothing. -/
def tok0 : Tok := ⟨0, 0, 0, []⟩
theorem toksV_at : ∀ {l : List Tok} {i : Nat}, i < l.length → (toksV l)[i * 4]? = some (.int .i64 (l.getD i tok0).kind) ∧ (toksV l)[i * 4 + 1]? = some (.int .i64 (l.getD i tok0).num) ∧ (toksV l)[i * 4 + 2]? = some (.int .i64 (l.getD i tok0).pos) ∧ (toksV l)[i * 4 + 3]? = some (.string ⟨⟨(l.getD i tok0).text⟩⟩)
  | [], i, h => absurd h (Nat.not_lt_zero _)
  | x :: l, 0, _ => ⟨rfl, rfl, rfl, rfl⟩
  | x :: l, i + 1, h => by
    have := toksV_at (l := l) (i := i) (by simpa using h)
    have e : ∀ k, (toksV (x :: l))[(i + 1) * 4 + k]? = (toksV l)[i * 4 + k]? := fun k => by
      rw [show (i + 1) * 4 + k = (i * 4 + k) + 4 by omega]
      rfl
    have e0 := e 0
    rw [Nat.add_zero, Nat.add_zero] at e0
    rw [e0, e 1, e 2, e 3]
    exact this
/-- A list of tokens that was made. -/
def OwnT (w : World) (B : Nat) (v : Value) (l : List Tok) : Prop := w.ownsRow B 66 4 v l.length (toksV l)
theorem OwnT.below {w w' : World} {B : Nat} {v : Value} {l : List Tok} (h : OwnT w B v l) (hb : Below w.heap.size w w') : OwnT w' B v l := owns_below2 h hb
theorem ownT_nil (w : World) (B : Nat) : OwnT w B nilV [] := World.ownsRow_nil _ _ _ _
theorem OwnT.form {w : World} {B : Nat} {v : Value} {l : List Tok} (h : OwnT w B v l) : ∃ a c, v = .slice a l.length c := fam_form h
theorem OwnT.cells {w : World} {B : Nat} {a : Option Addr} {c : Nat} {l : List Tok} (h : OwnT w B (.slice a l.length c) l) {k : Nat} (hk : k < l.length) :
    ∃ g, a = some ⟨g, 0, none⟩ ∧ w.cell? ⟨g, k * 4, none⟩ = some (.int .i64 (l.getD k tok0).kind) ∧ w.cell? ⟨g, k * 4 + 1, none⟩ = some (.int .i64 (l.getD k tok0).num) ∧ w.cell? ⟨g, k * 4 + 2, none⟩ = some (.int .i64 (l.getD k tok0).pos) ∧ w.cell? ⟨g, k * 4 + 3, none⟩ = some (.string ⟨⟨(l.getD k tok0).text⟩⟩) := by
  obtain ⟨g, cap, e, hg, _⟩ := fam_block h (by omega)
  simp only [Value.slice.injEq] at e
  have hat := toksV_at hk
  exact ⟨g, e.1, fam_cell h hg hat.1, fam_cell h hg hat.2.1, fam_cell h hg hat.2.2.1, fam_cell h hg hat.2.2.2⟩
theorem infoTok : (Tryz.prog.info? 66).map (fun i => (i.zero, i.size, i.bytes)) = some (some (.agg #[.int .i64 0, .int .i64 0, .int .i64 0, .string ⟨#[]⟩]), 4, 40) := by kernel_rfl
/-- One more token. -/
theorem app_tok {w W : World} {B : Nat} {v : Value} {l : List Tok} (h : OwnT w B v l) (hb : Below w.heap.size w W) (hB : B ≤ w.heap.size) (t : Tok) (hl : l.length ≤ 100000) :
    ∃ g cap w3, (AppS #[42, 42] 42 #[v, .slice (some ⟨W.heap.size, 0, none⟩) 1 1]).run Tryz.prog (W.alloc (.cells #[.int .i64 t.kind, .int .i64 t.num, .int .i64 t.pos, .string ⟨⟨t.text⟩⟩] 66)) = .ok (.slice (some ⟨g, 0, none⟩) (l.length + 1) cap) w3 ∧ OwnT w3 B (.slice (some ⟨g, 0, none⟩) (l.length + 1) cap) (l ++ [t]) ∧ (W.alloc (.cells #[.int .i64 t.kind, .int .i64 t.num, .int .i64 t.pos, .string ⟨⟨t.text⟩⟩] 66)).grownBy w3 v.ownBlock := by
  obtain ⟨g, cap, w3, r1, r2, r3, r4⟩ := app_row (T := 42) Tryz.underlying42 infoTok rfl (by omega) h hb hB 1 #[.int .i64 t.kind, .int .i64 t.num, .int .i64 t.pos, .string ⟨⟨t.text⟩⟩] rfl (by simp [Value.oneCell']) (by omega) (by omega) (by omega)
  refine ⟨g, cap, w3, r1, ?_, r3⟩
  unfold OwnT
  rw [List.length_append, toksV_snoc]
  exact r2
theorem app_tok_below {w W w3 : World} {B : Nat} {v : Value} {l : List Tok} {o : Obj} (h : OwnT w B v l) (hb : Below w.heap.size w W) (hg : (W.alloc o).grownBy w3 v.ownBlock) (hB : B ≤ w.heap.size) {S : World} (hS : Below B S W) : Below B S w3 := by
  have hs := hb.size
  exact (hS.alloc (by omega) o).grown hg (by simp; omega) (fun k hk => (h.lt k hk).1)
end

section
open Go.RowKit

/-- A list of numbers lies in w. -/
def IIn (w : World) (a : Option Addr) (n : Nat) (X : Nat → Int) : Prop := ∀ i, i < n → ∃ b o, a = some ⟨b, o, none⟩ ∧ w.cell? ⟨b, o + i, none⟩ = some (.int .i64 (X i))
theorem IIn.below {w w' : World} {a : Option Addr} {n : Nat} {X : Nat → Int} (h : IIn w a n X) (hb : Below w.heap.size w w') : IIn w' a n X := fun i hi => by
  obtain ⟨b, o, hc, h1⟩ := h i hi
  exact ⟨b, o, hc, (hb.cell (lt_of_cell h1)).trans h1⟩

set_option maxHeartbeats 800000 in
theorem ints_same (a a' : Option Addr) (n c c' : Nat) (hn : n ≤ 9223372036854775807) (X : Nat → Int) (w : World) (h : IIn w a n X) (h' : IIn w a' n X) :
    Calls Tryz.prog 14 #[.slice a n c, .slice a' n c'] w fun e w' => e = .returned (.bool true) ∧ Below w.heap.size w w' := by
  go_enter Tryz.func14, Tryz.ntmps14
  go_wp2
  go_loopw [5] (fun i wr => ∃ k : Nat, k ≤ n ∧ i = .int .i64 k ∧ Below w.heap.size w wr) (fun i _ => n - (intOf i).toNat)
  case atStart => exact ⟨0, Nat.zero_le _, rfl, Below.refl _ _⟩
  case round =>
    obtain ⟨k, hk, rfl, hbr⟩ := hrel
    by_cases hlt : k < n
    · obtain ⟨b, o, rfl, hc⟩ := h.below hbr k hlt
      obtain ⟨b', o', rfl, hc'⟩ := h'.below hbr k hlt
      go_wp2
      go_region
      all_goals go_wp2
      all_goals go_roundw
      case rel => exact ⟨k + 1, by omega, by go_num, hbr.drew⟩
      case measure => simp [intOf]; omega
    · go_wp2
      go_ret
      exact ⟨rfl, hbr⟩
end

section
open Go.RowKit

theorem tm_neg (u : Nat) : (-(u : Int)).tmod 10 = -((u % 10 : Nat) : Int) := by rw [Int.neg_tmod]; rfl
theorem td_neg (u : Nat) : (-(u : Int)).tdiv 10 = -((u / 10 : Nat) : Int) := by rw [Int.neg_tdiv]; rfl
theorem tm_pos (u : Nat) : (u : Int).tmod 10 = ((u % 10 : Nat) : Int) := rfl
theorem td_pos (u : Nat) : (u : Int).tdiv 10 = ((u / 10 : Nat) : Int) := rfl
theorem one_byte (w : World) (d : Nat) (hd : d ≤ 9) (x : Int) (hx : x = 48 + (d : Int)) : (convert 55 9 (.slice (some ⟨w.heap.size, 0, none⟩) 1 1)).run Tryz.prog (w.alloc (.cells #[.int .u8 x] 5)) = .ok (.string ⟨#[UInt8.ofNat (48 + d)]⟩) (w.alloc (.cells #[.int .u8 x] 5)) := by
  refine run_convert_bytes_back (w.alloc (.cells #[.int .u8 x] 5)) 55 9 5 ⟨w.heap.size, 0, none⟩ 1 [UInt8.ofNat (48 + d)] Tryz.underlying55 Tryz.underlying5 Tryz.underlying9 ?_
  intro j hj
  obtain rfl : j = 0 := by simpa using hj
  have e : (UInt8.ofNat (48 + d)).toNat = 48 + d := by
    have key : ∀ d : Nat, d ≤ 9 → (UInt8.ofNat (48 + d)).toNat = 48 + d := by decide
    exact key d hd
  show (w.alloc (.cells #[.int .u8 x] 5)).cell? ((⟨w.heap.size, 0, none⟩ : Addr).add 0) = some (.int .u8 ((UInt8.ofNat (48 + d)).toNat : Int))
  rw [e, hx]
  simp [Addr.add]
theorem app_list (a b : ByteArray) : (a ++ b).data.toList = a.data.toList ++ b.data.toList := by
  simp [ByteArray.data_append]
theorem byte_add (d : Nat) (hd : d ≤ 9) : (⟨#[48 + UInt8.ofNat d]⟩ : ByteArray) = ⟨#[UInt8.ofNat (48 + d)]⟩ := by
  have key : ∀ d : Nat, d ≤ 9 → 48 + UInt8.ofNat d = UInt8.ofNat (48 + d) := by decide
  rw [key d hd]
theorem ret_str {b : ByteArray} {l : List UInt8} (h : b.data.toList = l) : Ending.returned (.string b) = .returned (.string ⟨l.toArray⟩) := by
  rw [← h]
/-- What is left, and what is written. -/
def DigI (N u : Nat) (l : List UInt8) : Prop := u ≤ N ∧ Lib.decDigits N = (if u = 0 then [] else Lib.decDigits u) ++ l
theorem DigI.step {N u : Nat} {l : List UInt8} (h : DigI N u l) (hu : u ≠ 0) : DigI N (u / 10) (UInt8.ofNat (48 + u % 10) :: l) := by
  refine ⟨by have := h.1; omega, ?_⟩
  rw [h.2, if_neg hu]
  by_cases h10 : u < 10
  · rw [if_pos (by omega), Lib.decDigits, dif_pos h10, show u % 10 = u by omega]; simp
  · rw [if_neg (by omega), Lib.decDigits, dif_neg h10]; simp
theorem DigI.len {N u : Nat} {l : List UInt8} (h : DigI N u l) (hN : N < 10 ^ 20) : l.length ≤ 20 := by
  have h1 : (Lib.decDigits N).length ≤ 20 := by
    have key : ∀ (k u : Nat), u < 10 ^ (k + 1) → (Lib.decDigits u).length ≤ k + 1 := by
      intro k
      induction k with
      | zero => intro u h; rw [Lib.decDigits, dif_pos (by simpa using h)]; simp
      | succ k ih =>
        intro u h
        rw [Lib.decDigits]
        split
        · simp
        · have := ih (u / 10) (by rw [Nat.pow_succ] at h; omega)
          simp only [List.length_append, List.length_cons, List.length_nil]
          omega
    exact key 19 N hN
  rw [h.2, List.length_append] at h1
  omega

set_option maxRecDepth 100000 in
set_option maxHeartbeats 1600000 in
theorem digits_neg (N : Nat) (hN : 1 ≤ N) (HN : Hid (N ≤ 9223372036854775808)) (w : World) :
    Calls Tryz.prog 26 #[.int .i64 (-(N : Int))] w fun e w' => e = .returned (.string ⟨(Lib.itoa (-(N : Int))).toArray⟩) ∧ Below w.heap.size w w' := by
  have h0 : (-(N : Int) == 0) = false := by simp; omega
  have h1 : -(N : Int) < 0 := by omega
  go_enter Tryz.func26, Tryz.ntmps26
  go_wp2
  go_loopw [0, 3] (fun m s wr => ∃ (u : Nat) (l : ByteArray), m = .int .i64 (-(u : Int)) ∧ s = .string l ∧ Below w.heap.size w wr ∧ Hid (DigI N u l.data.toList)) (fun m _ _ => (intOf m).natAbs)
  case atStart => exact ⟨N, ⟨#[]⟩, rfl, rfl, Below.refl _ _, ⟨Nat.le_refl _, by rw [if_neg (by omega)]; simp⟩⟩
  case round =>
    obtain ⟨u, l, rfl, rfl, hbr, HI⟩ := hrel
    have hls : l.size ≤ 20 := by rw [Lib.size_eq]; exact HI.out.len (by have := HN.out; omega)
    by_cases hu : u = 0
    · subst hu
      have h2 : ((-((0 : Nat) : Int)) != 0) = false := by decide
      go_wp2
      go_ret
      refine ⟨?_, hbr⟩
      have e : Lib.itoa (-(N : Int)) = 45 :: l.data.toList := by
        unfold Lib.itoa
        rw [if_pos h1, show (-(N : Int)).natAbs = N by omega, HI.out.2]
        simp
      rw [e]
      exact ret_str (by rw [app_list]; rfl)
    · have h2 : (-(u : Int) != 0) = true := by simp; omega
      obtain ⟨d, hd⟩ : ∃ d, u % 10 = d := ⟨_, rfl⟩
      have hd9 : d ≤ 9 := by omega
      have t1 := tm_neg u
      have t2 := td_neg u
      rw [hd] at t1
      obtain ⟨q, hq⟩ : ∃ q, u / 10 = q := ⟨_, rfl⟩
      rw [hq] at t2
      have HQ : Hid (u / 10 = q ∧ u % 10 = d ∧ u ≠ 0) := ⟨hq, hd, hu⟩
      have hub : q ≤ 1000000000000000000 := by have := HN.out; have := HI.out.1; omega
      clear hq hd hu
      have hby := one_byte wr d hd9 (48 + (d : Int)) rfl
      by_cases hz : d = 0
      · subst hz
        have hb0 := one_byte wr 0 (by omega) 48 rfl
        clear hby
        go_wp2
        go_roundw
        case rel =>
          refine ⟨q, _, rfl, rfl, hbr.alloc hbr.size _, ?_⟩
          have := HI.out.step HQ.out.2.2
          rw [HQ.out.1, HQ.out.2.1] at this
          show DigI _ _ _
          rw [app_list]
          exact this
        case measure => simp [intOf]; have := HQ.out; omega
      · have hn : -(d : Int) < 0 := by omega
        go_wp2
        go_roundw
        case rel =>
          refine ⟨q, _, rfl, rfl, hbr.alloc hbr.size _, ?_⟩
          have := HI.out.step HQ.out.2.2
          rw [HQ.out.1, HQ.out.2.1] at this
          show DigI _ _ _
          rw [app_list, byte_add d hd9]
          exact this
        case measure => simp [intOf]; have := HQ.out; omega

set_option maxRecDepth 100000 in
set_option maxHeartbeats 1600000 in
theorem digits_pos (N : Nat) (hN : 1 ≤ N) (HN : Hid (N ≤ 9223372036854775807)) (w : World) :
    Calls Tryz.prog 26 #[.int .i64 (N : Int)] w fun e w' => e = .returned (.string ⟨(Lib.itoa (N : Int)).toArray⟩) ∧ Below w.heap.size w w' := by
  have h0 : ((N : Int) == 0) = false := by simp; omega
  have h1 : ¬ (N : Int) < 0 := by omega
  go_enter Tryz.func26, Tryz.ntmps26
  go_wp2
  go_loopw [0, 3] (fun m s wr => ∃ (u : Nat) (l : ByteArray), m = .int .i64 (u : Int) ∧ s = .string l ∧ Below w.heap.size w wr ∧ Hid (DigI N u l.data.toList)) (fun m _ _ => (intOf m).natAbs)
  case atStart => exact ⟨N, ⟨#[]⟩, rfl, rfl, Below.refl _ _, ⟨Nat.le_refl _, by rw [if_neg (by omega)]; simp⟩⟩
  case round =>
    obtain ⟨u, l, rfl, rfl, hbr, HI⟩ := hrel
    have hls : l.size ≤ 20 := by rw [Lib.size_eq]; exact HI.out.len (by have := HN.out; omega)
    by_cases hu : u = 0
    · subst hu
      have h2 : (((0 : Nat) : Int) != 0) = false := by decide
      go_wp2
      go_ret
      refine ⟨?_, hbr⟩
      have e : Lib.itoa (N : Int) = l.data.toList := by
        unfold Lib.itoa
        rw [if_neg (by omega), Int.toNat_natCast, HI.out.2]
        simp
      rw [e]
      exact ret_str rfl
    · have h2 : ((u : Int) != 0) = true := by simp; omega
      obtain ⟨d, hd⟩ : ∃ d, u % 10 = d := ⟨_, rfl⟩
      have hd9 : d ≤ 9 := by omega
      have t1 := tm_pos u
      have t2 := td_pos u
      rw [hd] at t1
      obtain ⟨q, hq⟩ : ∃ q, u / 10 = q := ⟨_, rfl⟩
      rw [hq] at t2
      have HQ : Hid (u / 10 = q ∧ u % 10 = d ∧ u ≠ 0) := ⟨hq, hd, hu⟩
      have hub : q ≤ 1000000000000000000 := by have := HN.out; have := HI.out.1; omega
      clear hq hd hu
      have hby := one_byte wr d hd9 (48 + (d : Int)) rfl
      by_cases hz : d = 0
      · subst hz
        have hb0 := one_byte wr 0 (by omega) 48 rfl
        clear hby
        go_wp2
        go_roundw
        case rel =>
          refine ⟨q, _, rfl, rfl, hbr.alloc hbr.size _, ?_⟩
          have := HI.out.step HQ.out.2.2
          rw [HQ.out.1, HQ.out.2.1] at this
          show DigI _ _ _
          rw [app_list]
          exact this
        case measure => simp [intOf]; have := HQ.out; omega
      · have hn : ¬ (d : Int) < 0 := by omega
        go_wp2
        go_roundw
        case rel =>
          refine ⟨q, _, rfl, rfl, hbr.alloc hbr.size _, ?_⟩
          have := HI.out.step HQ.out.2.2
          rw [HQ.out.1, HQ.out.2.1] at this
          show DigI _ _ _
          rw [app_list, byte_add d hd9]
          exact this
        case measure => simp [intOf]; have := HQ.out; omega

/-- The document's Digits. -/
theorem digits_any (n : Int) (hn : -9223372036854775808 ≤ n ∧ n ≤ 9223372036854775807) (w : World) :
    Calls Tryz.prog 26 #[.int .i64 n] w fun e w' => e = .returned (.string ⟨(Lib.itoa n).toArray⟩) ∧ Below w.heap.size w w' := by
  rcases (by omega : n < 0 ∨ n = 0 ∨ 0 < n) with h | rfl | h
  · obtain ⟨N, rfl⟩ : ∃ N : Nat, n = -(N : Int) := ⟨n.natAbs, by omega⟩
    exact digits_neg N (by omega) (show N ≤ 9223372036854775808 by have := hn.1; omega) w
  · have e : Lib.itoa 0 = [48] := by simp [Lib.itoa, Lib.decDigits_one (show 0 < 10 by omega)]
    rw [e]
    go_enter Tryz.func26, Tryz.ntmps26
    go_wp2
    go_ret
    exact ⟨rfl, Below.refl _ _⟩
  · obtain ⟨N, rfl⟩ : ∃ N : Nat, n = (N : Int) := ⟨n.toNat, by omega⟩
    exact digits_pos N (by omega) (show N ≤ 9223372036854775807 by have := hn.2; omega) w
end

end Go.Proofs.YtclnjhffcfkihaeGreatDoor
