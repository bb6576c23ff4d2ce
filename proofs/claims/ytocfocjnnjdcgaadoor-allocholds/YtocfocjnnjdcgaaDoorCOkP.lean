/-
  What an order's numbers may be, of a program that may be.
  What holds of a state in every run of a program that may be; what an order's numbers may be.
  A program that is being read: its threads' orders in slices of the call's own, each in a block of its own.
  Orders anew, as plain functions: what each becomes, where it lies.
  'append(l, r...)' of a row that the call made, whatever it holds; orders in rows.
  Orders anew, as plain functions: their numbers, that they may be.
  A program that passed Check.
  What holds of a state holds behind every move that can be picked.
-/
import Derived.Test.YtocfocjnnjdcgaaDoorBase
import Derived.Test.YtocfocjnnjdcgaaDoorRunP
import Derived.Test.YtocfocjnnjdcgaaDoorOrder
import Derived.Deep.AppendLies
import Derived.Lib.SmallJoins
import Derived.Test.YtocfocjnnjdcgaaDoorFam
namespace Go.Proofs.YtocfocjnnjdcgaaDoor
section
open Go.RowKit

/-- The orders may be. -/
structure COk (n : Nat) (L : Nat → Nat) (X : Nat → Nat → Nat → Int) (m lk rg : Nat) : Prop where
  n4 : n ≤ 4
  L4 : ∀ t, t < n → L t ≤ 1000
  m64 : m ≤ 64
  lk4 : lk ≤ 4
  rg0 : 1 ≤ rg
  rg2 : rg ≤ 200
  ord : ∀ t i, t < n → i < L t → ordE rg m lk (L t) (X t i 0) (X t i 1) (X t i 2) (X t i 3) = 0

section
variable {rg m lk sz : Nat} {op a b c : Int}
theorem ok_op (h : ordE rg m lk sz op a b c = 0) : 1 ≤ op ∧ op ≤ 18 := by
  rcases op_cases op with h1 | h1
  · exfalso
    unfold ordE at h
    rw [kd_out h1] at h
    simp at h
  · omega
theorem ok_three {rg m lk sz : Int} {x y z : Int} (hk : kd op = some (x, y, z)) (h : ordE rg m lk sz op a b c = 0) : okN rg m lk sz x a = true ∧ okN rg m lk sz y b = true ∧ okN rg m lk sz z c = true := by
  unfold ordE at h
  rw [hk] at h
  simp only at h
  split at h
  · rename_i h1; simpa [and_assoc] using h1
  · omega
theorem okN_reg {rg m lk sz n : Int} (h : okN rg m lk sz 1 n = true) : 0 ≤ n ∧ n < rg := by simpa [okN, lim] using h
theorem okN_word {rg m lk sz n : Int} (h : okN rg m lk sz 2 n = true) : 0 ≤ n ∧ n < m := by simpa [okN, lim] using h
theorem okN_lock {rg m lk sz n : Int} (h : okN rg m lk sz 3 n = true) : 0 ≤ n ∧ n < lk := by simpa [okN, lim] using h
theorem okN_place {rg m lk sz n : Int} (h : okN rg m lk sz 4 n = true) : 0 ≤ n ∧ n ≤ sz := by
  have : 0 ≤ n ∧ n < sz + 1 := by simpa [okN, lim] using h
  omega
/-- An order of three registers. -/
theorem ok_rrr (ho : op = 3 ∨ op = 4 ∨ op = 5 ∨ op = 6 ∨ op = 7) (h : ordE rg m lk sz op a b c = 0) : (0 ≤ a ∧ a < rg) ∧ (0 ≤ b ∧ b < rg) ∧ (0 ≤ c ∧ c < rg) := by
  have hk : kd op = some (1, 1, 1) := by rcases ho with rfl | rfl | rfl | rfl | rfl <;> rfl
  have := ok_three hk h
  exact ⟨okN_reg this.1, okN_reg this.2.1, okN_reg this.2.2⟩
theorem ok_const (h : ordE rg m lk sz 1 a b c = 0) : 0 ≤ a ∧ a < rg := okN_reg (ok_three (op := 1) rfl h).1
theorem ok_rr (ho : op = 2 ∨ op = 10 ∨ op = 11) (h : ordE rg m lk sz op a b c = 0) : (0 ≤ a ∧ a < rg) ∧ (0 ≤ b ∧ b < rg) := by
  have hk : kd op = some (1, 1, 0) := by rcases ho with rfl | rfl | rfl <;> rfl
  have := ok_three hk h
  exact ⟨okN_reg this.1, okN_reg this.2.1⟩
theorem ok_load (h : ordE rg m lk sz 8 a b c = 0) : (0 ≤ a ∧ a < rg) ∧ (0 ≤ b ∧ b < m) := by
  have := ok_three (op := 8) rfl h
  exact ⟨okN_reg this.1, okN_word this.2.1⟩
theorem ok_store (h : ordE rg m lk sz 9 a b c = 0) : (0 ≤ a ∧ a < m) ∧ (0 ≤ b ∧ b < rg) := by
  have := ok_three (op := 9) rfl h
  exact ⟨okN_word this.1, okN_reg this.2.1⟩
theorem ok_cas (h : ordE rg m lk sz 13 a b c = 0) : (0 ≤ a ∧ a < m) ∧ (0 ≤ b ∧ b < rg) ∧ (0 ≤ c ∧ c < rg) := by
  have := ok_three (op := 13) rfl h
  exact ⟨okN_word this.1, okN_reg this.2.1, okN_reg this.2.2⟩
theorem ok_jump (h : ordE rg m lk sz 14 a b c = 0) : 0 ≤ a ∧ a ≤ sz := okN_place (ok_three (op := 14) rfl h).1
theorem ok_zero (h : ordE rg m lk sz 15 a b c = 0) : (0 ≤ a ∧ a < rg) ∧ (0 ≤ b ∧ b ≤ sz) := by
  have := ok_three (op := 15) rfl h
  exact ⟨okN_reg this.1, okN_place this.2.1⟩
theorem ok_print (h : ordE rg m lk sz 16 a b c = 0) : 0 ≤ a ∧ a < rg := okN_reg (ok_three (op := 16) rfl h).1
theorem ok_lock (ho : op = 17 ∨ op = 18) (h : ordE rg m lk sz op a b c = 0) : 0 ≤ a ∧ a < lk := by
  have hk : kd op = some (3, 0, 0) := by rcases ho with rfl | rfl <;> rfl
  exact okN_lock (ok_three hk h).1
end
theorem toN {a : Int} {n : Nat} (h : 0 ≤ a ∧ a < n) : ∃ k : Nat, a = k ∧ k < n := ⟨a.toNat, by omega, by omega⟩
theorem toN_le {a : Int} {n : Nat} (h : 0 ≤ a ∧ a ≤ n) : ∃ k : Nat, a = k ∧ k ≤ n := ⟨a.toNat, by omega, by omega⟩
end

section
open Go.RowKit

/-- What holds of a state in every run: of n threads, m words, lk locks, rg registers a thread. -/
structure SOk (n : Nat) (L : Nat → Nat) (m lk rg : Nat) (mode : Int) (s : Sx) : Prop where
  ths : s.ths.length = n
  pc : ∀ t, t < n → (thOf s t).pc ≤ L t
  regs : ∀ t, t < n → (thOf s t).regs.length = rg
  words : s.words.length = m
  own : s.own.length = lk
  wlen : ∀ t, t < n → (thOf s t).wait.length ≤ 3
  wok : ∀ t, t < n → ∀ x, x ∈ (thOf s t).wait → (0 ≤ x.wh ∧ x.wh < (if x.lk then lk else m : Nat)) ∧ (x.lk = true → x.what = 0)
  bare : mode = 0 → ∀ t, t < n → (thOf s t).wait = []
end

section
open Go.RowKit

abbrev I4 := Int × Int × Int × Int
def cells4 (x : I4) : List Value := [.int .i64 x.1, .int .i64 x.2.1, .int .i64 x.2.2.1, .int .i64 x.2.2.2]
def cellsT (l : List I4) : List Value := l.flatMap cells4
theorem cellsT_len (l : List I4) : (cellsT l).length = l.length * 4 := by
  induction l with
  | nil => rfl
  | cons x r ih => simp [cellsT, cells4] at ih ⊢; omega
theorem lt_of_owns {w : World} {B : Nat} {e : TypeId} {size : Nat} {v : Value} {n : Nat} {xs : List Value} (h : w.ownsRow B e size v n xs) {g : Nat} (hg : v.ownBlock = some g) : g < w.heap.size := (h.lt g hg).2

theorem owns_far {w : World} {B : Nat} {e : TypeId} {size : Nat} {v : Value} {n : Nat} {xs : List Value} (h : w.ownsRow B e size v n xs) {a : Addr} {u : Value} (hne : v.ownBlock ≠ some a.block) : (w.setCell a u).ownsRow B e size v n xs := by
  refine ⟨h.1, ?_⟩
  rcases h.2 with h0 | ⟨g, cap, cur, hv, hg, hh, r⟩
  · exact Or.inl h0
  · refine Or.inr ⟨g, cap, cur, hv, hg, ?_, r⟩
    rw [Below.heap_setCell _ _ _ _ (fun e => hne (by rw [hv]; simp [Value.ownBlock, e]))]
    exact hh

section
variable {w w' : World} {B : Nat} {cv wv : Value} {tv : List Value} {ths : List (List I4)} {wds : List Int}

end
end

section
open Go.RowKit

/-- A thread's order. -/
def ordAt (X : Nat → Nat → Nat → Int) (t i : Nat) : I4 := (X t i 0, X t i 1, X t i 2, X t i 3)
def nth4 (x : I4) (q : Nat) : Int := if q = 0 then x.1 else if q = 1 then x.2.1 else if q = 2 then x.2.2.1 else x.2.2.2
def fenceI : I4 := (12, 0, 0, 0)
/-- An order with its places led on. -/
def ledO (pl : Nat → Nat) (x : I4) : I4 := (x.1, (if x.1 = 14 then (pl x.2.1.toNat : Int) else x.2.1), (if x.1 = 15 then (pl x.2.2.1.toNat : Int) else x.2.2.1), x.2.2.2)
/-- Where what each order became begins. -/
def plR (b : Nat → List I4) : Nat → Nat
  | 0 => 0
  | i + 1 => plR b i + (b i).length
def rawR (b : Nat → List I4) : Nat → List I4
  | 0 => []
  | i + 1 => rawR b i ++ b i
/-- A thread's new orders. -/
def codeR (b : Nat → List I4) (L : Nat) : List I4 := (rawR b L).map (ledO (plR b))
section
variable {b : Nat → List I4}
theorem raw_len : ∀ i, (rawR b i).length = plR b i
  | 0 => rfl
  | i + 1 => by rw [rawR, List.length_append, raw_len i, plR]
theorem code_len (L : Nat) : (codeR b L).length = plR b L := by rw [codeR, List.length_map, raw_len]
theorem pl_mono {i j : Nat} (h : i ≤ j) : plR b i ≤ plR b j := by
  induction h with
  | refl => exact Nat.le_refl _
  | step _ ih => exact Nat.le_trans ih (Nat.le_add_right _ _)
theorem raw_at {i k : Nat} (hk : k < (b i).length) : ∀ {L : Nat}, i < L → (rawR b L)[plR b i + k]? = (b i)[k]?
  | 0, h => absurd h (by omega)
  | L + 1, h => by
    rw [rawR]
    by_cases e : i = L
    · subst e
      rw [List.getElem?_append_right (by rw [raw_len]; omega), raw_len]
      congr 1
      omega
    · have h1 : plR b (i + 1) ≤ plR b L := pl_mono (by omega)
      rw [plR] at h1
      rw [List.getElem?_append_left (by rw [raw_len]; omega)]
      exact raw_at hk (by omega)
theorem raw_find : ∀ {L j : Nat}, j < plR b L → ∃ i k, i < L ∧ k < (b i).length ∧ j = plR b i + k
  | 0, j, h => absurd h (by simp [plR])
  | L + 1, j, h => by
    rw [plR] at h
    by_cases e : j < plR b L
    · obtain ⟨i, k, h1, h2, h3⟩ := raw_find e
      exact ⟨i, k, by omega, h2, h3⟩
    · exact ⟨L, j - plR b L, by omega, by omega, by omega⟩
theorem code_at {i k L : Nat} (hk : k < (b i).length) (hi : i < L) (d : I4) : (codeR b L).getD (plR b i + k) d = ledO (plR b) ((b i).getD k d) := by
  have h := raw_at hk hi
  rw [List.getD_eq_getElem?_getD, codeR, List.getElem?_map, h, List.getElem?_eq_getElem hk]
  simp [List.getD, hk]
end
end

section
open Go.RowKit

/-- A slice that lies in memory: its cells. -/
def SrcL (w : World) (sa : Option Addr) (xs : List Value) : Prop := ∀ j u, xs[j]? = some u → ∃ b o, sa = some ⟨b, o, none⟩ ∧ w.cell? ⟨b, o + j, none⟩ = some u
theorem srcL_nil (w : World) (sa : Option Addr) : SrcL w sa [] := fun j u h => by simp at h
/-- A new block's cells. -/
theorem srcL_block {w : World} {g : Nat} {cs : Array Value} {e : TypeId} {fr : Nat × Nat} (h : w.heap[g]? = some (.cells cs e fr)) : SrcL w (some ⟨g, 0, none⟩) cs.toList := fun j u hj => by
  refine ⟨g, 0, rfl, ?_⟩
  have := World.news_of_block (cs := cs) (t := e) (fr := fr) h j u hj
  have hadd : (⟨g, 0, none⟩ : Addr).add j = ⟨g, 0 + j, none⟩ := by unfold Addr.add; split <;> simp_all
  rw [hadd] at this
  exact this
theorem app_lie {T e : TypeId} {z : Value} {size bytes : Nat} (ht : Tryd.prog.underlying T = some (.slice e)) (hinfo : (Tryd.prog.info? e).map (fun i => (i.zero, i.size, i.bytes)) = some (some z, size, bytes)) (hzs : z.cells.size = size) (hsz : 0 < size)
    {w : World} {B : Nat} {v : Value} {n : Nat} {xs : List Value} (hown : w.ownsRow B e size v n xs) (hB : B ≤ w.heap.size) (sa : Option Addr) (m c : Nat) (news : List Value) (hl : news.length = m * size) (hsrc : SrcL w sa news) (h1 : ∀ u ∈ news, u.oneCell' = true) (h63 : n + m ≤ 1000000) (hby : bytes ≤ 1000) :
    ∃ v' w3, (AppS #[T, T] T #[v, .slice sa m c]).run Tryd.prog w = .ok v' w3 ∧ w3.ownsRow B e size v' (n + m) (xs ++ news) ∧ w.grownBy w3 v.ownBlock ∧ (v'.ownBlock = v.ownBlock ∨ v'.ownBlock = some w.heap.size) := by
  obtain ⟨i, hi, hz0, hz1, hz2⟩ := info_is hinfo
  have hbig : (n + m) * bytes ≤ 140737488355328 := by
    have : (n + m) * bytes ≤ 1000000 * 1000 := Nat.mul_le_mul h63 hby
    omega
  cases sa with
  | some a =>
    have hnews : ∀ j u, news[j]? = some u → w.cell? (a.add j) = some u := fun j u hj => by
      obtain ⟨b, o, ea, hc⟩ := hsrc j u hj
      simp only [Option.some.injEq] at ea
      subst ea
      have hadd : (⟨b, o, none⟩ : Addr).add j = ⟨b, o + j, none⟩ := by unfold Addr.add; split <;> simp_all
      rw [hadd]
      exact hc
    obtain ⟨v', w', r1, r2, r3, _, r5⟩ := run_append_own_at (P := Tryd.prog) w B T T e i z size bytes ht hi hz0 hz1 hz2 hzs hsz v n xs hown a m c news hl hnews h1 (by unfold maxLen; omega) hbig hB
    exact ⟨v', w', r1, r2, r3, r5⟩
  | none =>
    have hnil : news = [] := by
      cases news with
      | nil => rfl
      | cons x r =>
        obtain ⟨b, o, ea, _⟩ := hsrc 0 x rfl
        cases ea
    subst hnil
    have hm : m = 0 := by
      rcases Nat.eq_zero_or_pos m with h | h
      · exact h
      · have : 0 < m * size := Nat.mul_pos h hsz
        rw [← hl] at this
        cases this
    subst hm
    rw [List.append_nil, Nat.add_zero]
    refine ⟨v, w, ?_, hown, ⟨rfl, rfl, rfl, Nat.le_refl _, fun _ _ _ => rfl⟩, Or.inl rfl⟩
    have hs : Src Tryd.prog i.size T (.slice none 0 c) 0 [] w := Src.ofNil _ ht c
    rcases hown.2 with ⟨rfl, rfl⟩ | ⟨g, cap, cur, rfl, hbg, hg, hnc, hcm, hcs, htake⟩
    · show (Builtin.append_ #[T, T] T #[.slice none 0 0, .slice none 0 c]).run Tryd.prog w = _
      simp [Builtin.append_, run_underlying ht, sizeOf, typeInfo, hi, Builtin.lenOf, Builtin.firstCells]
    · have := run_append_room_src (P := Tryd.prog) w T T T e i ht hi g 0 n cap (.slice none 0 c) 0 [] hs hnc (fun j h => by simp at h) (fun j h => by simp at h)
      exact this
theorem infoO : (Tryd.prog.info? 55).map (fun i => (i.zero, i.size, i.bytes)) = some (some (.agg #[.int .i64 0, .int .i64 0, .int .i64 0, .int .i64 0]), 4, 32) := by kernel_rfl
theorem infoOs : (Tryd.prog.info? 36).map (fun i => (i.zero, i.size, i.bytes)) = some (some nilV, 1, 24) := by kernel_rfl
theorem cells4_one (l : List I4) : ∀ u ∈ cellsT l, u.oneCell' = true := fun u hu => by
  unfold cellsT at hu
  rw [List.mem_flatMap] at hu
  obtain ⟨x, _, hx⟩ := hu
  simp only [cells4, List.mem_cons, List.not_mem_nil, or_false] at hx
  rcases hx with rfl | rfl | rfl | rfl <;> rfl
theorem cellsT_append (l r : List I4) : cellsT (l ++ r) = cellsT l ++ cellsT r := by simp [cellsT]
/-- An order's cells. -/
theorem cellsT_at : ∀ {l : List I4} {i : Nat}, i < l.length → ∀ d, (cellsT l)[i * 4]? = some (.int .i64 (l.getD i d).1) ∧ (cellsT l)[i * 4 + 1]? = some (.int .i64 (l.getD i d).2.1) ∧ (cellsT l)[i * 4 + 2]? = some (.int .i64 (l.getD i d).2.2.1) ∧ (cellsT l)[i * 4 + 3]? = some (.int .i64 (l.getD i d).2.2.2)
  | [], i, h, _ => absurd h (Nat.not_lt_zero _)
  | x :: l, 0, _, _ => ⟨rfl, rfl, rfl, rfl⟩
  | x :: l, i + 1, h, d => by
    have := cellsT_at (l := l) (i := i) (by simpa using h) d
    have e : ∀ k, (cellsT (x :: l))[(i + 1) * 4 + k]? = (cellsT l)[i * 4 + k]? := fun k => by
      rw [show (i + 1) * 4 + k = (i * 4 + k) + 4 by omega]
      rfl
    have e0 := e 0
    rw [Nat.add_zero, Nat.add_zero] at e0
    rw [e0, e 1, e 2, e 3]
    exact this
/-- One order is set. -/
theorem cellsT_set : ∀ {l : List I4} {i : Nat} {x : I4}, i < l.length → ((((cellsT l).set (i * 4) (.int .i64 x.1)).set (i * 4 + 1) (.int .i64 x.2.1)).set (i * 4 + 2) (.int .i64 x.2.2.1)).set (i * 4 + 3) (.int .i64 x.2.2.2) = cellsT (l.set i x)
  | [], i, _, h => absurd h (Nat.not_lt_zero _)
  | y :: l, 0, x, _ => rfl
  | y :: l, i + 1, x, h => by
    have := cellsT_set (l := l) (i := i) (x := x) (by simpa using h)
    have e : cellsT (y :: l) = cells4 y ++ cellsT l := rfl
    have e2 : cellsT ((y :: l).set (i + 1) x) = cells4 y ++ cellsT (l.set i x) := rfl
    rw [e, e2, ← this]
    have e3 : ∀ (r : List Value) k u, (cells4 y ++ r).set ((i + 1) * 4 + k) u = cells4 y ++ r.set (i * 4 + k) u := fun r k u => by
      rw [show (i + 1) * 4 + k = (i * 4 + k) + 4 by omega]
      rfl
    have e4 := fun r u => e3 r 0 u
    simp only [Nat.add_zero] at e4
    rw [e4, e3, e3, e3]
/-- Orders that the call made. -/
def OwnC (w : World) (B : Nat) (v : Value) (l : List I4) : Prop := w.ownsRow B 55 4 v l.length (cellsT l)
theorem OwnC.below {w w' : World} {B : Nat} {v : Value} {l : List I4} (h : OwnC w B v l) (hb : Below w.heap.size w w') : OwnC w' B v l := owns_below2 h hb
/-- More orders behind them. -/
theorem app_code {w : World} {B : Nat} {v : Value} {l : List I4} (h : OwnC w B v l) (hB : B ≤ w.heap.size) (sa : Option Addr) (c : Nat) (r : List I4) (hs : SrcL w sa (cellsT r)) (hl : l.length + r.length ≤ 1000000) :
    ∃ v' w3, (AppS #[36, 36] 36 #[v, .slice sa r.length c]).run Tryd.prog w = .ok v' w3 ∧ OwnC w3 B v' (l ++ r) ∧ w.grownBy w3 v.ownBlock ∧ (v'.ownBlock = v.ownBlock ∨ v'.ownBlock = some w.heap.size) := by
  obtain ⟨v', w3, h1, h2, h3, h4⟩ := app_lie (T := 36) Tryd.underlying36 infoO rfl (by omega) h hB sa r.length c (cellsT r) (cellsT_len r) hs (cells4_one r) hl (by omega)
  refine ⟨v', w3, h1, ?_, h3, h4⟩
  unfold OwnC
  rw [List.length_append, cellsT_append]
  exact h2
end

section
open Go.RowKit

/-- The new orders as numbers. -/
def lenR (b : Nat → Nat → List I4) (L : Nat → Nat) : Nat → Nat := fun t => (codeR (b t) (L t)).length
def numR (b : Nat → Nat → List I4) (L : Nat → Nat) : Nat → Nat → Nat → Int := fun t i q => nth4 ((codeR (b t) (L t)).getD i fenceI) q
/-- New orders may be, where the old ones may. -/
theorem led_ok {rg m lk sz : Nat} {pl : Nat → Nat} {x : I4} (h : ordE rg m lk sz x.1 x.2.1 x.2.2.1 x.2.2.2 = 0) {sz' : Nat} (hp : ∀ a, a ≤ sz → pl a ≤ sz') : ordE rg m lk sz' (ledO pl x).1 (ledO pl x).2.1 (ledO pl x).2.2.1 (ledO pl x).2.2.2 = 0 := by
  obtain ⟨op, a, b, c⟩ := x
  show ordE rg m lk sz' op (if op = 14 then _ else _) (if op = 15 then _ else _) c = 0
  simp only at h
  have ho := ok_op h
  by_cases h14 : op = 14
  · subst h14
    have h1 := ok_three (op := 14) rfl h
    have h2 := okN_place h1.1
    have h3 := hp a.toNat (by omega)
    unfold ordE
    simp only [kd, Int.reduceEq, ↓reduceIte]
    have h4 : okN rg m lk sz' 4 (pl a.toNat : Int) = true := by
      unfold okN lim
      simp
      omega
    rw [h4]
    have h5 : okN rg m lk sz' 0 b = true := h1.2.1
    have h6 : okN rg m lk sz' 0 c = true := h1.2.2
    rw [h5, h6]
    rfl
  · by_cases h15 : op = 15
    · subst h15
      have h1 := ok_three (op := 15) rfl h
      have h2 := okN_place h1.2.1
      have h3 := hp b.toNat (by omega)
      unfold ordE
      simp only [kd, Int.reduceEq, ↓reduceIte]
      have h4 : okN rg m lk sz' 4 (pl b.toNat : Int) = true := by
        unfold okN lim
        simp
        omega
      rw [h4]
      have h5 : okN rg m lk sz' 1 a = true := h1.1
      have h6 : okN rg m lk sz' 0 c = true := h1.2.2
      rw [h5, h6]
      rfl
    · rw [if_neg h14, if_neg h15]
      rcases op_cases op with e | rfl | rfl | rfl | rfl | rfl | rfl | rfl | rfl | rfl | rfl | rfl | rfl | rfl | rfl | rfl | rfl | rfl | rfl
      · omega
      all_goals first
        | exact absurd rfl h14
        | exact absurd rfl h15
        | exact h
/-- The first thread that is too long. -/
def longR (L : Nat → Nat) (t : Nat) : Option (Int × Int) := if 400 < L t then some (1, 0) else none
theorem bad_all {E : Nat → Int} : ∀ (f k : Nat), (∀ i, k ≤ i → i < k + f → E i = 0) → firstBad E f k = none
  | 0, _, _ => rfl
  | f + 1, k, h => by
    rw [firstBad, if_pos (h k (by omega) (by omega))]
    exact bad_all f (k + 1) (fun i h1 h2 => h i (by omega) (by omega))
theorem first_congr {R S : Nat → Option (Int × Int)} : ∀ (f k : Nat), (∀ i, k ≤ i → i < k + f → R i = S i) → firstThread R f k = firstThread S f k
  | 0, _, _ => rfl
  | f + 1, k, h => by
    rw [firstThread, firstThread, h k (by omega) (by omega)]
    rw [first_congr f (k + 1) (fun i h1 h2 => h i (by omega) (by omega))]
section
variable {n m lk rg : Nat} {L : Nat → Nat} {X : Nat → Nat → Nat → Int} {b : Nat → Nat → List I4}
/-- New orders that may be, each in the place of one at most. -/
theorem newG_ok (hb : ∀ t i, t < n → i < L t → ∀ x, x ∈ b t i → ordE rg m lk (L t) x.1 x.2.1 x.2.2.1 x.2.2.2 = 0) : ∀ t i, t < n → i < lenR b L t → ordE rg m lk (lenR b L t) (numR b L t i 0) (numR b L t i 1) (numR b L t i 2) (numR b L t i 3) = 0 := fun t j ht hj => by
  unfold lenR at hj
  rw [code_len] at hj
  obtain ⟨i, k, hi, hk, rfl⟩ := raw_find hj
  have h1 := code_at hk hi fenceI
  have hx : (b t i).getD k fenceI ∈ b t i := by
    rw [List.getD_eq_getElem?_getD, List.getElem?_eq_getElem hk]
    exact List.getElem_mem hk
  unfold numR
  rw [h1]
  exact led_ok (sz := L t) (x := (b t i).getD k fenceI) (hb t i ht hi _ hx) (fun a ha => by unfold lenR; rw [code_len]; exact pl_mono ha)
end
end

section
open Go.RowKit

theorem bad_none {E : Nat → Int} : ∀ (f k : Nat), firstBad E f k = none → ∀ i, k ≤ i → i < k + f → E i = 0
  | 0, k, _, i, h1, h2 => by omega
  | f + 1, k, h, i, h1, h2 => by
    rw [firstBad] at h
    split at h
    · rename_i h0
      by_cases e : i = k
      · subst e; exact h0
      · exact bad_none f (k + 1) h i (by omega) (by omega)
    · cases h
theorem thread_ok {R : Nat → Option (Int × Int)} (hR : ∀ t c a, R t = some (c, a) → c ≠ 0) : ∀ (f k : Nat), (firstThread R f k).1 = 0 → ∀ i, k ≤ i → i < k + f → R i = none
  | 0, k, _, i, h1, h2 => by omega
  | f + 1, k, h, i, h1, h2 => by
    rw [firstThread] at h
    split at h
    · rename_i h0
      by_cases e : i = k
      · subst e; exact h0
      · exact thread_ok hR f (k + 1) h i (by omega) (by omega)
    · rename_i c a h0
      exact absurd h (hR k c a h0)
theorem thread_zero {R : Nat → Option (Int × Int)} (hR : ∀ t c a, R t = some (c, a) → c ≠ 0) : ∀ (f k : Nat), (firstThread R f k).1 = 0 → firstThread R f k = (0, 0, 0)
  | 0, _, _ => rfl
  | f + 1, k, h => by
    rw [firstThread] at h ⊢
    split at h
    · exact thread_zero hR f (k + 1) h
    · rename_i c a h0
      exact absurd h (hR k c a h0)
theorem bad_ne {E : Nat → Int} : ∀ (f k : Nat) (c a : Int), firstBad E f k = some (c, a) → c ≠ 0
  | 0, k, c, a, h => by simp [firstBad] at h
  | f + 1, k, c, a, h => by
    rw [firstBad] at h
    split at h
    · exact bad_ne f (k + 1) c a h
    · rename_i h0
      simp only [Option.some.injEq, Prod.mk.injEq] at h
      rw [← h.1]; exact h0
theorem thr_ne {rg wd lk : Int} {L : Nat → Nat} {X : Nat → Nat → Nat → Int} : ∀ t c a, thr rg wd lk L X t = some (c, a) → c ≠ 0 := fun t c a e => by
  unfold thr at e
  split at e
  · simp at e; omega
  · exact bad_ne _ _ _ _ e

/-- What Check lets pass: the sizes, every order. -/
theorem chk_cok {n m : Nat} {L : Nat → Nat} {X : Nat → Nat → Nat → Int} {lk rg x y z : Int} (h : chk n L X m lk rg = (x, y, z)) (hx : x = 0) : y = 0 ∧ z = 0 ∧ 0 < n ∧ ∃ lk' rg' : Nat, lk = lk' ∧ rg = rg' ∧ COk n L X m lk' rg' := by
  subst hx
  unfold chk at h
  split at h
  · rename_i h1
    simp only [Prod.mk.injEq] at h
    exact absurd h.1 h1
  · rename_i h1
    have h1 : sizesE n m lk rg = 0 := by simpa using h1
    unfold sizesE at h1
    split at h1
    · cases h1
    · split at h1
      · cases h1
      · rename_i h2 h3
        have hz := thread_zero thr_ne n 0 (by rw [h])
        rw [h] at hz
        simp only [Prod.mk.injEq] at hz
        have hR : ∀ t, t < n → thr rg m lk L X t = none := fun t ht => thread_ok thr_ne n 0 (by rw [h]) t (Nat.zero_le _) (by omega)
        have hL : ∀ t, t < n → L t ≤ 400 ∧ firstBad (fun i => ordE rg m lk (L t) (X t i 0) (X t i 1) (X t i 2) (X t i 3)) (L t) 0 = none := fun t ht => by
          have := hR t ht
          unfold thr at this
          split at this
          · cases this
          · exact ⟨by omega, this⟩
        obtain ⟨lk', rfl⟩ := Int.eq_ofNat_of_zero_le (by omega : 0 ≤ lk)
        obtain ⟨rg', rfl⟩ := Int.eq_ofNat_of_zero_le (by omega : 0 ≤ rg)
        exact ⟨hz.2.1, hz.2.2, by omega, lk', rg', rfl, rfl, by omega, fun t ht => Nat.le_trans (hL t ht).1 (by decide), by omega, by omega, by omega, by omega, fun t i ht hi => bad_none (L t) 0 (hL t ht).2 i (Nat.zero_le _) (by omega)⟩
end

section
open Go.RowKit

section
variable {n : Nat} {L : Nat → Nat} {m lk rg : Nat} {mode : Int} {s : Sx}
theorem SOk.th (h : SOk n L m lk rg mode s) {t : Nat} (ht : t < n) {x : Th} (hpc : x.pc ≤ L t) (hr : x.regs.length = rg) (hw : x.wait.length ≤ 3) (hok : ∀ y, y ∈ x.wait → (0 ≤ y.wh ∧ y.wh < (if y.lk then lk else m : Nat)) ∧ (y.lk = true → y.what = 0)) (hb : mode = 0 → x.wait = []) : SOk n L m lk rg mode (setTh s t x) := by
  have htl : t < s.ths.length := by rw [h.ths]; exact ht
  have e := thOf_set htl x
  refine ⟨by rw [ths_set]; exact h.ths, fun u hu => ?_, fun u hu => ?_, h.words, h.own, fun u hu => ?_, fun u hu => ?_, fun h0 u hu => ?_⟩
  all_goals rw [e u]
  all_goals split
  all_goals first | (rename_i hu'; subst hu'; assumption) | skip
  · exact h.pc u hu
  · exact h.regs u hu
  · exact h.wlen u hu
  · exact h.wok u hu
  · rename_i hu'; exact hb h0
  · exact h.bare h0 u hu
theorem SOk.setWord (h : SOk n L m lk rg mode s) (i : Nat) (x : Int) : SOk n L m lk rg mode { s with words := s.words.set i x } := ⟨h.ths, h.pc, h.regs, by simpa using h.words, h.own, h.wlen, h.wok, h.bare⟩
theorem SOk.setOwn (h : SOk n L m lk rg mode s) (i : Nat) (x : Int) : SOk n L m lk rg mode { s with own := s.own.set i x } := ⟨h.ths, h.pc, h.regs, h.words, by simpa using h.own, h.wlen, h.wok, h.bare⟩
theorem SOk.print (h : SOk n L m lk rg mode s) (l : List Int) : SOk n L m lk rg mode { s with prints := l } := ⟨h.ths, h.pc, h.regs, h.words, h.own, h.wlen, h.wok, h.bare⟩
theorem SOk.fall (h : SOk n L m lk rg mode s) : SOk n L m lk rg mode (fallX s) := ⟨h.ths, h.pc, h.regs, h.words, h.own, h.wlen, h.wok, h.bare⟩
theorem SOk.setR (h : SOk n L m lk rg mode s) {t : Nat} (ht : t < n) (r x : Int) : SOk n L m lk rg mode (setR s t r x) := h.th ht (h.pc t ht) (by simpa using h.regs t ht) (h.wlen t ht) (h.wok t ht) (fun h0 => h.bare h0 t ht)
theorem SOk.setPc (h : SOk n L m lk rg mode s) {t : Nat} (ht : t < n) {k : Nat} (hk : k ≤ L t) : SOk n L m lk rg mode (setTh s t { thOf s t with pc := k }) := h.th ht hk (h.regs t ht) (h.wlen t ht) (h.wok t ht) (fun h0 => h.bare h0 t ht)
theorem SOk.done (h : SOk n L m lk rg mode s) (x : Wt) : SOk n L m lk rg mode (doneW s x) := by
  unfold doneW
  split
  · exact h.setOwn _ _
  · exact h.setWord _ _
theorem SOk.store (h : SOk n L m lk rg mode s) {t : Nat} (ht : t < n) (_hm : 0 ≤ mode) (hw : (thOf s t).wait.length < 3) (x : Wt) (hx : (0 ≤ x.wh ∧ x.wh < (if x.lk then lk else m : Nat)) ∧ (x.lk = true → x.what = 0)) : SOk n L m lk rg mode (storeW mode s t x) := by
  unfold storeW
  split
  · refine h.th ht (h.pc t ht) (h.regs t ht) (by simp; omega) (fun y hy => ?_) (fun h0 => by omega)
    simp only [List.mem_append, List.mem_singleton] at hy
    rcases hy with hy | rfl
    · exact h.wok t ht y hy
    · exact hx
  · exact h.done x
/-- An order. -/
theorem SOk.order (h : SOk n L m lk rg mode s) {t : Nat} (ht : t < n) (hm : 0 ≤ mode) {op a b c : Int} (hw : op = 9 ∨ op = 11 ∨ op = 18 → (thOf s t).wait.length < 3) (hc : ordE rg m lk (L t) op a b c = 0) : SOk n L m lk rg mode (orderX mode s t op a b c) := by
  have hop := ok_op hc
  unfold orderX
  by_cases h1 : op = 1
  · rw [if_pos h1]; exact h.setR ht _ _
  rw [if_neg h1]
  by_cases h1 : op = 2
  · rw [if_pos h1]; exact h.setR ht _ _
  rw [if_neg h1]
  by_cases h1 : op = 3
  · rw [if_pos h1]; exact h.setR ht _ _
  rw [if_neg h1]
  by_cases h1 : op = 4
  · rw [if_pos h1]; exact h.setR ht _ _
  rw [if_neg h1]
  by_cases h1 : op = 5
  · rw [if_pos h1]; exact h.setR ht _ _
  rw [if_neg h1]
  by_cases h1 : op = 6
  · rw [if_pos h1]; exact h.setR ht _ _
  rw [if_neg h1]
  by_cases h1 : op = 7
  · rw [if_pos h1]; exact h.setR ht _ _
  rw [if_neg h1]
  by_cases h1 : op = 8
  · rw [if_pos h1]; exact h.setR ht _ _
  rw [if_neg h1]
  by_cases h1 : op = 9
  · rw [if_pos h1]
    subst h1
    have := (ok_store hc).1
    exact h.store ht hm (hw (Or.inl rfl)) _ ⟨by show 0 ≤ a ∧ a < ((m : Nat) : Int); omega, fun h => by cases h⟩
  rw [if_neg h1]
  by_cases h1 : op = 10
  · rw [if_pos h1]
    split
    · exact h.fall
    · exact h.setR ht _ _
  rw [if_neg h1]
  by_cases h1 : op = 11
  · rw [if_pos h1]
    split
    · exact h.fall
    · rename_i hn
      rw [h.words] at hn
      exact h.store ht hm (hw (Or.inr (Or.inl h1))) _ ⟨by show 0 ≤ getR s t a ∧ getR s t a < ((m : Nat) : Int); omega, fun h => by cases h⟩
  rw [if_neg h1]
  by_cases h1 : op = 13
  · rw [if_pos h1]
    split
    · exact (h.setWord _ _).setR ht _ _
    · exact h.setR ht _ _
  rw [if_neg h1]
  by_cases h1 : op = 14
  · rw [if_pos h1]
    subst h1
    have := ok_jump hc
    exact h.setPc ht (by omega)
  rw [if_neg h1]
  by_cases h1 : op = 15
  · rw [if_pos h1]
    subst h1
    have := (ok_zero hc).2
    split
    · exact h.setPc ht (by omega)
    · exact h
  rw [if_neg h1]
  by_cases h1 : op = 16
  · rw [if_pos h1]; exact h.print _
  rw [if_neg h1]
  by_cases h1 : op = 17
  · rw [if_pos h1]; exact h.setOwn _ _
  rw [if_neg h1]
  by_cases h1 : op = 18
  · rw [if_pos h1]
    split
    · exact h.fall
    · have := ok_lock (Or.inr h1) hc
      exact h.store ht hm (hw (Or.inr (Or.inr h1))) _ ⟨by show 0 ≤ a ∧ a < ((lk : Nat) : Int); omega, fun _ => rfl⟩
  rw [if_neg h1]
  exact h
theorem prints_store (s : Sx) (t : Nat) (x : Wt) : (storeW mode s t x).prints = s.prints := by
  unfold storeW doneW setTh
  split
  · rfl
  · split <;> rfl
theorem prints_order (s : Sx) (t : Nat) (op a b c : Int) : (orderX mode s t op a b c).prints.length ≤ s.prints.length + 2 := by
  have key : ∀ (p : Prop) [Decidable p] (x y : Sx), x.prints.length ≤ s.prints.length + 2 → y.prints.length ≤ s.prints.length + 2 → (if p then x else y).prints.length ≤ s.prints.length + 2 := fun p _ x y hx hy => by
    split
    · exact hx
    · exact hy
  unfold orderX
  repeat' (refine key _ _ _ ?_ ?_)
  all_goals first | (show s.prints.length ≤ _; omega) | (rw [prints_store]; omega) | simp
end
theorem able_lt {L : Nat → Nat} {X : Nat → Nat → Nat → Int} {s : Sx} {t : Nat} (h : ableT L X s t = true) : (thOf s t).pc < L t := by
  rcases Nat.lt_or_ge (thOf s t).pc (L t) with h1 | h1
  · exact h1
  · unfold ableT endedT at h
    rw [decide_eq_true h1] at h
    simp at h
theorem able_room {L : Nat → Nat} {X : Nat → Nat → Nat → Int} {s : Sx} {t : Nat} (h : ableT L X s t = true) (ho : opT X s t 0 = 9 ∨ opT X s t 0 = 11 ∨ opT X s t 0 = 18) : (thOf s t).wait.length < 3 := by
  have h1 := able_lt h
  unfold ableT endedT at h
  rw [decide_eq_false (by omega)] at h
  simp only [Bool.false_eq_true, if_false] at h
  rw [if_pos ho] at h
  simpa using h
end

end Go.Proofs.YtocfocjnnjdcgaaDoor
