/-
  A set's registers as a list: plain functions, and lists of numbers that are made.
-/
import Derived.Test.YtocfocjnnjdcgaaDoorLivS
import Derived.Test.YtocfocjnnjdcgaaDoorAppB
namespace Go.Proofs.YtocfocjnnjdcgaaDoor
open Go.RowKit

/-- The numbers below n of which p holds, as a list of numbers. -/
def lstP (p : Nat → Bool) (n : Nat) : List Int := ((List.range n).filter p).map fun (r : Nat) => (r : Int)
theorem lstP_snoc (p : Nat → Bool) (n : Nat) : lstP p (n + 1) = lstP p n ++ (if p n then [(n : Int)] else []) := by
  unfold lstP
  rw [List.range_succ, List.filter_append, List.map_append]
  congr 1
  simp only [List.filter_cons, List.filter_nil]
  split <;> rfl
theorem lstP_len (p : Nat → Bool) (n : Nat) : (lstP p n).length ≤ n := by
  unfold lstP
  rw [List.length_map]
  exact Nat.le_trans (List.length_filter_le _ _) (by simp)
theorem lstP_more {p : Nat → Bool} {a : Nat} : ∀ {b : Nat}, a ≤ b → (∀ j, a ≤ j → j < b → p j = false) → lstP p b = lstP p a
  | 0, h, _ => by rw [show a = 0 by omega]
  | b + 1, h, hp => by
    by_cases e : a = b + 1
    · rw [e]
    · rw [lstP_snoc, hp b (by omega) (by omega), lstP_more (by omega) fun j h1 h2 => hp j h1 (by omega)]
      simp
theorem lstP_same {p q : Nat → Bool} {n : Nat} (h : ∀ r, r < n → p r = q r) : lstP p n = lstP q n := by
  induction n with
  | zero => rfl
  | succ n ih => rw [lstP_snoc, lstP_snoc, ih fun r hr => h r (by omega), h n (by omega)]
theorem lstP_mem {p : Nat → Bool} {n : Nat} {x : Int} (h : x ∈ lstP p n) : ∃ r : Nat, x = (r : Int) ∧ r < n ∧ p r = true := by
  unfold lstP at h
  rw [List.mem_map] at h
  obtain ⟨r, hr, e⟩ := h
  rw [List.mem_filter, List.mem_range] at hr
  exact ⟨r, e.symm, hr.1, hr.2⟩
theorem lstP_in {p : Nat → Bool} {n r : Nat} (h : r < n) (hp : p r = true) : (r : Int) ∈ lstP p n := by
  unfold lstP
  exact List.mem_map.2 ⟨r, List.mem_filter.2 ⟨List.mem_range.2 h, hp⟩, rfl⟩

/-- The lowest bit. -/
theorem ctz_low {x : Nat} (h0 : x ≠ 0) (h : x < 18446744073709551616) : Lib.ctz 64 x < 64 ∧ x.testBit (Lib.ctz 64 x) = true ∧ ∀ j, j < Lib.ctz 64 x → x.testBit j = false := by
  unfold Lib.ctz
  rw [if_neg h0]
  obtain ⟨m, h1, h2⟩ := Lib.ctzFrom_spec 64 x (by omega) h
  obtain ⟨k, hk⟩ : ∃ k, Lib.ctzFrom 64 x = k := ⟨_, rfl⟩
  rw [hk] at h1 h2 ⊢
  subst h1
  refine ⟨h2, ?_, fun j hj => ?_⟩
  · rw [Nat.testBit_two_pow_mul]
    simp
  · rw [Nat.testBit_two_pow_mul]
    have : ¬ k ≤ j := by omega
    simp [this]
/-- What is left of word i of a set, and the list so far. -/
structure LsI (f : Nat → Nat) (i rest : Nat) (out : List Int) : Prop where
  ex : ∃ m, m ≤ 64 ∧ (∀ j, rest.testBit j = ((f i).testBit j && decide (m ≤ j))) ∧ out = lstP (has f) (i * 64 + m)
  lt : rest < 18446744073709551616
theorem has_at (f : Nat → Nat) {i j : Nat} (hj : j < 64) : has f (i * 64 + j) = (f i).testBit j := by
  unfold has
  rw [show (i * 64 + j) / 64 = i by omega, show (i * 64 + j) % 64 = j by omega]
theorem LsI.start {f : Nat → Nat} (hf : W64 f) (i : Nat) : LsI f i (f i) (lstP (has f) (i * 64)) := ⟨⟨0, by omega, fun j => by simp, rfl⟩, hf i⟩
theorem LsI.next {f : Nat → Nat} {i rest : Nat} {out : List Int} (h : LsI f i rest out) (h0 : rest ≠ 0) : LsI f i (clr rest (Lib.ctz 64 rest)) (out ++ [((i * 64 + Lib.ctz 64 rest : Nat) : Int)]) ∧ Lib.ctz 64 rest < 64 ∧ clr rest (Lib.ctz 64 rest) < rest := by
  obtain ⟨⟨m, hm, hb, rfl⟩, hlt⟩ := h
  obtain ⟨h1, h2, h3⟩ := ctz_low h0 hlt
  obtain ⟨k, hk⟩ : ∃ k, Lib.ctz 64 rest = k := ⟨_, rfl⟩
  rw [hk] at h1 h2 h3 ⊢
  have hbk := hb k
  rw [h2] at hbk
  have hbk := hbk.symm
  rw [Bool.and_eq_true, decide_eq_true_eq] at hbk
  refine ⟨⟨⟨k + 1, by omega, fun j => ?_, ?_⟩, clr_lt _ _⟩, h1, ?_⟩
  · rw [clr_bit hlt]
    by_cases hj : j < k
    · rw [h3 j hj]
      have : ¬ k + 1 ≤ j := by omega
      simp [this]
    · rw [hb j]
      by_cases e : j = k
      · simp [e]
      · have h4 : k + 1 ≤ j := by omega
        have h5 : m ≤ j := by omega
        simp [e, h4, h5]
  · rw [show i * 64 + (k + 1) = (i * 64 + k) + 1 by omega, lstP_snoc, has_at f h1, hbk.1, if_pos rfl]
    rw [lstP_more (a := i * 64 + m) (b := i * 64 + k) (by omega) fun j h4 h5 => ?_]
    obtain ⟨q, rfl⟩ : ∃ q, j = i * 64 + q := ⟨j - i * 64, by omega⟩
    rw [has_at f (by omega)]
    have h6 := hb q
    rw [h3 q (by omega)] at h6
    have h7 : decide (m ≤ q) = true := by simp; omega
    rw [h7, Bool.and_true] at h6
    exact h6.symm
  · have hle : clr rest k ≤ rest := le_of_bits fun j hj => by
      rw [clr_bit hlt, Bool.and_eq_true] at hj
      exact hj.1
    have hne : clr rest k ≠ rest := fun e => by
      have := clr_bit (i := k) (k := k) hlt
      rw [e, h2] at this
      simp at this
    omega
theorem LsI.stop {f : Nat → Nat} {i : Nat} {out : List Int} (h : LsI f i 0 out) : out = lstP (has f) ((i + 1) * 64) := by
  obtain ⟨⟨m, hm, hb, rfl⟩, _⟩ := h
  rw [show (i + 1) * 64 = i * 64 + 64 by omega]
  refine (lstP_more (by omega) fun j h4 h5 => ?_).symm
  obtain ⟨q, rfl⟩ : ∃ q, j = i * 64 + q := ⟨j - i * 64, by omega⟩
  rw [has_at f (by omega)]
  have h6 := hb q
  have h7 : decide (m ≤ q) = true := by simp; omega
  rw [h7, Bool.and_true, Nat.zero_testBit] at h6
  exact h6.symm

/-! Lists of numbers that are made. -/
def OwL (w : World) (B : Nat) (v : Value) (l : List Int) : Prop := w.ownsRow B 3 1 v l.length (intsV l)
theorem OwL.below {w w' : World} {B : Nat} {v : Value} {l : List Int} (h : OwL w B v l) (hb : Below w.heap.size w w') : OwL w' B v l := owns_below2 h hb
theorem OwL.low {w : World} {B B' : Nat} {v : Value} {l : List Int} (h : OwL w B v l) (hB : B' ≤ B) : OwL w B' v l := own_low h hB
theorem owL_nil (w : World) (B : Nat) : OwL w B nilV [] := World.ownsRow_nil _ _ _ _
theorem OwL.form {w : World} {B : Nat} {v : Value} {l : List Int} (h : OwL w B v l) : ∃ a c, v = .slice a l.length c := fam_form h
/-- It can be read. -/
theorem OwL.sis {w : World} {B : Nat} {a : Option Addr} {n c : Nat} {l : List Int} (h : OwL w B (.slice a n c) l) : SIs w a l := fun k hk => by
  obtain ⟨g, cap, e, hg, _⟩ := fam_block h (by omega)
  simp only [Value.slice.injEq] at e
  exact ⟨g, 0, e.1, by rw [Nat.zero_add]; exact fam_cell h hg (intsV_at hk)⟩
/-- One more number. -/
theorem app_num {w W : World} {B : Nat} {v : Value} {l : List Int} (h : OwL w B v l) (hb : Below w.heap.size w W) (hB : B ≤ w.heap.size) (x : Int) (hl : l.length ≤ 100000) :
    ∃ g cap w3, (AppS #[23, 23] 23 #[v, .slice (some ⟨W.heap.size, 0, none⟩) 1 1]).run Tryd.prog (W.alloc (.cells #[.int .i64 x] 3)) = .ok (.slice (some ⟨g, 0, none⟩) (l.length + 1) cap) w3 ∧ OwL w3 B (.slice (some ⟨g, 0, none⟩) (l.length + 1) cap) (l ++ [x]) ∧ ∀ S, Below B S W → Below B S w3 := by
  obtain ⟨g, cap, w3, r1, r2, r3, r4⟩ := app_row Tryd.underlying23 infoI rfl (by decide) h hb hB 1 #[.int .i64 x] rfl (by intro u hu; simp at hu; subst hu; rfl) (by decide) (by omega) (by decide)
  refine ⟨g, cap, w3, r1, ?_, fun S hS => ?_⟩
  · unfold OwL
    rw [List.length_append]
    have : intsV (l ++ [x]) = intsV l ++ [.int .i64 x] := by simp [intsV]
    rw [this]
    exact r2
  · have hs := hb.size
    exact (hS.alloc (by omega) _).grown r3 (by simp; omega) (fun k hk => (h.lt k hk).1)

end Go.Proofs.YtocfocjnnjdcgaaDoor
