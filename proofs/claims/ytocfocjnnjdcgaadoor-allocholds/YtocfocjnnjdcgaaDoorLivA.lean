/-
  A set's registers as a list: plain functions, and lists of numbers that are made.
  Sets of registers: what the program's small functions make of them.
  A set's registers as a list: the program's walk; the lowest bit.
-/
import Derived.Test.YtocfocjnnjdcgaaDoorLivP
import Derived.Test.YtocfocjnnjdcgaaDoorFam
import Derived.Test.YtocfocjnnjdcgaaDoorBox
import Derived.BigRegion
import Derived.LoopN
import Derived.Shelf.Spec.TrailingZeros
namespace Go.Proofs.YtocfocjnnjdcgaaDoor
section
open Go.RowKit

/-- The numbers below n of which p holds, as a list of numbers. -/
def lstP (p : Nat → Bool) (n : Nat) : List Int := ((List.range n).filter p).map fun (r : Nat) => (r : Int)
theorem lstP_snoc (p : Nat → Bool) (n : Nat) : lstP p (n + 1) = lstP p n ++ (if p n then [(n : Int)] else []) := by
  unfold lstP
  rw [List.range_succ, List.filter_append, List.map_append]
  congr 1
  simp only [List.filter_cons, List.filter_nil]
  split <;> rfl
theorem lstP_len (p : Nat → Bool) (n : Nat) : (lstP p n).length ≤ n := by
  unfold lstP
  rw [List.length_map]
  exact Nat.le_trans (List.length_filter_le _ _) (by simp)
theorem lstP_more {p : Nat → Bool} {a : Nat} : ∀ {b : Nat}, a ≤ b → (∀ j, a ≤ j → j < b → p j = false) → lstP p b = lstP p a
  | 0, h, _ => by rw [show a = 0 by omega]
  | b + 1, h, hp => by
    by_cases e : a = b + 1
    · rw [e]
    · rw [lstP_snoc, hp b (by omega) (by omega), lstP_more (by omega) fun j h1 h2 => hp j h1 (by omega)]
      simp
theorem lstP_mem {p : Nat → Bool} {n : Nat} {x : Int} (h : x ∈ lstP p n) : ∃ r : Nat, x = (r : Int) ∧ r < n ∧ p r = true := by
  unfold lstP at h
  rw [List.mem_map] at h
  obtain ⟨r, hr, e⟩ := h
  rw [List.mem_filter, List.mem_range] at hr
  exact ⟨r, e.symm, hr.1, hr.2⟩
theorem lstP_in {p : Nat → Bool} {n r : Nat} (h : r < n) (hp : p r = true) : (r : Int) ∈ lstP p n := by
  unfold lstP
  exact List.mem_map.2 ⟨r, List.mem_filter.2 ⟨List.mem_range.2 h, hp⟩, rfl⟩

/-- The lowest bit. -/
theorem ctz_low {x : Nat} (h0 : x ≠ 0) (h : x < 18446744073709551616) : Lib.ctz 64 x < 64 ∧ x.testBit (Lib.ctz 64 x) = true ∧ ∀ j, j < Lib.ctz 64 x → x.testBit j = false := by
  unfold Lib.ctz
  rw [if_neg h0]
  obtain ⟨m, h1, h2⟩ := Lib.ctzFrom_spec 64 x (by omega) h
  obtain ⟨k, hk⟩ : ∃ k, Lib.ctzFrom 64 x = k := ⟨_, rfl⟩
  rw [hk] at h1 h2 ⊢
  subst h1
  refine ⟨h2, ?_, fun j hj => ?_⟩
  · rw [Nat.testBit_two_pow_mul]
    simp
  · rw [Nat.testBit_two_pow_mul]
    have : ¬ k ≤ j := by omega
    simp [this]
/-- What is left of word i of a set, and the list so far. -/
structure LsI (f : Nat → Nat) (i rest : Nat) (out : List Int) : Prop where
  ex : ∃ m, m ≤ 64 ∧ (∀ j, rest.testBit j = ((f i).testBit j && decide (m ≤ j))) ∧ out = lstP (has f) (i * 64 + m)
  lt : rest < 18446744073709551616
theorem has_at (f : Nat → Nat) {i j : Nat} (hj : j < 64) : has f (i * 64 + j) = (f i).testBit j := by
  unfold has
  rw [show (i * 64 + j) / 64 = i by omega, show (i * 64 + j) % 64 = j by omega]
theorem LsI.start {f : Nat → Nat} (hf : W64 f) (i : Nat) : LsI f i (f i) (lstP (has f) (i * 64)) := ⟨⟨0, by omega, fun j => by simp, rfl⟩, hf i⟩
theorem LsI.next {f : Nat → Nat} {i rest : Nat} {out : List Int} (h : LsI f i rest out) (h0 : rest ≠ 0) : LsI f i (clr rest (Lib.ctz 64 rest)) (out ++ [((i * 64 + Lib.ctz 64 rest : Nat) : Int)]) ∧ Lib.ctz 64 rest < 64 ∧ clr rest (Lib.ctz 64 rest) < rest := by
  obtain ⟨⟨m, hm, hb, rfl⟩, hlt⟩ := h
  obtain ⟨h1, h2, h3⟩ := ctz_low h0 hlt
  obtain ⟨k, hk⟩ : ∃ k, Lib.ctz 64 rest = k := ⟨_, rfl⟩
  rw [hk] at h1 h2 h3 ⊢
  have hbk := hb k
  rw [h2] at hbk
  have hbk := hbk.symm
  rw [Bool.and_eq_true, decide_eq_true_eq] at hbk
  refine ⟨⟨⟨k + 1, by omega, fun j => ?_, ?_⟩, clr_lt _ _⟩, h1, ?_⟩
  · rw [clr_bit hlt]
    by_cases hj : j < k
    · rw [h3 j hj]
      have : ¬ k + 1 ≤ j := by omega
      simp [this]
    · rw [hb j]
      by_cases e : j = k
      · simp [e]
      · have h4 : k + 1 ≤ j := by omega
        have h5 : m ≤ j := by omega
        simp [e, h4, h5]
  · rw [show i * 64 + (k + 1) = (i * 64 + k) + 1 by omega, lstP_snoc, has_at f h1, hbk.1, if_pos rfl]
    rw [lstP_more (a := i * 64 + m) (b := i * 64 + k) (by omega) fun j h4 h5 => ?_]
    obtain ⟨q, rfl⟩ : ∃ q, j = i * 64 + q := ⟨j - i * 64, by omega⟩
    rw [has_at f (by omega)]
    have h6 := hb q
    rw [h3 q (by omega)] at h6
    have h7 : decide (m ≤ q) = true := by simp; omega
    rw [h7, Bool.and_true] at h6
    exact h6.symm
  · have hle : clr rest k ≤ rest := le_of_bits fun j hj => by
      rw [clr_bit hlt, Bool.and_eq_true] at hj
      exact hj.1
    have hne : clr rest k ≠ rest := fun e => by
      have := clr_bit (i := k) (k := k) hlt
      rw [e, h2] at this
      simp at this
    omega
theorem LsI.stop {f : Nat → Nat} {i : Nat} {out : List Int} (h : LsI f i 0 out) : out = lstP (has f) ((i + 1) * 64) := by
  obtain ⟨⟨m, hm, hb, rfl⟩, _⟩ := h
  rw [show (i + 1) * 64 = i * 64 + 64 by omega]
  refine (lstP_more (by omega) fun j h4 h5 => ?_).symm
  obtain ⟨q, rfl⟩ : ∃ q, j = i * 64 + q := ⟨j - i * 64, by omega⟩
  rw [has_at f (by omega)]
  have h6 := hb q
  have h7 : decide (m ≤ q) = true := by simp; omega
  rw [h7, Bool.and_true, Nat.zero_testBit] at h6
  exact h6.symm

/-! Lists of numbers that are made. -/
def OwL (w : World) (B : Nat) (v : Value) (l : List Int) : Prop := w.ownsRow B 3 1 v l.length (intsV l)
theorem OwL.below {w w' : World} {B : Nat} {v : Value} {l : List Int} (h : OwL w B v l) (hb : Below w.heap.size w w') : OwL w' B v l := owns_below2 h hb
theorem OwL.low {w : World} {B B' : Nat} {v : Value} {l : List Int} (h : OwL w B v l) (hB : B' ≤ B) : OwL w B' v l := own_low h hB
theorem owL_nil (w : World) (B : Nat) : OwL w B nilV [] := World.ownsRow_nil _ _ _ _
theorem OwL.form {w : World} {B : Nat} {v : Value} {l : List Int} (h : OwL w B v l) : ∃ a c, v = .slice a l.length c := fam_form h
/-- It can be read. -/
theorem OwL.sis {w : World} {B : Nat} {a : Option Addr} {n c : Nat} {l : List Int} (h : OwL w B (.slice a n c) l) : SIs w a l := fun k hk => by
  obtain ⟨g, cap, e, hg, _⟩ := fam_block h (by omega)
  simp only [Value.slice.injEq] at e
  exact ⟨g, 0, e.1, by rw [Nat.zero_add]; exact fam_cell h hg (intsV_at hk)⟩
/-- One more number. -/
theorem app_num {w W : World} {B : Nat} {v : Value} {l : List Int} (h : OwL w B v l) (hb : Below w.heap.size w W) (hB : B ≤ w.heap.size) (x : Int) (hl : l.length ≤ 100000) :
    ∃ g cap w3, (AppS #[23, 23] 23 #[v, .slice (some ⟨W.heap.size, 0, none⟩) 1 1]).run Tryd.prog (W.alloc (.cells #[.int .i64 x] 3)) = .ok (.slice (some ⟨g, 0, none⟩) (l.length + 1) cap) w3 ∧ OwL w3 B (.slice (some ⟨g, 0, none⟩) (l.length + 1) cap) (l ++ [x]) ∧ ∀ S, Below B S W → Below B S w3 := by
  obtain ⟨g, cap, w3, r1, r2, r3, r4⟩ := app_row Tryd.underlying23 infoI rfl (by decide) h hb hB 1 #[.int .i64 x] rfl (by intro u hu; simp at hu; subst hu; rfl) (by decide) (by omega) (by decide)
  refine ⟨g, cap, w3, r1, ?_, fun S hS => ?_⟩
  · unfold OwL
    rw [List.length_append]
    have : intsV (l ++ [x]) = intsV l ++ [.int .i64 x] := by simp [intsV]
    rw [this]
    exact r2
  · have hs := hb.size
    exact (hS.alloc (by omega) _).grown r3 (by simp; omega) (fun k hk => (h.lt k hk).1)
end

section
open Go.RowKit

/-- A set as a value. -/
abbrev setV (f : Nat → Nat) : Value := .agg #[.int .u64 (f 0), .int .u64 (f 1), .int .u64 (f 2), .int .u64 (f 3)]
/-- A set in a box. -/
abbrev setO (f : Nat → Nat) : Obj := .cells #[.int .u64 (f 0), .int .u64 (f 1), .int .u64 (f 2), .int .u64 (f 3)] 88
theorem div_fact (r : Nat) : (r : Int).tdiv 64 = ((r / 64 : Nat) : Int) ∧ (r : Int).tmod 64 = ((r % 64 : Nat) : Int) := ⟨(Int.ofNat_tdiv r 64).symm, (Int.ofNat_tmod r 64).symm⟩

set_option maxHeartbeats 1600000 in
theorem without_any (f : Nat → Nat) (r : Nat) (hr : r < 256) (w : World) :
    Calls Tryd.prog 53 #[setV f, .int .i64 r] w fun e w' => e = .returned (setV (wout f r)) ∧ Below w.heap.size w w' := by
  obtain ⟨h1, h2⟩ := div_fact r
  obtain ⟨q, hq⟩ : ∃ q, r / 64 = q := ⟨_, rfl⟩
  obtain ⟨k, hk⟩ : ∃ k, r % 64 = k := ⟨_, rfl⟩
  have hk64 : k < 64 := by omega
  have hq4 : q = 0 ∨ q = 1 ∨ q = 2 ∨ q = 3 := by omega
  have HE : Hid (∀ i, (if i = q then (bits .andNot .u64 (f i) (IntKind.u64.wrap (2 ^ min k 64))) else ((f i : Nat) : Int)) = ((wout f r i : Nat) : Int)) := fun i => by
    unfold wout
    rw [hq, hk]
    split
    · rw [shl_run hk64, clr_run]
    · rfl
  rw [hq] at h1
  rw [hk] at h2
  clear hq hk
  have HK := Hid.out (p := Hid _) hk64
  clear hk64
  rcases hq4 with rfl | rfl | rfl | rfl
  all_goals
    go_enter Tryd.func53, Tryd.ntmps53
    go_wp2
    go_region
    all_goals go_wp2
    all_goals
      have e0 := HE.out 0
      have e1 := HE.out 1
      have e2 := HE.out 2
      have e3 := HE.out 3
      simp at e0 e1 e2 e3
      refine bodyPost_ret (v := setV (wout f r)) ?_ rfl ⟨rfl, ?_⟩
      · simp [results, Tryd.results53, go_sem, setV, ← e0, ← e1, ← e2, ← e3]
      · exact (((Below.refl _ _).alloc (Nat.le_refl _) _).alloc (by simp) _).drew

/-- One of a set's words. -/
theorem idx_set (g : Nat → Nat) : (∀ W, (Instr.index 88 (setV g) (.int .i64 0)).run Tryd.prog W = .ok (.int .u64 (g 0)) W) ∧ (∀ W, (Instr.index 88 (setV g) (.int .i64 1)).run Tryd.prog W = .ok (.int .u64 (g 1)) W) ∧ (∀ W, (Instr.index 88 (setV g) (.int .i64 2)).run Tryd.prog W = .ok (.int .u64 (g 2)) W) ∧ (∀ W, (Instr.index 88 (setV g) (.int .i64 3)).run Tryd.prog W = .ok (.int .u64 (g 3)) W) :=
  ⟨fun _ => by kernel_rfl, fun _ => by kernel_rfl, fun _ => by kernel_rfl, fun _ => by kernel_rfl⟩
set_option maxHeartbeats 1600000 in
theorem setJoined_any (f g : Nat → Nat) (hf : W64 f) (hg : W64 g) (w : World) :
    Calls Tryd.prog 54 #[setV f, setV g] w fun e w' => e = .returned (setV (jnd f g)) ∧ Below w.heap.size w w' := by
  have HE : Hid (∀ i, bits .or .u64 ((f i : Nat) : Int) ((g i : Nat) : Int) = ((jnd f g i : Nat) : Int)) := fun i => bits_or_u64_nat (f i) (g i) (hf i) (hg i)
  obtain ⟨i0, i1, i2, i3⟩ := idx_set g
  go_enter Tryd.func54, Tryd.ntmps54
  go_wp2
  refine wp_loop_rounds 5 ?_
  iterate 5 (rw [rounds_succ]; go_wp2)
  have e0 := HE.out 0
  have e1 := HE.out 1
  have e2 := HE.out 2
  have e3 := HE.out 3
  refine bodyPost_ret (v := setV (jnd f g)) ?_ rfl ⟨rfl, ?_⟩
  · simp [results, Tryd.results54, go_sem, setV, ← e0, ← e1, ← e2, ← e3]
  · exact ((((Below.refl _ _).alloc (Nat.le_refl _) _).alloc (by simp) _).alloc (by simp; omega) _)

theorem set_lay {w : World} {b : Nat} {f : Nat → Nat} (h : w.heap[b]? = some (setO f)) : w.cell? ⟨b, 0, none⟩ = some (.int .u64 (f 0)) ∧ w.cell? ⟨b, 1, none⟩ = some (.int .u64 (f 1)) ∧ w.cell? ⟨b, 2, none⟩ = some (.int .u64 (f 2)) ∧ w.cell? ⟨b, 3, none⟩ = some (.int .u64 (f 3)) :=
  ⟨box_cell h rfl, box_cell h rfl, box_cell h rfl, box_cell h rfl⟩

/-- A set that is stored over another one. -/
theorem set_store {w : World} {b : Nat} {f : Nat → Nat} (h : w.heap[b]? = some (setO f)) (g : Nat → Nat) : ((((w.setCell ⟨b, 0, none⟩ (.int .u64 (g 0))).setCell ⟨b, 1, none⟩ (.int .u64 (g 1))).setCell ⟨b, 2, none⟩ (.int .u64 (g 2))).setCell ⟨b, 3, none⟩ (.int .u64 (g 3))).heap[b]? = some (setO g) :=
  (heap_set_same (heap_set_same (heap_set_same (heap_set_same h)))).trans rfl
theorem cell_oth {w : World} {b o b' o' : Nat} {u v : Value} (h : w.cell? ⟨b, o, none⟩ = some v) (hne : b ≠ b') : (w.setCell ⟨b', o', none⟩ u).cell? ⟨b, o, none⟩ = some v := by
  rw [World.cell?_of_block (w := w) (Below.heap_setCell _ _ _ _ (fun x => hne (by simpa using x)))]
  exact h
/-- A number of a list lies in no set. -/
theorem set_not {w : World} {b o : Nat} {f : Nat → Nat} {x : Int} (h : w.heap[b]? = some (setO f)) (hc : w.cell? ⟨b, o, none⟩ = some (.int .i64 x)) : False := by
  unfold World.cell? at hc
  rw [h] at hc
  rcases (by omega : o = 0 ∨ o = 1 ∨ o = 2 ∨ o = 3 ∨ 4 ≤ o) with rfl | rfl | rfl | rfl | h4
  · simp at hc
  · simp at hc
  · simp at hc
  · simp at hc
  · simp [Array.getElem?_eq_none (xs := #[Value.int .u64 (f 0), .int .u64 (f 1), .int .u64 (f 2), .int .u64 (f 3)]) (i := o) (by simpa using h4)] at hc
theorem sis_store {w : World} {b : Nat} {f : Nat → Nat} {a : Option Addr} {l : List Int} (hs : SIs w a l) (h : w.heap[b]? = some (setO f)) (u0 u1 u2 u3 : Value) : SIs ((((w.setCell ⟨b, 0, none⟩ u0).setCell ⟨b, 1, none⟩ u1).setCell ⟨b, 2, none⟩ u2).setCell ⟨b, 3, none⟩ u3) a l := fun i hi => by
  obtain ⟨g, o, e, hc⟩ := hs i hi
  have hne : g ≠ b := fun e2 => by rw [e2] at hc; exact set_not h hc
  exact ⟨g, o, e, cell_oth (cell_oth (cell_oth (cell_oth hc hne) hne) hne) hne⟩
theorem below_store {w V : World} {n b : Nat} (h : Below n w V) (hb : n ≤ b) (u0 u1 u2 u3 : Value) : Below n w ((((V.setCell ⟨b, 0, none⟩ u0).setCell ⟨b, 1, none⟩ u1).setCell ⟨b, 2, none⟩ u2).setCell ⟨b, 3, none⟩ u3) := (((h.setCell hb _).setCell hb _).setCell hb _).setCell hb _
theorem heap_store {w : World} {b g : Nat} (hne : g ≠ b) (u0 u1 u2 u3 : Value) : ((((w.setCell ⟨b, 0, none⟩ u0).setCell ⟨b, 1, none⟩ u1).setCell ⟨b, 2, none⟩ u2).setCell ⟨b, 3, none⟩ u3).heap[g]? = w.heap[g]? := by
  rw [Below.heap_setCell _ _ _ _ (fun x => hne (by simpa using x)), Below.heap_setCell _ _ _ _ (fun x => hne (by simpa using x)), Below.heap_setCell _ _ _ _ (fun x => hne (by simpa using x)), Below.heap_setCell _ _ _ _ (fun x => hne (by simpa using x))]
set_option maxHeartbeats 3200000 in
theorem with_any (f : Nat → Nat) (hf : W64 f) (rs : List Int) (a : Option Addr) (c : Nat) (hrs : ∀ r, r ∈ rs → 0 ≤ r ∧ r < 256) (hl : rs.length ≤ 4) (w : World) (hs : SIs w a rs) :
    Calls Tryd.prog 55 #[setV f, .slice a rs.length c] w fun e w' => e = .returned (setV (addS f rs)) ∧ Below w.heap.size w w' := by
  obtain ⟨n, hn⟩ : ∃ n, rs.length = n := ⟨_, rfl⟩
  have HN := Hid.out (p := Hid _) hn
  have HRS := Hid.out (p := Hid _) hrs
  have HF := Hid.out (p := Hid _) hf
  have HS := Hid.out (p := Hid _) hs
  rw [hn] at hl ⊢
  clear hn hrs hf hs
  go_enter Tryd.func55, Tryd.ntmps55
  go_wp2
  have H0 : Hid (((w.alloc (setO f)).alloc (setO noS)).heap[w.heap.size]? = some (setO (addS f (rs.take 0))) ∧ ((w.alloc (setO f)).alloc (setO noS)).heap[w.heap.size + 1]? = some (setO noS) ∧ Below w.heap.size w ((w.alloc (setO f)).alloc (setO noS))) := by
    refine ⟨box_later (heap_alloc_new w _) _, ?_, ((Below.refl _ _).alloc (Nat.le_refl _) _).alloc (by simp) _⟩
    have := heap_alloc_new (w.alloc (setO f)) (setO noS)
    rwa [World.size_alloc] at this
  go_loopw [9] (fun i wr => ∃ k : Nat, k ≤ n ∧ i = .int .i64 k ∧ Hid (wr.heap[w.heap.size]? = some (setO (addS f (rs.take k))) ∧ wr.heap[w.heap.size + 1]? = some (setO noS) ∧ Below w.heap.size w wr)) (fun i _ => n - (intOf i).toNat)
  case atStart => exact ⟨0, Nat.zero_le _, rfl, H0⟩
  case round =>
    obtain ⟨k, hk, rfl, HI⟩ := hrel
    clear H0
    by_cases hlt : k < n
    · obtain ⟨b, o, rfl, hc⟩ := HS.out k (by rw [HN.out]; exact hlt)
      obtain ⟨r, hr⟩ : ∃ r : Nat, rs.getD k 0 = (r : Int) ∧ r < 256 ∧ rs.take (k + 1) = rs.take k ++ [(r : Int)] := by
        have hkl : k < rs.length := by rw [HN.out]; exact hlt
        have hm := HRS.out _ (List.getElem_mem hkl)
        have e : rs.getD k 0 = rs[k] := by simp [List.getD, hkl]
        obtain ⟨r, hr⟩ : ∃ r : Nat, rs[k] = (r : Int) := ⟨rs[k].toNat, by omega⟩
        rw [hr] at hm e
        refine ⟨r, e, by omega, ?_⟩
        rw [List.take_add_one, List.getElem?_eq_getElem hkl, hr]
        rfl
      have hcw := (HI.out.2.2.cell (lt_of_cell hc)).trans hc
      rw [hr.1] at hcw
      obtain ⟨g, hg⟩ : ∃ g, addS f (rs.take k) = g := ⟨_, rfl⟩
      have HG := Hid.out (p := Hid _) hg
      have hbx := HI.out.1
      rw [hg] at hbx
      have hW : W64 g := by rw [← hg]; exact W64.addS HF.out
      obtain ⟨h1, h2⟩ := div_fact r
      obtain ⟨q, hq⟩ : ∃ q, r / 64 = q := ⟨_, rfl⟩
      obtain ⟨kk, hkk⟩ : ∃ kk, r % 64 = kk := ⟨_, rfl⟩
      have hk64 : kk < 64 := by omega
      have hq4 : q = 0 ∨ q = 1 ∨ q = 2 ∨ q = 3 := by omega
      have HE : Hid (∀ i, (if i = q then (bits .or .u64 (g i) (IntKind.u64.wrap (2 ^ min kk 64))) else ((g i : Nat) : Int)) = ((wth g r i : Nat) : Int)) := fun i => by
        unfold wth
        rw [hq, hkk]
        split
        · rw [shl_run hk64, bits_or_u64_nat _ _ (hW i) (pow_lt64 hk64)]
        · rfl
      have HR := Hid.out (p := Hid _) hr
      have HK := Hid.out (p := Hid _) hk64
      rw [hq] at h1
      rw [hkk] at h2
      obtain ⟨c0, c1, c2, c3⟩ := set_lay hbx
      have f0 := box_free (i := 0) hbx
      have f1 := box_free (i := 1) hbx
      have f2 := box_free (i := 2) hbx
      have f3 := box_free (i := 3) hbx
      clear hq hkk hr hk64 hg hc hW hbx
      rcases hq4 with rfl | rfl | rfl | rfl
      all_goals
        have e0 := HE.out 0
        have e1 := HE.out 1
        have e2 := HE.out 2
        have e3 := HE.out 3
        simp at e0 e1 e2 e3
        have HEE := Hid.out (p := Hid _) (And.intro e0 (And.intro e1 (And.intro e2 e3)))
        clear e0 e1 e2 e3 HE
        go_wp2
        go_region
        all_goals go_wp2
        all_goals go_roundw
        case rel =>
          have hbg := HI.out.1
          rw [HG.out] at hbg
          refine ⟨k + 1, by omega, by go_num, ?_⟩
          refine (⟨?_, ?_, ?_⟩ : _ ∧ _ ∧ _)
          · rw [HR.out.2.2, addS_snoc, HG.out, Int.toNat_natCast]
            refine (heap_set_same hbg).trans ?_
            simp [setO, ← HEE.out.1, ← HEE.out.2.1, ← HEE.out.2.2.1, ← HEE.out.2.2.2]
          · exact (Below.heap_setCell _ _ _ _ (by simp)).trans HI.out.2.1
          · exact (HI.out.2.2.setCell (by simp) _).drew
        case measure => simp [intOf]; omega
    · obtain rfl : k = n := by omega
      have hbx := HI.out.1
      rw [List.take_of_length_le (by rw [HN.out]; exact Nat.le_refl _)] at hbx
      obtain ⟨c0, c1, c2, c3⟩ := set_lay hbx
      obtain ⟨d0, d1, d2, d3⟩ := set_lay HI.out.2.1
      have f0 := box_free (i := 0) HI.out.2.1
      have f1 := box_free (i := 1) HI.out.2.1
      have f2 := box_free (i := 2) HI.out.2.1
      have f3 := box_free (i := 3) HI.out.2.1
      go_wp2
      have hs := set_store HI.out.2.1 (addS f rs)
      have hb : Below w.heap.size w ((((wr.setCell ⟨w.heap.size + 1, 0, none⟩ (.int .u64 (addS f rs 0))).setCell ⟨w.heap.size + 1, 1, none⟩ (.int .u64 (addS f rs 1))).setCell ⟨w.heap.size + 1, 2, none⟩ (.int .u64 (addS f rs 2))).setCell ⟨w.heap.size + 1, 3, none⟩ (.int .u64 (addS f rs 3))) := (((HI.out.2.2.setCell (by simp) _).setCell (by simp) _).setCell (by simp) _).setCell (by simp) _
      obtain ⟨V, hV⟩ : ∃ V, ((((wr.setCell ⟨w.heap.size + 1, 0, none⟩ (.int .u64 (addS f rs 0))).setCell ⟨w.heap.size + 1, 1, none⟩ (.int .u64 (addS f rs 1))).setCell ⟨w.heap.size + 1, 2, none⟩ (.int .u64 (addS f rs 2))).setCell ⟨w.heap.size + 1, 3, none⟩ (.int .u64 (addS f rs 3))) = V := ⟨_, rfl⟩
      rw [hV] at hs hb ⊢
      obtain ⟨t0, t1, t2, t3⟩ := set_lay hs
      refine bodyPost_ret (v := setV (addS f rs)) ?_ rfl ⟨rfl, hb⟩
      simp [results, Tryd.results55, go_sem, setV, t0, t1, t2, t3]
end

section
open Go.RowKit

/-- The table of lowest bits. -/
def TabZ (w : World) : Prop := ∀ j, j < 64 → w.cell? ⟨0, j, none⟩ = some (.int .u8 (Lib.deBruijn64tab.getD j 0 : Nat))
theorem TabZ.below {w w' : World} (h : TabZ w) (hb : Below w.heap.size w w') : TabZ w' := fun j hj => (hb.cell (lt_of_cell (h j hj))).trans (h j hj)

set_option maxHeartbeats 1600000 in
theorem tz_core (x k idx : Nat) (w : World) (hx0 : ((x : Int) == 0) = false)
    (key : IntKind.u64.wrap (bits BinOp.and IntKind.u64 (x : Int) (IntKind.u64.wrap (-(x : Int))) * 285870213051353865) / 288230376151711744 = (idx : Int))
    (hi : idx < 64) (hk : k < 64) (hcell : w.cell? ⟨0, idx, none⟩ = some (.int .u8 k)) :
    Calls Tryd.prog 82 #[.int .u64 x] w fun e w' => e = .returned (.int .i64 k) ∧ w' = w := by
  go_enter Tryd.func82, Tryd.ntmps82
  go_wp2_with (simp only [key])
  go_ret
  exact ⟨rfl, rfl⟩
theorem tz_any (x : Nat) (hx : x < 18446744073709551616) (hx0 : x ≠ 0) (w : World) (hT : TabZ w) :
    Calls Tryd.prog 82 #[.int .u64 x] w fun e w' => e = .returned (.int .i64 (Lib.ctz 64 x)) ∧ w' = w := by
  obtain ⟨hlow, hk⟩ := Lib.lowest_bit 64 x hx0 hx
  obtain ⟨hi, htab⟩ := Lib.deBruijn64_at _ hk
  have hcell := hT _ hi
  rw [htab] at hcell
  exact tz_core x _ _ w (by simp; omega) (Go.Proofs.tz64_key x _ hx hx0 hlow) hi hk hcell

theorem idx_any (f : Nat → Nat) {i : Nat} (hi : i < 4) : ∀ W, (Instr.index 88 (setV f) (.int .i64 i)).run Tryd.prog W = .ok (.int .u64 (f i)) W := by
  obtain ⟨i0, i1, i2, i3⟩ := idx_set f
  rcases (by omega : i = 0 ∨ i = 1 ∨ i = 2 ∨ i = 3) with rfl | rfl | rfl | rfl
  · exact i0
  · exact i1
  · exact i2
  · exact i3
section
attribute [local go_sem ↓] appS_eq
set_option maxRecDepth 100000 in
set_option maxHeartbeats 3200000 in
theorem list_any (f : Nat → Nat) (hf : W64 f) (w : World) (hT : TabZ w) :
    Calls Tryd.prog 48 #[setV f] w fun e w' => ∃ u, e = .returned u ∧ OwL w' w.heap.size u (lstP (has f) 256) ∧ Below w.heap.size w w' := by
  have HF := Hid.out (p := Hid _) hf
  have HT := Hid.out (p := Hid _) hT
  clear hf hT
  go_enter Tryd.func48, Tryd.ntmps48
  go_wp2_with fail
  have HB0 : Hid (Below w.heap.size w (w.alloc (setO f))) := (Below.refl _ _).alloc (Nat.le_refl _) _
  go_loopw [3, 8] (fun u x wr => ∃ i : Nat, i ≤ 4 ∧ x = .int .i64 i ∧ Hid (OwL wr w.heap.size u (lstP (has f) (i * 64)) ∧ Below w.heap.size w wr)) (fun _ x _ => 4 - (intOf x).toNat)
  case atStart => exact ⟨0, by omega, rfl, owL_nil _ _, HB0.out⟩
  case round =>
    obtain ⟨i, hi, rfl, HJ⟩ := hrel
    clear HB0
    by_cases hlt : i < 4
    · have hix := idx_any f hlt
      have hlt' : (i : Int) < 4 := by omega
      have HL : Hid (LsI f i (f i) (lstP (has f) (i * 64))) := LsI.start HF.out i
      obtain ⟨r0, hr0⟩ : ∃ r, f i = r := ⟨_, rfl⟩
      have hix' : ∀ W, (Instr.index 88 (setV f) (.int .i64 i)).run Tryd.prog W = .ok (.int .u64 r0) W := by rw [← hr0]; exact hix
      rw [hr0] at HL
      obtain ⟨l0, hl0⟩ : ∃ l, lstP (has f) (i * 64) = l := ⟨_, rfl⟩
      rw [hl0] at HL HJ
      clear hix hr0 hl0
      go_wp2_with fail
      go_loopw [3, 5] (fun u x wi => ∃ (rest : Nat) (l : List Int), x = .int .u64 rest ∧ Hid (LsI f i rest l ∧ OwL wi w.heap.size u l ∧ Below w.heap.size w wi)) (fun _ x _ => (intOf x).toNat)
      case atStart => exact ⟨r0, l0, rfl, HL.out, HJ.out.1, HJ.out.2⟩
      case round =>
        obtain ⟨rest, l, rfl, HI⟩ := hrel
        clear HL HJ
        by_cases h0 : rest = 0
        · subst h0
          have HN : Hid (l = lstP (has f) ((i + 1) * 64)) := HI.out.1.stop
          go_wp2_with fail
          go_roundw
          case rel => exact ⟨i + 1, by omega, by go_num, by rw [← HN.out]; exact HI.out.2.1, HI.out.2.2⟩
          case measure => simp [intOf]; omega
        · obtain ⟨hn, hk, hlt2⟩ := HI.out.1.next h0
          have hne : ((rest : Int) == 0) = false := by simpa using h0
          have hTz := tz_any rest HI.out.1.lt h0 wr (TabZ.below HT.out HI.out.2.2)
          obtain ⟨k, hkk⟩ : ∃ k, Lib.ctz 64 rest = k := ⟨_, rfl⟩
          rw [hkk] at hn hk hlt2 hTz
          have hx : ((i * 64 + k : Nat) : Int) = (i : Int) * 64 + (k : Int) := by omega
          rw [hx] at hn
          obtain ⟨ua, uc, hu⟩ := HI.out.2.1.form
          have hll : l.length ≤ 100000 := by
            obtain ⟨⟨m, hm, _, e⟩, _⟩ := HI.out.1
            have := lstP_len (has f) (i * 64 + m)
            rw [e]; omega
          obtain ⟨g9, cap, w3, r1, r2, r3⟩ := app_num HI.out.2.1 (Below.refl _ _) HI.out.2.2.size ((i : Int) * 64 + (k : Int)) hll
          rw [hu] at r1
          have HN : Hid (LsI f i (clr rest k) (l ++ [(i : Int) * 64 + (k : Int)]) ∧ clr rest k < rest ∧ k < 64 ∧ OwL w3 w.heap.size (.slice (some ⟨g9, 0, none⟩) (l.length + 1) cap) (l ++ [(i : Int) * 64 + (k : Int)]) ∧ Below w.heap.size w w3) := ⟨hn, hlt2, hk, r2, r3 w HI.out.2.2⟩
          have HTZ := Hid.out (p := Hid _) hTz
          obtain ⟨m, hm⟩ : ∃ m, l.length = m := ⟨_, rfl⟩
          rw [hm] at hu r1 HN
          have HBT : Hid (bits .andNot .u64 (rest : Int) (IntKind.u64.wrap (2 ^ k)) = ((clr rest k : Nat) : Int)) := by
            show _ = _
            have h1 := shl_run hk
            rw [Nat.min_eq_left (Nat.le_of_lt hk)] at h1
            rw [h1, clr_run]
          clear hn hlt2 hTz hkk h0 hll r2 r3 hx hm
          subst hu
          go_wp2_with fail
          refine Calls.mono HTZ.out ?_
          rintro e w5 ⟨rfl, rfl⟩
          clear HTZ
          go_wp2_with fail
          go_roundw
          case rel => exact ⟨clr rest k, _, by rw [HBT.out], HN.out.1, HN.out.2.2.2.1, HN.out.2.2.2.2⟩
          case measure => simp only [intOf, HBT.out, Int.toNat_natCast]; exact HN.out.2.1
    · obtain rfl : i = 4 := by omega
      have HN := HJ.out
      go_wp2_with fail
      refine bodyPost_ret (v := u3) (by simp [results, Tryd.results48, go_sem]) rfl ⟨_, rfl, HN⟩
end
end

end Go.Proofs.YtocfocjnnjdcgaaDoor
