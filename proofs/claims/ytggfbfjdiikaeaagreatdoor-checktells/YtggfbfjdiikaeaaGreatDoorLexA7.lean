/-
  The program's tokens: numbers.
-/
import Derived.Test.YtggfbfjdiikaeaaGreatDoorSynG7
import Derived.Lib.SmallJoins
namespace Go.Proofs.YtggfbfjdiikaeaaGreatDoor
open Go.RowKit

theorem errName : Tryz.prog.globalNamed "strconv.ErrRange" = some 2 := by kernel_rfl
theorem signsName : Tryz.prog.globalNamed "sluice/lex.signs" = some 0 := by kernel_rfl
/-- The signs, as the program has them. -/
def signsL : List ByteArray := [⟨#[60, 61]⟩, ⟨#[62, 61]⟩, ⟨#[61, 61]⟩, ⟨#[33, 61]⟩, ⟨#[38, 38]⟩, ⟨#[124, 124]⟩, ⟨#[43]⟩, ⟨#[45]⟩, ⟨#[42]⟩, ⟨#[60]⟩, ⟨#[62]⟩, ⟨#[33]⟩, ⟨#[40]⟩, ⟨#[41]⟩, ⟨#[123]⟩, ⟨#[125]⟩, ⟨#[59]⟩, ⟨#[44]⟩, ⟨#[61]⟩]
/-- What the scanner finds in memory besides. -/
structure LEnv (w : World) : Prop where
  rng : ∃ tp p, World.var? Tryz.prog w "strconv.ErrRange" = some #[.iface tp p]
  sg : World.var? Tryz.prog w "sluice/lex.signs" = some (signsL.map Value.string).toArray
  sz : 6 ≤ w.heap.size
theorem LEnv.grown {w w' : World} {sb : Nat} (h : LEnv w) (hg : w.grownBy w' (some sb)) (hsb : 6 ≤ sb) : LEnv w' := by
  have e : ∀ g, g < 6 → w'.heap[g]? = w.heap[g]? := fun g hlt => hg.block g (Nat.lt_of_lt_of_le hlt h.sz) (by simp; omega)
  refine ⟨?_, ?_, Nat.le_trans h.sz hg.size⟩
  · obtain ⟨tp, p, h1⟩ := h.rng
    refine ⟨tp, p, ?_⟩
    rw [← h1]
    unfold World.var?
    rw [errName]
    simp only [Option.bind_some]
    rw [e _ (by decide)]
  · rw [← h.sg]
    unfold World.var?
    rw [signsName]
    simp only [Option.bind_some]
    rw [e _ (by decide)]
theorem LEnv.below {w w' : World} (h : LEnv w) (hb : Below w.heap.size w w') : LEnv w' := h.grown (sb := 6) (grown_of_below hb _) (Nat.le_refl _)

/-- Digits alone are a number, or too great. -/
theorem parseU_digits : ∀ (l : List UInt8) (a : Nat), l.all isDig = true → Lib.parseUint10 a l ≠ .syntax
  | [], a, _ => by simp [Lib.parseUint10]
  | c :: r, a, h => by
    simp only [List.all_cons, Bool.and_eq_true] at h
    have hc : 48 ≤ c.toNat ∧ c.toNat ≤ 57 := by have := h.1; simp [isDig] at this; omega
    rw [Lib.parseUint10, if_pos hc]
    split
    · simp
    · split
      · simp
      · exact parseU_digits r _ h.2
theorem atoi_digits {l : List UInt8} (h : l.all isDig = true) (h1 : 1 ≤ l.length) : (∃ v, Lib.atoiAll l = .ok v) ∨ Lib.atoiAll l = .range := by
  match l, h, h1 with
  | c :: r, h, _ =>
    have hc : 48 ≤ c.toNat := by have := h; simp [isDig] at this; omega
    have hp : Lib.parseMag (c :: r) ≠ .syntax := by
      unfold Lib.parseMag
      rw [if_neg (by simp)]
      exact parseU_digits _ _ h
    rw [Lib.atoiAll_plain c r (by omega) (by omega)]
    cases hm : Lib.parseMag (c :: r) with
    | «syntax» => exact absurd hm hp
    | range => exact Or.inr rfl
    | ok u =>
      simp only [Lib.signless]
      split
      · exact Or.inr rfl
      · exact Or.inl ⟨_, rfl⟩
theorem take_all (p : UInt8 → Bool) : ∀ l : List UInt8, (l.takeWhile p).all p = true
  | [] => rfl
  | b :: r => by
    by_cases h : p b = true
    · simp [List.takeWhile_cons_of_pos h, h, take_all p r]
    · simp [List.takeWhile_cons_of_neg h]
theorem digs_text {s : ByteArray} {i N : Nat} (hi : i < s.size) (hd : isDig s[i] = true) (hN : 1 + twAt isDig s (i + 1) = N) : (s.extract i (i + N)).data.toList.all isDig = true := by
  rw [← hN, twAt_text hi]
  simp only [List.all_cons, hd, Bool.true_and]
  exact take_all isDig _
/-- A short number is what its digits tell. -/
theorem atoi_short {l : List UInt8} (h : l.all isDig = true) (h1 : 1 ≤ l.length) (h9 : l.length ≤ 9) : Lib.atoiAll l = .ok (mag l : Int) := by
  have hf : formed l = true := by simp [formed, h]; omega
  have hn : isNeg l = false := by
    match l, h, h1 with
    | c :: r, h, _ =>
      have hc : 48 ≤ c.toNat := by have := h; simp [isDig] at this; omega
      simp only [isNeg, List.head?_cons, beq_eq_false_iff_ne, ne_eq, Option.some.injEq]
      rintro rfl
      exact absurd hc (by decide)
  have hd : digs l = l := by simp [digs, hn]
  have h3 := atoi_pos hn (by rw [hd]; exact hf)
  have h4 := magFrom_lt l 0 h
  have h5 : 10 ^ l.length ≤ 10 ^ 9 := Nat.pow_le_pow_right (by omega) h9
  have h6 : magFrom 0 l = mag l := rfl
  rw [hd, if_pos (by omega)] at h3
  exact h3


theorem below_bytes {w w' : World} (h : w' = w ∨ ∃ t, w' = Lib.bytesWorld w 5 t) : Below w.heap.size w w' := by
  rcases h with rfl | ⟨t, rfl⟩
  · exact Below.refl _ _
  · exact Go.Joins.below_bytesWorld _ _ _ _ (Nat.le_refl _)

set_option maxRecDepth 100000 in
set_option maxHeartbeats 1600000 in
theorem lexNumber_any (sb : Nat) (s : ByteArray) (hs : s.size ≤ 4000) (i : Nat) (hi : i < s.size) (hl : isLet s[i] = false) (hd : isDig s[i] = true) (w : World) (h : Sc w sb s i) (hE : LEnv w) (hsb : 6 ≤ sb) :
    Calls Tryz.prog 108 #[.pointer (some ⟨sb, 0, none⟩)] w fun e w' => TokQ w sb s i e w' := by
  obtain ⟨N, hN⟩ : ∃ N, 1 + twAt isDig s (i + 1) = N := ⟨_, rfl⟩
  have hN1 : 1 ≤ N := by omega
  have hN2 : i + twAt isDig s i = i + N := by rw [twAt_more hi hd, ← hN]; omega
  have hle : i + N ≤ s.size := by rw [← hN2]; exact twAt_le (by omega)
  have HQ : Hid (oneL (s.data.toList.drop i) = if 9 < N ∨ (1 < N ∧ s[i].toNat = 48) then none else some (3, (mag (s.extract i (i + N)).data.toList : Int), N)) := oneL_num hi hl hd hN
  have HN2 := Hid.out (p := Hid _) hN2
  obtain ⟨x, hx⟩ : ∃ x : ByteArray, s.extract i (i + N) = x := ⟨_, rfl⟩
  have hxs : x.size = N := by rw [← hx]; exact extract_size s i N hle
  have hxd : x.data.toList.all isDig = true := by rw [← hx]; exact digs_text hi hd hN
  have hx0 : 0 < x.size := by omega
  have hxi : x[0] = s[i] := by
    have h1 : x.data.toList = s[i] :: (s.data.toList.drop (i + 1)).takeWhile isDig := by rw [← hx, ← hN]; exact twAt_text hi
    have h2 := drop_at x 0 hx0
    rw [List.drop_zero, h1] at h2
    exact (List.cons.inj h2).1.symm
  have HX := Hid.out (p := Hid _) hx
  have HXD := Hid.out (p := Hid _) hxd
  clear hN hN2 hx hxd
  have hA : Below w.heap.size w (w.alloc (.cells #[.int .i64 0, .int .i64 0, .int .i64 0, .string ⟨#[]⟩] 98)) := (Below.refl _ _).alloc (Nat.le_refl _) _
  have hSA := h.below hA
  have hAx : (w.alloc (.cells #[.int .i64 0, .int .i64 0, .int .i64 0, .string ⟨#[]⟩] 98)).heap[w.heap.size]? = some (.cells #[.int .i64 0, .int .i64 0, .int .i64 0, .string ⟨#[]⟩] 98) := heap_alloc_new _ _
  have hAl : w.heap.size < (w.alloc (.cells #[.int .i64 0, .int .i64 0, .int .i64 0, .string ⟨#[]⟩] 98)).heap.size := by simp
  have hne : some w.heap.size ≠ some sb := by have := h.lt; simp; omega
  have HA := Hid.out (p := Hid _) (And.intro hA (And.intro hSA (And.intro hAx (And.intro hAl hne))))
  have HEN := Hid.out (p := Hid _) hE
  clear hA hSA hAx hAl hne hE
  rcases atoi_digits HXD.out (by rw [← Lib.size_eq]; omega) with ⟨v, hv⟩ | hv
  · by_cases h9 : 9 < N
    · have h9' : 9 < (x.size : Int) := by omega
      have HQ2 : Hid (∀ e w', w.grownBy w' (some sb) → e = .panicked (badT i) → TokQ w sb s i e w') := fun e w' hg he => by
        unfold TokQ
        rw [HQ.out, if_pos (Or.inl h9)]
        exact ⟨hg, he⟩
      go_enter Tryz.func108, Tryz.ntmps108
      go_wp2_with (first | (go_at_call 130; refine (take_dig sb s hs i (by omega) (i + N) HN2 _ HA.out.2.1).mono ?_; rintro e w1 ⟨rfl, h1, hg1⟩; rw [HX.out]; have HG1 := Hid.out (p := Hid _) (And.intro h1 hg1); clear h1 hg1) | (go_at_call 133; refine (taken_any sb s (i + N) (by omega) _ x (by omega) _ HG1.out.1).mono ?_; rintro e w2 ⟨rfl, hb2⟩; have hx2 := (hb2.block _ (Nat.lt_of_lt_of_le HA.out.2.2.2.1 HG1.out.2.size)).trans ((HG1.out.2.block _ HA.out.2.2.2.1 HA.out.2.2.2.2).trans HA.out.2.2.1); have HX2 := Hid.out (p := Hid _) hx2; have HL2 : Hid (w.heap.size < w2.heap.size) := Nat.lt_of_lt_of_le (Nat.lt_of_lt_of_le HA.out.2.2.2.1 HG1.out.2.size) hb2.size; have HB2 := Hid.out (p := Hid _) hb2; clear hx2 hb2) | (go_at_call 135; refine (Tryz.strconv_Atoi_ok _ (by omega) _ hv _).mono ?_; rintro e w3 ⟨rfl, hww⟩; have hb3 := below_bytes hww; clear hww; have hy3 := (hb3.block w2.heap.size (by simp)).trans (heap_alloc_new w2 _); have hx3 := (hb3.block w.heap.size (by have := HL2.out; simp; omega)).trans (box_later HX2.out _); have t0 := box_cell (i := 0) hy3 rfl; have t1 := box_cell (i := 1) hy3 rfl; have t2 := box_cell (i := 2) hy3 rfl; have t3 := box_cell (i := 3) hy3 rfl; have tf := fun j => box_free (i := j) hy3; have p0 := box_cell (i := 0) hx3 rfl; have p1 := box_cell (i := 1) hx3 rfl; have p2 := box_cell (i := 2) hx3 rfl; have p3 := box_cell (i := 3) hx3 rfl; have pf := fun j => box_free (i := j) hx3; have hn2 : ¬ w.heap.size = w2.heap.size := (by have := HL2.out; omega); have hn3 : ¬ w2.heap.size = w.heap.size := (by have := HL2.out; omega); have HB3 := Hid.out (p := Hid _) hb3; clear hx3 hy3 hb3))
      exact ⟨rfl, HQ2.out _ _ (grown_then (grown_of_below HA.out.1 _) (grown_then HG1.out.2 (grown_then (grown_of_below HB2.out _) (grown_then (grown_alloc (World.grownBy.refl _ _) _) (grown_of_below HB3.out _))))) rfl⟩
    · have h9' : ¬ 9 < (x.size : Int) := by omega
      have hvm : v = (mag x.data.toList : Int) := by
        have h1 := atoi_short HXD.out (by rw [← Lib.size_eq]; omega) (by rw [← Lib.size_eq]; omega)
        rw [hv] at h1
        exact Lib.NumEnd.ok.inj h1
      by_cases h1 : 1 < N
      · have h1' : 1 < (x.size : Int) := by omega
        by_cases h48 : s[i].toNat = 48
        · have e48 : ((x[0].toNat : Int) == 48) = true := by rw [hxi]; simp; omega
          have HQ2 : Hid (∀ e w', w.grownBy w' (some sb) → e = .panicked (badT i) → TokQ w sb s i e w') := fun e w' hg he => by
            unfold TokQ
            rw [HQ.out, if_pos (Or.inr ⟨h1, h48⟩)]
            exact ⟨hg, he⟩
          clear h48 hxi
          go_enter Tryz.func108, Tryz.ntmps108
          go_wp2_with (first | (go_at_call 130; refine (take_dig sb s hs i (by omega) (i + N) HN2 _ HA.out.2.1).mono ?_; rintro e w1 ⟨rfl, h1, hg1⟩; rw [HX.out]; have HG1 := Hid.out (p := Hid _) (And.intro h1 hg1); clear h1 hg1) | (go_at_call 133; refine (taken_any sb s (i + N) (by omega) _ x (by omega) _ HG1.out.1).mono ?_; rintro e w2 ⟨rfl, hb2⟩; have hx2 := (hb2.block _ (Nat.lt_of_lt_of_le HA.out.2.2.2.1 HG1.out.2.size)).trans ((HG1.out.2.block _ HA.out.2.2.2.1 HA.out.2.2.2.2).trans HA.out.2.2.1); have HX2 := Hid.out (p := Hid _) hx2; have HL2 : Hid (w.heap.size < w2.heap.size) := Nat.lt_of_lt_of_le (Nat.lt_of_lt_of_le HA.out.2.2.2.1 HG1.out.2.size) hb2.size; have HB2 := Hid.out (p := Hid _) hb2; clear hx2 hb2) | (go_at_call 135; refine (Tryz.strconv_Atoi_ok _ (by omega) _ hv _).mono ?_; rintro e w3 ⟨rfl, hww⟩; have hb3 := below_bytes hww; clear hww; have hy3 := (hb3.block w2.heap.size (by simp)).trans (heap_alloc_new w2 _); have hx3 := (hb3.block w.heap.size (by have := HL2.out; simp; omega)).trans (box_later HX2.out _); have t0 := box_cell (i := 0) hy3 rfl; have t1 := box_cell (i := 1) hy3 rfl; have t2 := box_cell (i := 2) hy3 rfl; have t3 := box_cell (i := 3) hy3 rfl; have tf := fun j => box_free (i := j) hy3; have p0 := box_cell (i := 0) hx3 rfl; have p1 := box_cell (i := 1) hx3 rfl; have p2 := box_cell (i := 2) hx3 rfl; have p3 := box_cell (i := 3) hx3 rfl; have pf := fun j => box_free (i := j) hx3; have hn2 : ¬ w.heap.size = w2.heap.size := (by have := HL2.out; omega); have hn3 : ¬ w2.heap.size = w.heap.size := (by have := HL2.out; omega); have HB3 := Hid.out (p := Hid _) hb3; clear hx3 hy3 hb3))
          exact ⟨rfl, HQ2.out _ _ (grown_then (grown_of_below HA.out.1 _) (grown_then HG1.out.2 (grown_then (grown_of_below HB2.out _) (grown_then (grown_alloc (World.grownBy.refl _ _) _) (grown_of_below HB3.out _))))) rfl⟩
        · have e48 : ((x[0].toNat : Int) == 48) = false := by rw [hxi, beq_eq_false_iff_ne]; omega
          have HQ2 : Hid (∀ e w', w.grownBy w' (some sb) → e = .returned (.agg #[.int .i64 3, .int .i64 (mag x.data.toList : Int), .int .i64 i, .string x]) → Sc w' sb s (i + N) → TokQ w sb s i e w') := fun e w' hg he hc => by
            unfold TokQ
            rw [HQ.out, if_neg (by omega)]
            refine ⟨hg, ?_, hc⟩
            rw [HX.out]
            exact he
          subst hvm
          clear h48 hxi
          go_enter Tryz.func108, Tryz.ntmps108
          go_wp2_with (first | (go_at_call 130; refine (take_dig sb s hs i (by omega) (i + N) HN2 _ HA.out.2.1).mono ?_; rintro e w1 ⟨rfl, h1, hg1⟩; rw [HX.out]; have HG1 := Hid.out (p := Hid _) (And.intro h1 hg1); clear h1 hg1) | (go_at_call 133; refine (taken_any sb s (i + N) (by omega) _ x (by omega) _ HG1.out.1).mono ?_; rintro e w2 ⟨rfl, hb2⟩; have hx2 := (hb2.block _ (Nat.lt_of_lt_of_le HA.out.2.2.2.1 HG1.out.2.size)).trans ((HG1.out.2.block _ HA.out.2.2.2.1 HA.out.2.2.2.2).trans HA.out.2.2.1); have HX2 := Hid.out (p := Hid _) hx2; have HL2 : Hid (w.heap.size < w2.heap.size) := Nat.lt_of_lt_of_le (Nat.lt_of_lt_of_le HA.out.2.2.2.1 HG1.out.2.size) hb2.size; have HB2 := Hid.out (p := Hid _) hb2; clear hx2 hb2) | (go_at_call 135; refine (Tryz.strconv_Atoi_ok _ (by omega) _ hv _).mono ?_; rintro e w3 ⟨rfl, hww⟩; have hb3 := below_bytes hww; clear hww; have hy3 := (hb3.block w2.heap.size (by simp)).trans (heap_alloc_new w2 _); have hx3 := (hb3.block w.heap.size (by have := HL2.out; simp; omega)).trans (box_later HX2.out _); have t0 := box_cell (i := 0) hy3 rfl; have t1 := box_cell (i := 1) hy3 rfl; have t2 := box_cell (i := 2) hy3 rfl; have t3 := box_cell (i := 3) hy3 rfl; have tf := fun j => box_free (i := j) hy3; have p0 := box_cell (i := 0) hx3 rfl; have p1 := box_cell (i := 1) hx3 rfl; have p2 := box_cell (i := 2) hx3 rfl; have p3 := box_cell (i := 3) hx3 rfl; have pf := fun j => box_free (i := j) hx3; have hn2 : ¬ w.heap.size = w2.heap.size := (by have := HL2.out; omega); have hn3 : ¬ w2.heap.size = w.heap.size := (by have := HL2.out; omega); have HB3 := Hid.out (p := Hid _) hb3; clear hx3 hy3 hb3))
          have hg3 : w.grownBy w3 (some sb) := grown_then (grown_of_below HA.out.1 _) (grown_then HG1.out.2 (grown_then (grown_of_below HB2.out _) (grown_then (grown_alloc (World.grownBy.refl _ _) _) (grown_of_below HB3.out _))))
          have hne : w.heap.size ≠ sb := by have := h.lt; omega
          have hne2 : w2.heap.size ≠ sb := by have := h.lt; have := HL2.out; omega
          have hle2 : w.heap.size ≤ w2.heap.size := Nat.le_of_lt HL2.out
          have hS3 : Sc w3 sb s (i + N) := ((HG1.out.1.below HB2.out).more _).below HB3.out
          refine bodyPost_ret (v := .agg #[.int .i64 3, .int .i64 (mag x.data.toList : Int), .int .i64 i, .string x]) (by simp [results, Tryz.results108, go_sem, p0, p1, p2, p3]) rfl (HQ2.out _ _ ?_ rfl ?_)
          · exact grown_high (grown_high (grown_high (grown_high (grown_high hg3 hle2 _) (Nat.le_refl _) _) (Nat.le_refl _) _) (Nat.le_refl _) _) (Nat.le_refl _) _
          · exact ((((hS3.far hne2 _).far hne _).far hne _).far hne _).far hne _
      · have h1' : ¬ 1 < (x.size : Int) := by omega
        cases e48 : ((x[0].toNat : Int) == 48)
        all_goals
          have HQ2 : Hid (∀ e w', w.grownBy w' (some sb) → e = .returned (.agg #[.int .i64 3, .int .i64 (mag x.data.toList : Int), .int .i64 i, .string x]) → Sc w' sb s (i + N) → TokQ w sb s i e w') := fun e w' hg he hc => by
            unfold TokQ
            rw [HQ.out, if_neg (by omega)]
            refine ⟨hg, ?_, hc⟩
            rw [HX.out]
            exact he
          clear hxi
          subst hvm
          go_enter Tryz.func108, Tryz.ntmps108
          go_wp2_with (first | (go_at_call 130; refine (take_dig sb s hs i (by omega) (i + N) HN2 _ HA.out.2.1).mono ?_; rintro e w1 ⟨rfl, h1, hg1⟩; rw [HX.out]; have HG1 := Hid.out (p := Hid _) (And.intro h1 hg1); clear h1 hg1) | (go_at_call 133; refine (taken_any sb s (i + N) (by omega) _ x (by omega) _ HG1.out.1).mono ?_; rintro e w2 ⟨rfl, hb2⟩; have hx2 := (hb2.block _ (Nat.lt_of_lt_of_le HA.out.2.2.2.1 HG1.out.2.size)).trans ((HG1.out.2.block _ HA.out.2.2.2.1 HA.out.2.2.2.2).trans HA.out.2.2.1); have HX2 := Hid.out (p := Hid _) hx2; have HL2 : Hid (w.heap.size < w2.heap.size) := Nat.lt_of_lt_of_le (Nat.lt_of_lt_of_le HA.out.2.2.2.1 HG1.out.2.size) hb2.size; have HB2 := Hid.out (p := Hid _) hb2; clear hx2 hb2) | (go_at_call 135; refine (Tryz.strconv_Atoi_ok _ (by omega) _ hv _).mono ?_; rintro e w3 ⟨rfl, hww⟩; have hb3 := below_bytes hww; clear hww; have hy3 := (hb3.block w2.heap.size (by simp)).trans (heap_alloc_new w2 _); have hx3 := (hb3.block w.heap.size (by have := HL2.out; simp; omega)).trans (box_later HX2.out _); have t0 := box_cell (i := 0) hy3 rfl; have t1 := box_cell (i := 1) hy3 rfl; have t2 := box_cell (i := 2) hy3 rfl; have t3 := box_cell (i := 3) hy3 rfl; have tf := fun j => box_free (i := j) hy3; have p0 := box_cell (i := 0) hx3 rfl; have p1 := box_cell (i := 1) hx3 rfl; have p2 := box_cell (i := 2) hx3 rfl; have p3 := box_cell (i := 3) hx3 rfl; have pf := fun j => box_free (i := j) hx3; have hn2 : ¬ w.heap.size = w2.heap.size := (by have := HL2.out; omega); have hn3 : ¬ w2.heap.size = w.heap.size := (by have := HL2.out; omega); have HB3 := Hid.out (p := Hid _) hb3; clear hx3 hy3 hb3))
          have hg3 : w.grownBy w3 (some sb) := grown_then (grown_of_below HA.out.1 _) (grown_then HG1.out.2 (grown_then (grown_of_below HB2.out _) (grown_then (grown_alloc (World.grownBy.refl _ _) _) (grown_of_below HB3.out _))))
          have hne : w.heap.size ≠ sb := by have := h.lt; omega
          have hne2 : w2.heap.size ≠ sb := by have := h.lt; have := HL2.out; omega
          have hle2 : w.heap.size ≤ w2.heap.size := Nat.le_of_lt HL2.out
          have hS3 : Sc w3 sb s (i + N) := ((HG1.out.1.below HB2.out).more _).below HB3.out
          refine bodyPost_ret (v := .agg #[.int .i64 3, .int .i64 (mag x.data.toList : Int), .int .i64 i, .string x]) (by simp [results, Tryz.results108, go_sem, p0, p1, p2, p3]) rfl (HQ2.out _ _ ?_ rfl ?_)
          · exact grown_high (grown_high (grown_high (grown_high (grown_high hg3 hle2 _) (Nat.le_refl _) _) (Nat.le_refl _) _) (Nat.le_refl _) _) (Nat.le_refl _) _
          · exact ((((hS3.far hne2 _).far hne _).far hne _).far hne _).far hne _
  · have h9 : 9 < N := by
      rcases Nat.lt_or_ge 9 N with h9 | h9
      · exact h9
      · have h1 := atoi_short HXD.out (by rw [← Lib.size_eq]; omega) (by rw [← Lib.size_eq]; omega)
        rw [hv] at h1
        cases h1
    have h9' : 9 < (x.size : Int) := by omega
    have HQ2 : Hid (∀ e w', w.grownBy w' (some sb) → e = .panicked (badT i) → TokQ w sb s i e w') := fun e w' hg he => by
      unfold TokQ
      rw [HQ.out, if_pos (Or.inl h9)]
      exact ⟨hg, he⟩
    go_enter Tryz.func108, Tryz.ntmps108
    go_wp2_with (first | (go_at_call 130; refine (take_dig sb s hs i (by omega) (i + N) HN2 _ HA.out.2.1).mono ?_; rintro e w1 ⟨rfl, h1, hg1⟩; rw [HX.out]; have HG1 := Hid.out (p := Hid _) (And.intro h1 hg1); clear h1 hg1) | (go_at_call 133; refine (taken_any sb s (i + N) (by omega) _ x (by omega) _ HG1.out.1).mono ?_; rintro e w2 ⟨rfl, hb2⟩; have hx2 := (hb2.block _ (Nat.lt_of_lt_of_le HA.out.2.2.2.1 HG1.out.2.size)).trans ((HG1.out.2.block _ HA.out.2.2.2.1 HA.out.2.2.2.2).trans HA.out.2.2.1); have HX2 := Hid.out (p := Hid _) hx2; have HL2 : Hid (w.heap.size < w2.heap.size) := Nat.lt_of_lt_of_le (Nat.lt_of_lt_of_le HA.out.2.2.2.1 HG1.out.2.size) hb2.size; have HB2 := Hid.out (p := Hid _) hb2; clear hx2 hb2) | (go_at_call 135; obtain ⟨tp, rp, hr⟩ := ((HEN.out.grown (grown_then (grown_of_below HA.out.1 _) (grown_then HG1.out.2 (grown_of_below HB2.out _))) hsb).below ((Below.refl _ _).alloc (Nat.le_refl _) _)).rng; refine (Tryz.strconv_Atoi_range_var _ (by omega) hv tp rp _ hr).mono ?_; rintro e w3 ⟨M, rfl, _, _, hb3⟩; clear hr; have hy3 := (hb3.block w2.heap.size (by simp)).trans (heap_alloc_new w2 _); have hx3 := (hb3.block w.heap.size (by have := HL2.out; simp; omega)).trans (box_later HX2.out _); have t0 := box_cell (i := 0) hy3 rfl; have t1 := box_cell (i := 1) hy3 rfl; have t2 := box_cell (i := 2) hy3 rfl; have t3 := box_cell (i := 3) hy3 rfl; have tf := fun j => box_free (i := j) hy3; have p0 := box_cell (i := 0) hx3 rfl; have p1 := box_cell (i := 1) hx3 rfl; have p2 := box_cell (i := 2) hx3 rfl; have p3 := box_cell (i := 3) hx3 rfl; have pf := fun j => box_free (i := j) hx3; have hn2 : ¬ w.heap.size = w2.heap.size := (by have := HL2.out; omega); have hn3 : ¬ w2.heap.size = w.heap.size := (by have := HL2.out; omega); have HB3 := Hid.out (p := Hid _) hb3; clear hx3 hy3 hb3))
    exact ⟨rfl, HQ2.out _ _ (grown_then (grown_of_below HA.out.1 _) (grown_then HG1.out.2 (grown_then (grown_of_below HB2.out _) (grown_then (grown_alloc (World.grownBy.refl _ _) _) (grown_of_below HB3.out _))))) rfl⟩

end Go.Proofs.YtggfbfjdiikaeaaGreatDoor
