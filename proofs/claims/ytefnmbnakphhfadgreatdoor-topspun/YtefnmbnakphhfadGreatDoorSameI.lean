/-
  What the document's Ints does with two lists of the same numbers.
  A list of numbers that was made is one that can be read.
  The document's sum of numbers; whether two lists are the same, which comes first; the order of outcomes.
  Whether two lists of outcomes are the same, by the document.
  An outcome put into its place, one behind the other: plain functions.
  An outcome is put into its place, by the document.
  Which of two outcomes comes first, by the program.
  Those of a sorted list that are not as the one ahead: plain functions.
-/
import Derived.Test.YtefnmbnakphhfadGreatDoorOrder
import Derived.Test.YtefnmbnakphhfadGreatDoorDSt
import Derived.Test.YtefnmbnakphhfadGreatDoorWorkP
import Derived.BigRegion
import Derived.Test.YtefnmbnakphhfadGreatDoorWCome2
import Derived.Sort.Statements
namespace Go.Proofs.YtefnmbnakphhfadGreatDoor
section
open Go.RowKit

/-- A list of numbers lies in w. -/
def IIn (w : World) (a : Option Addr) (n : Nat) (X : Nat → Int) : Prop := ∀ i, i < n → ∃ b o, a = some ⟨b, o, none⟩ ∧ w.cell? ⟨b, o + i, none⟩ = some (.int .i64 (X i))
theorem IIn.below {w w' : World} {a : Option Addr} {n : Nat} {X : Nat → Int} (h : IIn w a n X) (hb : Below w.heap.size w w') : IIn w' a n X := fun i hi => by
  obtain ⟨b, o, hc, h1⟩ := h i hi
  exact ⟨b, o, hc, (hb.cell (lt_of_cell h1)).trans h1⟩
end

section
open Go.RowKit

theorem IsI.iin {w : World} {B : Nat} {a : Option Addr} {len c : Nat} {xs : List Int} (h : IsI w B a len c xs) : IIn w a len (fun i => xs.getD i 0) := fun i hi => by
  obtain ⟨g, cap, h1, h2, _, _⟩ := fam_block h.own (by omega)
  simp only [Value.slice.injEq] at h1
  exact ⟨g, 0, h1.1, by simpa using fam_cell h.own h2 (intsV_at (by rw [h.is]; exact hi))⟩
end

section
open Go.RowKit

/-- A list of numbers, all of it, lies in w. -/
abbrev LI (w : World) (a : Option Addr) (x : List Int) : Prop := IIn w a x.length (fun i => x.getD i 0)
theorem getD_lt {x : List Int} {k : Nat} (h : k < x.length) : x.getD k 0 = x[k] := by rw [List.getD_eq_getElem?_getD, List.getElem?_eq_getElem h]; rfl
theorem take_ext {x y : List Int} {k : Nat} (h : x.take k = y.take k) (h1 : k < x.length) (h2 : k < y.length) (e : x.getD k 0 = y.getD k 0) : x.take (k + 1) = y.take (k + 1) := by
  rw [List.take_add_one, List.take_add_one, h, List.getElem?_eq_getElem h1, List.getElem?_eq_getElem h2, ← getD_lt h1, ← getD_lt h2, e]
/-- An outcome as a value. -/
abbrev ocV (st : Int) (wa : Option Addr) (wl wc : Nat) (pa : Option Addr) (pl pc : Nat) : Value := .agg #[.int .i64 st, .slice wa wl wc, .slice pa pl pc]
end

section
open Go.RowKit

theorem otake_ext {x y : List Oc} {k : Nat} (h : x.take k = y.take k) (h1 : k < x.length) (h2 : k < y.length) (e : x.getD k default = y.getD k default) : x.take (k + 1) = y.take (k + 1) := by
  rw [List.getD_eq_getElem?_getD, List.getD_eq_getElem?_getD, List.getElem?_eq_getElem h1, List.getElem?_eq_getElem h2] at e
  rw [List.take_add_one, List.take_add_one, h, List.getElem?_eq_getElem h1, List.getElem?_eq_getElem h2, show x[k] = y[k] from e]
end

section
open Go.RowKit

/-! An outcome put into its place, one behind the other. -/
section
variable {o : Oc} {l : List Oc} {k : Nat}
theorem take_next (hk : k < l.length) : l.take (k + 1) = l.take k ++ [l.getD k default] := by
  rw [List.take_add_one, List.getElem?_eq_getElem hk, List.getD_eq_getElem?_getD, List.getElem?_eq_getElem hk]
  rfl
end
end

section
open Go.RowKit

/-- An outcome, and where its lists lie. -/
structure En where
  o : Oc
  wa : Option Addr
  wc : Nat
  pa : Option Addr
  pc : Nat
deriving Inhabited
abbrev enV (e : En) : Value := ocV e.o.st e.wa e.o.ws.length e.wc e.pa e.o.pr.length e.pc
def enC (e : En) (j : Nat) : Value := if j = 0 then .int .i64 e.o.st else if j = 1 then .slice e.wa e.o.ws.length e.wc else .slice e.pa e.o.pr.length e.pc
def ensV (es : List En) : List Value := rows3 es.length fun i j => enC (es.getD i default) j
structure EnOk (w : World) (e : En) : Prop where
  ws : LI w e.wa e.o.ws
  pr : LI w e.pa e.o.pr
  wl : e.o.ws.length ≤ 100000
  pl : e.o.pr.length ≤ 100000
theorem EnOk.below {w w' : World} {e : En} (h : EnOk w e) (hb : Below w.heap.size w w') : EnOk w' e := ⟨IIn.below h.ws hb, IIn.below h.pr hb, h.wl, h.pl⟩
/-- Outcomes lie in w, one behind the other. -/
def EIn (w : World) (a : Option Addr) (es : List En) : Prop := ∀ i, i < es.length → ∃ b o, a = some ⟨b, o, none⟩ ∧ w.cell? ⟨b, o + i * 3, none⟩ = some (.int .i64 (es.getD i default).o.st) ∧ w.cell? ⟨b, o + i * 3 + 1, none⟩ = some (.slice (es.getD i default).wa (es.getD i default).o.ws.length (es.getD i default).wc) ∧ w.cell? ⟨b, o + i * 3 + 2, none⟩ = some (.slice (es.getD i default).pa (es.getD i default).o.pr.length (es.getD i default).pc)
theorem EIn.below {w w' : World} {a : Option Addr} {es : List En} (h : EIn w a es) (hb : Below w.heap.size w w') : EIn w' a es := fun i hi => by
  obtain ⟨b, o, h1, h2, h3, h4⟩ := h i hi
  exact ⟨b, o, h1, (hb.cell (lt_of_cell h2)).trans h2, (hb.cell (lt_of_cell h3)).trans h3, (hb.cell (lt_of_cell h4)).trans h4⟩
/-- Outcomes that are being written. -/
structure IsO (w : World) (B : Nat) (a : Option Addr) (len c : Nat) (es : List En) : Prop where
  is : es.length = len
  own : w.ownsRow B 46 3 (.slice a len c) len (ensV es)
theorem IsO.nil (w : World) (B : Nat) : IsO w B none 0 0 [] := ⟨rfl, World.ownsRow_nil _ _ _ _⟩
theorem IsO.below {w w1 : World} {B : Nat} {a : Option Addr} {len c : Nat} {es : List En} (h : IsO w B a len c es) (hb : Below w.heap.size w w1) : IsO w1 B a len c es := ⟨h.is, fam_keeps h.own (fun g hg => hb.block g (h.own.lt g hg).2)⟩
theorem ensV_snoc (es : List En) (e : En) : ensV (es ++ [e]) = ensV es ++ [.int .i64 e.o.st, .slice e.wa e.o.ws.length e.wc, .slice e.pa e.o.pr.length e.pc] := by
  unfold ensV
  rw [List.length_append, List.length_singleton, rows3_snoc]
  congr 1
  · refine rows3_congr fun t j ht => ?_
    congr 1
    simp [List.getD, List.getElem?_append_left ht]
  · simp [enC, List.getD]
theorem infoOutcome : (Tryz.prog.info? 46).map (fun i => (i.zero, i.size, i.bytes)) = some (some (.agg #[.int .i64 0, nilV, nilV]), 3, 56) := by kernel_rfl
theorem map_getD {es : List En} {k : Nat} (hk : k < es.length) : (es.map En.o).getD k default = (es.getD k default).o := by
  simp [List.getD, List.getElem?_eq_getElem hk]

attribute [local go_sem ↓] appS_eq
end

section
open Go.RowKit

/-- Below, of, or above nought. -/
def cmpI (a b : Int) : Int := if a < b then -1 else if b < a then 1 else 0
def cmpL : List Int → List Int → Int
  | [], [] => 0
  | [], _ :: _ => -1
  | _ :: _, [] => 1
  | a :: l, b :: r => if cmpI a b ≠ 0 then cmpI a b else cmpL l r
def orI (a b c : Int) : Int := if a ≠ 0 then a else if b ≠ 0 then b else c
def cmpO (a b : Oc) : Int := orI (cmpI a.st b.st) (cmpL a.ws b.ws) (cmpL a.pr b.pr)
theorem cmpI_zero {a b : Int} : cmpI a b = 0 ↔ a = b := by
  unfold cmpI
  split
  · constructor
    · intro h; omega
    · intro h; omega
  · split
    · constructor
      · intro h; omega
      · intro h; omega
    · constructor
      · intro h; omega
      · intro h; rfl
theorem cmpI_neg {a b : Int} : cmpI a b < 0 ↔ a < b := by
  unfold cmpI
  split
  · constructor
    · intro h; assumption
    · intro h; omega
  · split
    · constructor
      · intro h; omega
      · intro h; omega
    · constructor
      · intro h; omega
      · intro h; omega
theorem cmpL_lex : ∀ {a b : List Int}, (cmpL a b < 0 ↔ lexL a b = true) ∧ (cmpL a b = 0 ↔ a = b)
  | [], [] => ⟨by simp [cmpL, lexL], by simp [cmpL]⟩
  | [], _ :: _ => ⟨by simp [cmpL, lexL], by simp [cmpL]⟩
  | _ :: _, [] => ⟨by simp [cmpL, lexL], by simp [cmpL]⟩
  | a :: l, b :: r => by
    have ih := cmpL_lex (a := l) (b := r)
    unfold cmpL lexL
    by_cases e : a = b
    · rw [if_neg (by rw [cmpI_zero.2 e]; simp), if_pos e]
      exact ⟨ih.1, by rw [ih.2, e]; simp⟩
    · have hz : cmpI a b ≠ 0 := fun h => e (cmpI_zero.1 h)
      rw [if_pos hz, if_neg e, cmpI_neg]
      exact ⟨by simp, ⟨fun h => absurd h hz, fun h => absurd (List.cons.inj h).1 e⟩⟩
theorem cmpO_ahead (a b : Oc) : (cmpO a b < 0 ↔ aheadO a b = true) ∧ (cmpO a b = 0 ↔ a = b) := by
  have hw := cmpL_lex (a := a.ws) (b := b.ws)
  have hp := cmpL_lex (a := a.pr) (b := b.pr)
  by_cases e : a.st = b.st
  · by_cases e2 : a.ws = b.ws
    · have c1 : cmpO a b = cmpL a.pr b.pr := by
        unfold cmpO orI
        rw [cmpI_zero.2 e, hw.2.2 e2]
        simp
      have c2 : aheadO a b = lexL a.pr b.pr := by
        unfold aheadO
        rw [if_neg (by simpa using e), if_neg (by simpa using e2)]
      rw [c1, c2]
      refine ⟨hp.1, hp.2.trans ⟨fun e3 => ?_, fun e3 => by rw [e3]⟩⟩
      cases a; cases b
      simp only at e e2 e3
      rw [e, e2, e3]
    · have hz : cmpL a.ws b.ws ≠ 0 := fun h => e2 (hw.2.1 h)
      have c1 : cmpO a b = cmpL a.ws b.ws := by
        unfold cmpO orI
        rw [cmpI_zero.2 e, if_neg (by simp), if_pos hz]
      have c2 : aheadO a b = lexL a.ws b.ws := by
        unfold aheadO
        rw [if_neg (by simpa using e), if_pos e2]
      rw [c1, c2]
      exact ⟨hw.1, ⟨fun h => absurd (hw.2.1 h) e2, fun h => absurd (by rw [h]) e2⟩⟩
  · have hz : cmpI a.st b.st ≠ 0 := fun h => e (cmpI_zero.1 h)
    have c1 : cmpO a b = cmpI a.st b.st := by
      unfold cmpO orI
      rw [if_pos hz]
    have c2 : aheadO a b = decide (a.st < b.st) := by
      unfold aheadO
      rw [if_pos e]
    rw [c1, c2, cmpI_neg]
    exact ⟨by simp, ⟨fun h => absurd h hz, fun h => absurd (by rw [h]) e⟩⟩

theorem isnan_any (a : Int) (w : World) : Calls Tryz.prog 92 #[.int .i64 a] w fun e w' => e = .returned (.bool false) ∧ w' = w := by
  go_enter Tryz.func92, Tryz.ntmps92
  go_wp2
  go_ret
  exact ⟨rfl, rfl⟩
set_option maxRecDepth 100000 in
set_option maxHeartbeats 800000 in
theorem ccmp_any (a b : Int) (w : World) : Calls Tryz.prog 73 #[.int .i64 a, .int .i64 b] w fun e w' => e = .returned (.int .i64 (cmpI a b)) ∧ w' = w := by
  unfold cmpI
  by_cases h1 : a < b
  · rw [if_pos h1]
    go_enter Tryz.func73, Tryz.ntmps73
    go_wp2_with (go_at_call 92; refine (isnan_any _ _).mono ?_; rintro e w' ⟨rfl, rfl⟩)
    go_ret
    exact ⟨rfl, rfl⟩
  · rw [if_neg h1]
    by_cases h2 : b < a
    · rw [if_pos h2]
      go_enter Tryz.func73, Tryz.ntmps73
      go_wp2_with (go_at_call 92; refine (isnan_any _ _).mono ?_; rintro e w' ⟨rfl, rfl⟩)
      go_ret
      exact ⟨rfl, rfl⟩
    · rw [if_neg h2]
      obtain rfl : a = b := by omega
      go_enter Tryz.func73, Tryz.ntmps73
      go_wp2_with (go_at_call 92; refine (isnan_any _ _).mono ?_; rintro e w' ⟨rfl, rfl⟩)
      go_ret
      exact ⟨rfl, rfl⟩
theorem cmpL_step : ∀ {x y : List Int} {k : Nat}, x.take k = y.take k → k < x.length → k < y.length → cmpI (x.getD k 0) (y.getD k 0) ≠ 0 → cmpL x y = cmpI (x.getD k 0) (y.getD k 0)
  | a :: l, b :: r, 0, _, _, _, h => by
    unfold cmpL
    rw [if_pos (by simpa using h)]
    rfl
  | a :: l, b :: r, k + 1, ht, h1, h2, h => by
    simp only [List.take_succ_cons, List.cons.injEq] at ht
    obtain ⟨rfl, ht⟩ := ht
    unfold cmpL
    rw [if_neg (by rw [cmpI_zero.2 rfl]; simp)]
    exact cmpL_step ht (by simpa using h1) (by simpa using h2) (by simpa using h)
  | [], _, _, _, h1, _, _ => absurd h1 (Nat.not_lt_zero _)
  | _ :: _, [], _, _, _, h2, _ => absurd h2 (Nat.not_lt_zero _)
theorem cmpL_longer : ∀ {x y : List Int}, x.take y.length = y → y.length < x.length → cmpL x y = 1
  | [], _, _, h => absurd h (Nat.not_lt_zero _)
  | a :: l, [], _, _ => rfl
  | a :: l, b :: r, h, hl => by
    simp only [List.length_cons, List.take_succ_cons, List.cons.injEq] at h
    obtain ⟨rfl, h⟩ := h
    unfold cmpL
    rw [if_neg (by rw [cmpI_zero.2 rfl]; simp)]
    exact cmpL_longer h (by simpa using hl)
theorem cmpL_prefix : ∀ {x y : List Int}, x = y.take x.length → cmpL x y = if x.length < y.length then -1 else 0
  | [], [], _ => rfl
  | [], _ :: _, _ => rfl
  | a :: l, [], h => by simp at h
  | a :: l, b :: r, h => by
    simp only [List.length_cons, List.take_succ_cons, List.cons.injEq] at h
    obtain ⟨rfl, h⟩ := h
    unfold cmpL
    rw [if_neg (by rw [cmpI_zero.2 rfl]; simp), cmpL_prefix h]
    simp

set_option maxRecDepth 100000 in
set_option maxHeartbeats 1600000 in
/-- Which of two lists comes first. -/
theorem scmp_any (a b : Option Addr) (x y : List Int) (c d : Nat) (hn : x.length ≤ 100000) (hm : y.length ≤ 100000) (w : World) (h : LI w a x) (h' : LI w b y) :
    Calls Tryz.prog 74 #[.slice a x.length c, .slice b y.length d] w fun e w' => e = .returned (.int .i64 (cmpL x y)) ∧ w' = w := by
  obtain ⟨R, hR⟩ : ∃ R, cmpL x y = R := ⟨_, rfl⟩
  have HR : Hid (cmpL x y = R) := hR
  have HX : Hid (∀ k, k < x.length → ∃ p o, a = some ⟨p, o, none⟩ ∧ w.cell? ⟨p, o + k, none⟩ = some (.int .i64 (x.getD k 0))) := h
  have HY : Hid (∀ k, k < y.length → ∃ p o, b = some ⟨p, o, none⟩ ∧ w.cell? ⟨p, o + k, none⟩ = some (.int .i64 (y.getD k 0))) := h'
  obtain ⟨n, hxn⟩ : ∃ n, x.length = n := ⟨_, rfl⟩
  obtain ⟨m, hym⟩ : ∃ n, y.length = n := ⟨_, rfl⟩
  have HN : Hid (x.length = n ∧ y.length = m) := ⟨hxn, hym⟩
  rw [hR, hxn, hym]
  rw [hxn] at hn HX
  rw [hym] at hm HY
  clear hR h h' hxn hym
  go_enter Tryz.func74, Tryz.ntmps74
  go_wp2
  go_loop [11] (fun i => ∃ k : Nat, k ≤ n ∧ k ≤ m ∧ i = .int .i64 k ∧ Hid (x.take k = y.take k)) (fun i => n - (intOf i).toNat)
  case atStart => exact ⟨0, Nat.zero_le _, Nat.zero_le _, rfl, rfl⟩
  case round =>
    obtain ⟨k, hk, hkm, rfl, HT⟩ := hrel
    by_cases hlt : k < n
    · obtain ⟨p, o, rfl, hc⟩ := HX.out k hlt
      by_cases hlm : k < m
      · obtain ⟨p2, o2, rfl, hc2⟩ := HY.out k hlm
        obtain ⟨u, hu⟩ : ∃ u, x.getD k 0 = u := ⟨_, rfl⟩
        obtain ⟨v, hv⟩ : ∃ u, y.getD k 0 = u := ⟨_, rfl⟩
        have HU : Hid (x.getD k 0 = u ∧ y.getD k 0 = v) := ⟨hu, hv⟩
        rw [hu] at hc
        rw [hv] at hc2
        obtain ⟨q, hq⟩ : ∃ q, cmpI u v = q := ⟨_, rfl⟩
        have HQ : Hid (cmpI u v = q) := hq
        have HC : Hid (∀ W, Calls Tryz.prog 73 #[.int .i64 u, .int .i64 v] W fun e w' => e = .returned (.int .i64 q) ∧ w' = W) := fun W => by
          have := ccmp_any u v W
          rwa [hq] at this
        clear hu hv hq
        by_cases hz : q = 0
        · subst hz
          have HT2 : Hid (x.take (k + 1) = y.take (k + 1)) := by
            have e1 : x.getD k 0 = y.getD k 0 := by rw [HU.out.1, HU.out.2]; exact cmpI_zero.1 HQ.out
            have hx' : k < x.length := by rw [HN.out.1]; exact hlt
            have hy' : k < y.length := by rw [HN.out.2]; exact hlm
            show _ = _
            rw [List.take_add_one, List.take_add_one, HT.out]
            rw [List.getD_eq_getElem?_getD, List.getD_eq_getElem?_getD, List.getElem?_eq_getElem hx', List.getElem?_eq_getElem hy'] at e1
            rw [List.getElem?_eq_getElem hx', List.getElem?_eq_getElem hy']
            exact congrArg (fun z => y.take k ++ (some z).toList) e1
          clear HT
          go_wp2_with (go_at_call 73; refine Calls.mono (HC.out _) ?_; rintro e w' ⟨rfl, rfl⟩)
          go_round
          case rel => exact ⟨k + 1, by omega, by omega, by go_num, HT2⟩
          case measure => simp [intOf]; omega
        · obtain rfl : R = q := by
            rw [← HR.out, cmpL_step HT.out (by rw [HN.out.1]; exact hlt) (by rw [HN.out.2]; exact hlm) (by rw [HU.out.1, HU.out.2, HQ.out]; exact hz), HU.out.1, HU.out.2, HQ.out]
          clear HT
          go_wp2_with (go_at_call 73; refine Calls.mono (HC.out _) ?_; rintro e w' ⟨rfl, rfl⟩)
          go_ret
          exact ⟨rfl, rfl⟩
      · obtain rfl : k = m := by omega
        obtain rfl : R = 1 := by
          rw [← HR.out]
          refine cmpL_longer ?_ (by rw [HN.out.1, HN.out.2]; exact hlt)
          rw [HN.out.2, HT.out, ← HN.out.2, List.take_length]
        clear HT
        go_wp2
        go_ret
        exact ⟨rfl, rfl⟩
    · obtain rfl : k = n := by omega
      have hval : R = if k < m then -1 else 0 := by
        have hpre : x = y.take x.length := by
          have := HT.out
          rw [← HN.out.1, List.take_length] at this
          exact this
        rw [← HR.out, cmpL_prefix hpre, HN.out.1, HN.out.2]
      by_cases hlm : k < m
      · rw [if_pos hlm] at hval
        subst hval
        clear HT
        go_wp2
        go_ret
        exact ⟨rfl, rfl⟩
      · rw [if_neg hlm] at hval
        subst hval
        clear HT
        go_wp2
        go_ret
        exact ⟨rfl, rfl⟩
set_option maxRecDepth 100000 in
set_option maxHeartbeats 1600000 in
/-- The first that is not nought. -/
theorem or_any (g : Nat) (a b c : Int) (w : World) (h0 : w.cell? ⟨g, 0, none⟩ = some (.int .i64 a)) (h1 : w.cell? ⟨g, 1, none⟩ = some (.int .i64 b)) (h2 : w.cell? ⟨g, 2, none⟩ = some (.int .i64 c)) :
    Calls Tryz.prog 72 #[.slice (some ⟨g, 0, none⟩) 3 3] w fun e w' => e = .returned (.int .i64 (orI a b c)) ∧ w' = w := by
  unfold orI
  have HV : Hid (∀ k : Nat, k < 3 → w.cell? ⟨g, k, none⟩ = some (.int .i64 ([a, b, c].getD k 0))) := fun k hk => by
    match k, hk with
    | 0, _ => exact h0
    | 1, _ => exact h1
    | 2, _ => exact h2
  obtain ⟨R, hR⟩ : ∃ R, (if a ≠ 0 then a else if b ≠ 0 then b else c) = R := ⟨_, rfl⟩
  have HR : Hid ((if a ≠ 0 then a else if b ≠ 0 then b else c) = R) := hR
  rw [hR]
  clear hR h0 h1 h2
  go_enter Tryz.func72, Tryz.ntmps72
  go_wp2
  go_loop [8] (fun i => ∃ k : Nat, k ≤ 3 ∧ i = .int .i64 k ∧ Hid (∀ j, j < k → [a, b, c].getD j 0 = 0)) (fun i => 3 - (intOf i).toNat)
  case atStart => exact ⟨0, by omega, rfl, fun j hj => absurd hj (Nat.not_lt_zero _)⟩
  case round =>
    obtain ⟨k, hk, rfl, HZ⟩ := hrel
    by_cases hlt : k < 3
    · have hc := HV.out k hlt
      obtain ⟨u, hu⟩ : ∃ u, [a, b, c].getD k 0 = u := ⟨_, rfl⟩
      have HU : Hid ([a, b, c].getD k 0 = u) := hu
      rw [hu] at hc
      clear hu
      by_cases hz : u = 0
      · subst hz
        have HZ2 : Hid (∀ j, j < k + 1 → [a, b, c].getD j 0 = 0) := fun j hj => by
          rcases Nat.lt_or_ge j k with h | h
          · exact HZ.out j h
          · obtain rfl : j = k := by omega
            exact HU.out
        clear HZ
        go_wp2
        go_round
        case rel => exact ⟨k + 1, by omega, by go_num, HZ2⟩
        case measure => simp [intOf]; omega
      · obtain rfl : R = u := by
          rw [← HR.out]
          have h3 : k = 0 ∨ k = 1 ∨ k = 2 := by omega
          rcases h3 with rfl | rfl | rfl
          · have : a = u := HU.out
            rw [this, if_pos hz]
          · have h4 : a = 0 := HZ.out 0 (by omega)
            have : b = u := HU.out
            rw [h4, this, if_neg (by simp), if_pos hz]
          · have h4 : a = 0 := HZ.out 0 (by omega)
            have h5 : b = 0 := HZ.out 1 (by omega)
            have : c = u := HU.out
            rw [h4, h5, this]
            simp
        clear HZ
        go_wp2
        go_ret
        exact ⟨rfl, rfl⟩
    · obtain rfl : k = 3 := by omega
      obtain rfl : R = 0 := by
        rw [← HR.out]
        have h4 : a = 0 := HZ.out 0 (by omega)
        have h5 : b = 0 := HZ.out 1 (by omega)
        have h6 : c = 0 := HZ.out 2 (by omega)
        rw [h4, h5, h6]
        simp
      clear HZ
      go_wp2
      go_ret
      exact ⟨rfl, rfl⟩
end

section
open Go.RowKit

/-- Of the first k those that are not as the one ahead. -/
def compE (es : List En) : Nat → List En
  | 0 => []
  | k + 1 => compE es k ++ (if k = 0 ∨ (es.getD k default).o ≠ (es.getD (k - 1) default).o then [es.getD k default] else [])
section
variable {es : List En} {k : Nat}
theorem compE_same (h0 : 0 < k) (h : (es.getD k default).o = (es.getD (k - 1) default).o) : compE es (k + 1) = compE es k := by
  rw [compE, if_neg (fun e => by rcases e with e | e; omega; exact e h), List.append_nil]
theorem compE_new (h : k = 0 ∨ (es.getD k default).o ≠ (es.getD (k - 1) default).o) : compE es (k + 1) = compE es k ++ [es.getD k default] := by
  rw [compE, if_pos h]
theorem take_snoc (hk : k < es.length) : es.take (k + 1) = es.take k ++ [es.getD k default] := by
  rw [List.take_add_one, List.getElem?_eq_getElem hk, List.getD_eq_getElem?_getD, List.getElem?_eq_getElem hk]
  rfl
theorem compE_take (hk : k ≤ es.length) (h : ∀ j, 0 < j → j < k → (es.getD j default).o ≠ (es.getD (j - 1) default).o) : compE es k = es.take k := by
  induction k with
  | zero => rfl
  | succ k ih =>
    rw [compE_new, ih (by omega) (fun j h1 h2 => h j h1 (by omega)), take_snoc (by omega)]
    rcases Nat.eq_zero_or_pos k with h1 | h1
    · exact Or.inl h1
    · exact Or.inr (h k h1 (by omega))
theorem compE_len : (compE es k).length ≤ k := by
  induction k with
  | zero => exact Nat.le_refl _
  | succ k ih =>
    rw [compE, List.length_append]
    split <;> simp <;> omega
theorem compE_mem {e : En} (hk : k ≤ es.length) (h : e ∈ compE es k) : e ∈ es := by
  induction k with
  | zero => cases h
  | succ k ih =>
    rw [compE, List.mem_append] at h
    rcases h with h | h
    · exact ih (by omega) h
    · split at h
      · rw [List.mem_singleton.mp h, List.getD_eq_getElem?_getD, List.getElem?_eq_getElem (by omega)]
        exact List.getElem_mem _
      · cases h
theorem compE_sorted (hs : es.Pairwise (fun x y => aheadO y.o x.o = false)) (hk : k ≤ es.length) : SortedO ((compE es k).map En.o) ∧ (∀ o, o ∈ (compE es k).map En.o ↔ ∃ j, j < k ∧ (es.getD j default).o = o) ∧ ∀ o, o ∈ (compE es k).map En.o → o = (es.getD (k - 1) default).o ∨ aheadO o (es.getD (k - 1) default).o = true := by
  induction k with
  | zero => exact ⟨List.Pairwise.nil, fun o => ⟨fun h => absurd h List.not_mem_nil, fun ⟨j, h, _⟩ => absurd h (Nat.not_lt_zero _)⟩, fun o h => absurd h List.not_mem_nil⟩
  | succ k ih =>
    obtain ⟨h1, h2, h3⟩ := ih (by omega)
    by_cases h : k = 0 ∨ (es.getD k default).o ≠ (es.getD (k - 1) default).o
    · have hall : ∀ o, o ∈ (compE es k).map En.o → aheadO o (es.getD k default).o = true := fun o ho => by
        obtain ⟨j, hj, _⟩ := (h2 o).1 ho
        have hne := h.resolve_left (by omega)
        have hkl : k < es.length := by omega
        have hf : aheadO (es.getD k default).o (es.getD (k - 1) default).o = false := by
          have := (List.pairwise_iff_getElem.mp hs) (k - 1) k (by omega) hkl (by omega)
          rw [List.getD_eq_getElem?_getD, List.getD_eq_getElem?_getD, List.getElem?_eq_getElem hkl, List.getElem?_eq_getElem (show k - 1 < es.length by omega)]
          exact this
        have ht : aheadO (es.getD (k - 1) default).o (es.getD k default).o = true := by
          cases hq : aheadO (es.getD (k - 1) default).o (es.getD k default).o with
          | true => rfl
          | false => exact absurd (ahead_tri hf hq) hne
        rcases h3 o ho with e | e
        · rw [e]; exact ht
        · exact ahead_trans e ht
      rw [compE_new h, List.map_append, List.map_singleton]
      refine ⟨?_, fun o => ?_, fun o ho => ?_⟩
      · rw [SortedO, List.pairwise_append]
        exact ⟨h1, by simp, fun a ha b hb => by rw [List.mem_singleton.mp hb]; exact hall a ha⟩
      · rw [List.mem_append, h2 o, List.mem_singleton]
        constructor
        · rintro (⟨j, hj, e⟩ | e)
          · exact ⟨j, by omega, e⟩
          · exact ⟨k, by omega, e.symm⟩
        · rintro ⟨j, hj, e⟩
          rcases Nat.lt_or_ge j k with h4 | h4
          · exact Or.inl ⟨j, h4, e⟩
          · obtain rfl : j = k := by omega
            exact Or.inr e.symm
      · rw [Nat.add_sub_cancel]
        rcases List.mem_append.mp ho with ho | ho
        · exact Or.inr (hall o ho)
        · exact Or.inl (List.mem_singleton.mp ho)
    · have hk0 : 0 < k := by omega
      have he : (es.getD k default).o = (es.getD (k - 1) default).o := Classical.byContradiction fun hc => h (Or.inr hc)
      rw [compE_same hk0 he, Nat.add_sub_cancel, he]
      refine ⟨h1, fun o => ?_, h3⟩
      rw [h2 o]
      constructor
      · rintro ⟨j, hj, e⟩
        exact ⟨j, by omega, e⟩
      · rintro ⟨j, hj, e⟩
        rcases Nat.lt_or_ge j k with h4 | h4
        · exact ⟨j, h4, e⟩
        · obtain rfl : j = k := by omega
          exact ⟨j - 1, by omega, by rw [← he]; exact e⟩
/-- The whole list. -/
theorem compE_all (hs : es.Pairwise (fun x y => aheadO y.o x.o = false)) : SortedO ((compE es es.length).map En.o) ∧ ∀ o, o ∈ (compE es es.length).map En.o ↔ o ∈ es.map En.o := by
  obtain ⟨h1, h2, _⟩ := compE_sorted hs (Nat.le_refl _)
  refine ⟨h1, fun o => (h2 o).trans ?_⟩
  rw [List.mem_map]
  constructor
  · rintro ⟨j, hj, e⟩
    rw [List.getD_eq_getElem?_getD, List.getElem?_eq_getElem hj] at e
    exact ⟨_, List.getElem_mem hj, e⟩
  · rintro ⟨x, hx, e⟩
    obtain ⟨j, hj, e2⟩ := List.getElem_of_mem hx
    refine ⟨j, hj, ?_⟩
    rw [List.getD_eq_getElem?_getD, List.getElem?_eq_getElem hj]
    show (es[j]).o = o
    rw [e2]; exact e
end
end

end Go.Proofs.YtefnmbnakphhfadGreatDoor
