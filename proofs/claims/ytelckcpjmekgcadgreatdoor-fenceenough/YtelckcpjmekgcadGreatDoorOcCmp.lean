/-
  Which of two outcomes comes first, by the program.
  Which of two outcomes comes first: compare and same.
  Outcomes are sorted, by the program.
-/
import Derived.Test.YtelckcpjmekgcadGreatDoorWCome2
import Derived.Test.YtelckcpjmekgcadGreatDoorZPut
import Derived.Sort.Statements
import Derived.Shelf.SlSortCmp.WholeK
import Derived.BigRegion
import Derived.Test.YtelckcpjmekgcadGreatDoorShelfS
import Derived.Test.YtelckcpjmekgcadGreatDoorRMay
namespace Go.Proofs.YtelckcpjmekgcadGreatDoor
section
open Go.RowKit

/-- Below, of, or above nought. -/
def cmpI (a b : Int) : Int := if a < b then -1 else if b < a then 1 else 0
def cmpL : List Int → List Int → Int
  | [], [] => 0
  | [], _ :: _ => -1
  | _ :: _, [] => 1
  | a :: l, b :: r => if cmpI a b ≠ 0 then cmpI a b else cmpL l r
def orI (a b c : Int) : Int := if a ≠ 0 then a else if b ≠ 0 then b else c
def cmpO (a b : Oc) : Int := orI (cmpI a.st b.st) (cmpL a.ws b.ws) (cmpL a.pr b.pr)
theorem cmpI_zero {a b : Int} : cmpI a b = 0 ↔ a = b := by
  unfold cmpI
  split
  · constructor
    · intro h; omega
    · intro h; omega
  · split
    · constructor
      · intro h; omega
      · intro h; omega
    · constructor
      · intro h; omega
      · intro h; rfl
theorem cmpI_neg {a b : Int} : cmpI a b < 0 ↔ a < b := by
  unfold cmpI
  split
  · constructor
    · intro h; assumption
    · intro h; omega
  · split
    · constructor
      · intro h; omega
      · intro h; omega
    · constructor
      · intro h; omega
      · intro h; omega
theorem cmpL_lex : ∀ {a b : List Int}, (cmpL a b < 0 ↔ lexL a b = true) ∧ (cmpL a b = 0 ↔ a = b)
  | [], [] => ⟨by simp [cmpL, lexL], by simp [cmpL]⟩
  | [], _ :: _ => ⟨by simp [cmpL, lexL], by simp [cmpL]⟩
  | _ :: _, [] => ⟨by simp [cmpL, lexL], by simp [cmpL]⟩
  | a :: l, b :: r => by
    have ih := cmpL_lex (a := l) (b := r)
    unfold cmpL lexL
    by_cases e : a = b
    · rw [if_neg (by rw [cmpI_zero.2 e]; simp), if_pos e]
      exact ⟨ih.1, by rw [ih.2, e]; simp⟩
    · have hz : cmpI a b ≠ 0 := fun h => e (cmpI_zero.1 h)
      rw [if_pos hz, if_neg e, cmpI_neg]
      exact ⟨by simp, ⟨fun h => absurd h hz, fun h => absurd (List.cons.inj h).1 e⟩⟩
theorem cmpO_ahead (a b : Oc) : (cmpO a b < 0 ↔ aheadO a b = true) ∧ (cmpO a b = 0 ↔ a = b) := by
  have hw := cmpL_lex (a := a.ws) (b := b.ws)
  have hp := cmpL_lex (a := a.pr) (b := b.pr)
  by_cases e : a.st = b.st
  · by_cases e2 : a.ws = b.ws
    · have c1 : cmpO a b = cmpL a.pr b.pr := by
        unfold cmpO orI
        rw [cmpI_zero.2 e, hw.2.2 e2]
        simp
      have c2 : aheadO a b = lexL a.pr b.pr := by
        unfold aheadO
        rw [if_neg (by simpa using e), if_neg (by simpa using e2)]
      rw [c1, c2]
      refine ⟨hp.1, hp.2.trans ⟨fun e3 => ?_, fun e3 => by rw [e3]⟩⟩
      cases a; cases b
      simp only at e e2 e3
      rw [e, e2, e3]
    · have hz : cmpL a.ws b.ws ≠ 0 := fun h => e2 (hw.2.1 h)
      have c1 : cmpO a b = cmpL a.ws b.ws := by
        unfold cmpO orI
        rw [cmpI_zero.2 e, if_neg (by simp), if_pos hz]
      have c2 : aheadO a b = lexL a.ws b.ws := by
        unfold aheadO
        rw [if_neg (by simpa using e), if_pos e2]
      rw [c1, c2]
      exact ⟨hw.1, ⟨fun h => absurd (hw.2.1 h) e2, fun h => absurd (by rw [h]) e2⟩⟩
  · have hz : cmpI a.st b.st ≠ 0 := fun h => e (cmpI_zero.1 h)
    have c1 : cmpO a b = cmpI a.st b.st := by
      unfold cmpO orI
      rw [if_pos hz]
    have c2 : aheadO a b = decide (a.st < b.st) := by
      unfold aheadO
      rw [if_pos e]
    rw [c1, c2, cmpI_neg]
    exact ⟨by simp, ⟨fun h => absurd h hz, fun h => absurd (by rw [h]) e⟩⟩

theorem isnan_any (a : Int) (w : World) : Calls Tryz.prog 83 #[.int .i64 a] w fun e w' => e = .returned (.bool false) ∧ w' = w := by
  go_enter Tryz.func83, Tryz.ntmps83
  go_wp2
  go_ret
  exact ⟨rfl, rfl⟩
set_option maxRecDepth 100000 in
set_option maxHeartbeats 800000 in
theorem ccmp_any (a b : Int) (w : World) : Calls Tryz.prog 63 #[.int .i64 a, .int .i64 b] w fun e w' => e = .returned (.int .i64 (cmpI a b)) ∧ w' = w := by
  unfold cmpI
  by_cases h1 : a < b
  · rw [if_pos h1]
    go_enter Tryz.func63, Tryz.ntmps63
    go_wp2_with (go_at_call 83; refine (isnan_any _ _).mono ?_; rintro e w' ⟨rfl, rfl⟩)
    go_ret
    exact ⟨rfl, rfl⟩
  · rw [if_neg h1]
    by_cases h2 : b < a
    · rw [if_pos h2]
      go_enter Tryz.func63, Tryz.ntmps63
      go_wp2_with (go_at_call 83; refine (isnan_any _ _).mono ?_; rintro e w' ⟨rfl, rfl⟩)
      go_ret
      exact ⟨rfl, rfl⟩
    · rw [if_neg h2]
      obtain rfl : a = b := by omega
      go_enter Tryz.func63, Tryz.ntmps63
      go_wp2_with (go_at_call 83; refine (isnan_any _ _).mono ?_; rintro e w' ⟨rfl, rfl⟩)
      go_ret
      exact ⟨rfl, rfl⟩
theorem cmpL_step : ∀ {x y : List Int} {k : Nat}, x.take k = y.take k → k < x.length → k < y.length → cmpI (x.getD k 0) (y.getD k 0) ≠ 0 → cmpL x y = cmpI (x.getD k 0) (y.getD k 0)
  | a :: l, b :: r, 0, _, _, _, h => by
    unfold cmpL
    rw [if_pos (by simpa using h)]
    rfl
  | a :: l, b :: r, k + 1, ht, h1, h2, h => by
    simp only [List.take_succ_cons, List.cons.injEq] at ht
    obtain ⟨rfl, ht⟩ := ht
    unfold cmpL
    rw [if_neg (by rw [cmpI_zero.2 rfl]; simp)]
    exact cmpL_step ht (by simpa using h1) (by simpa using h2) (by simpa using h)
  | [], _, _, _, h1, _, _ => absurd h1 (Nat.not_lt_zero _)
  | _ :: _, [], _, _, _, h2, _ => absurd h2 (Nat.not_lt_zero _)
theorem cmpL_longer : ∀ {x y : List Int}, x.take y.length = y → y.length < x.length → cmpL x y = 1
  | [], _, _, h => absurd h (Nat.not_lt_zero _)
  | a :: l, [], _, _ => rfl
  | a :: l, b :: r, h, hl => by
    simp only [List.length_cons, List.take_succ_cons, List.cons.injEq] at h
    obtain ⟨rfl, h⟩ := h
    unfold cmpL
    rw [if_neg (by rw [cmpI_zero.2 rfl]; simp)]
    exact cmpL_longer h (by simpa using hl)
theorem cmpL_prefix : ∀ {x y : List Int}, x = y.take x.length → cmpL x y = if x.length < y.length then -1 else 0
  | [], [], _ => rfl
  | [], _ :: _, _ => rfl
  | a :: l, [], h => by simp at h
  | a :: l, b :: r, h => by
    simp only [List.length_cons, List.take_succ_cons, List.cons.injEq] at h
    obtain ⟨rfl, h⟩ := h
    unfold cmpL
    rw [if_neg (by rw [cmpI_zero.2 rfl]; simp), cmpL_prefix h]
    simp

set_option maxRecDepth 100000 in
set_option maxHeartbeats 1600000 in
/-- Which of two lists comes first. -/
theorem scmp_any (a b : Option Addr) (x y : List Int) (c d : Nat) (hn : x.length ≤ 100000) (hm : y.length ≤ 100000) (w : World) (h : LI w a x) (h' : LI w b y) :
    Calls Tryz.prog 64 #[.slice a x.length c, .slice b y.length d] w fun e w' => e = .returned (.int .i64 (cmpL x y)) ∧ w' = w := by
  obtain ⟨R, hR⟩ : ∃ R, cmpL x y = R := ⟨_, rfl⟩
  have HR : Hid (cmpL x y = R) := hR
  have HX : Hid (∀ k, k < x.length → ∃ p o, a = some ⟨p, o, none⟩ ∧ w.cell? ⟨p, o + k, none⟩ = some (.int .i64 (x.getD k 0))) := h
  have HY : Hid (∀ k, k < y.length → ∃ p o, b = some ⟨p, o, none⟩ ∧ w.cell? ⟨p, o + k, none⟩ = some (.int .i64 (y.getD k 0))) := h'
  obtain ⟨n, hxn⟩ : ∃ n, x.length = n := ⟨_, rfl⟩
  obtain ⟨m, hym⟩ : ∃ n, y.length = n := ⟨_, rfl⟩
  have HN : Hid (x.length = n ∧ y.length = m) := ⟨hxn, hym⟩
  rw [hR, hxn, hym]
  rw [hxn] at hn HX
  rw [hym] at hm HY
  clear hR h h' hxn hym
  go_enter Tryz.func64, Tryz.ntmps64
  go_wp2
  go_loop [11] (fun i => ∃ k : Nat, k ≤ n ∧ k ≤ m ∧ i = .int .i64 k ∧ Hid (x.take k = y.take k)) (fun i => n - (intOf i).toNat)
  case atStart => exact ⟨0, Nat.zero_le _, Nat.zero_le _, rfl, rfl⟩
  case round =>
    obtain ⟨k, hk, hkm, rfl, HT⟩ := hrel
    by_cases hlt : k < n
    · obtain ⟨p, o, rfl, hc⟩ := HX.out k hlt
      by_cases hlm : k < m
      · obtain ⟨p2, o2, rfl, hc2⟩ := HY.out k hlm
        obtain ⟨u, hu⟩ : ∃ u, x.getD k 0 = u := ⟨_, rfl⟩
        obtain ⟨v, hv⟩ : ∃ u, y.getD k 0 = u := ⟨_, rfl⟩
        have HU : Hid (x.getD k 0 = u ∧ y.getD k 0 = v) := ⟨hu, hv⟩
        rw [hu] at hc
        rw [hv] at hc2
        obtain ⟨q, hq⟩ : ∃ q, cmpI u v = q := ⟨_, rfl⟩
        have HQ : Hid (cmpI u v = q) := hq
        have HC : Hid (∀ W, Calls Tryz.prog 63 #[.int .i64 u, .int .i64 v] W fun e w' => e = .returned (.int .i64 q) ∧ w' = W) := fun W => by
          have := ccmp_any u v W
          rwa [hq] at this
        clear hu hv hq
        by_cases hz : q = 0
        · subst hz
          have HT2 : Hid (x.take (k + 1) = y.take (k + 1)) := by
            have e1 : x.getD k 0 = y.getD k 0 := by rw [HU.out.1, HU.out.2]; exact cmpI_zero.1 HQ.out
            have hx' : k < x.length := by rw [HN.out.1]; exact hlt
            have hy' : k < y.length := by rw [HN.out.2]; exact hlm
            show _ = _
            rw [List.take_add_one, List.take_add_one, HT.out]
            rw [List.getD_eq_getElem?_getD, List.getD_eq_getElem?_getD, List.getElem?_eq_getElem hx', List.getElem?_eq_getElem hy'] at e1
            rw [List.getElem?_eq_getElem hx', List.getElem?_eq_getElem hy']
            exact congrArg (fun z => y.take k ++ (some z).toList) e1
          clear HT
          go_wp2_with (go_at_call 63; refine Calls.mono (HC.out _) ?_; rintro e w' ⟨rfl, rfl⟩)
          go_round
          case rel => exact ⟨k + 1, by omega, by omega, by go_num, HT2⟩
          case measure => simp [intOf]; omega
        · obtain rfl : R = q := by
            rw [← HR.out, cmpL_step HT.out (by rw [HN.out.1]; exact hlt) (by rw [HN.out.2]; exact hlm) (by rw [HU.out.1, HU.out.2, HQ.out]; exact hz), HU.out.1, HU.out.2, HQ.out]
          clear HT
          go_wp2_with (go_at_call 63; refine Calls.mono (HC.out _) ?_; rintro e w' ⟨rfl, rfl⟩)
          go_ret
          exact ⟨rfl, rfl⟩
      · obtain rfl : k = m := by omega
        obtain rfl : R = 1 := by
          rw [← HR.out]
          refine cmpL_longer ?_ (by rw [HN.out.1, HN.out.2]; exact hlt)
          rw [HN.out.2, HT.out, ← HN.out.2, List.take_length]
        clear HT
        go_wp2
        go_ret
        exact ⟨rfl, rfl⟩
    · obtain rfl : k = n := by omega
      have hval : R = if k < m then -1 else 0 := by
        have hpre : x = y.take x.length := by
          have := HT.out
          rw [← HN.out.1, List.take_length] at this
          exact this
        rw [← HR.out, cmpL_prefix hpre, HN.out.1, HN.out.2]
      by_cases hlm : k < m
      · rw [if_pos hlm] at hval
        subst hval
        clear HT
        go_wp2
        go_ret
        exact ⟨rfl, rfl⟩
      · rw [if_neg hlm] at hval
        subst hval
        clear HT
        go_wp2
        go_ret
        exact ⟨rfl, rfl⟩
set_option maxRecDepth 100000 in
set_option maxHeartbeats 1600000 in
/-- The first that is not nought. -/
theorem or_any (g : Nat) (a b c : Int) (w : World) (h0 : w.cell? ⟨g, 0, none⟩ = some (.int .i64 a)) (h1 : w.cell? ⟨g, 1, none⟩ = some (.int .i64 b)) (h2 : w.cell? ⟨g, 2, none⟩ = some (.int .i64 c)) :
    Calls Tryz.prog 62 #[.slice (some ⟨g, 0, none⟩) 3 3] w fun e w' => e = .returned (.int .i64 (orI a b c)) ∧ w' = w := by
  unfold orI
  have HV : Hid (∀ k : Nat, k < 3 → w.cell? ⟨g, k, none⟩ = some (.int .i64 ([a, b, c].getD k 0))) := fun k hk => by
    match k, hk with
    | 0, _ => exact h0
    | 1, _ => exact h1
    | 2, _ => exact h2
  obtain ⟨R, hR⟩ : ∃ R, (if a ≠ 0 then a else if b ≠ 0 then b else c) = R := ⟨_, rfl⟩
  have HR : Hid ((if a ≠ 0 then a else if b ≠ 0 then b else c) = R) := hR
  rw [hR]
  clear hR h0 h1 h2
  go_enter Tryz.func62, Tryz.ntmps62
  go_wp2
  go_loop [8] (fun i => ∃ k : Nat, k ≤ 3 ∧ i = .int .i64 k ∧ Hid (∀ j, j < k → [a, b, c].getD j 0 = 0)) (fun i => 3 - (intOf i).toNat)
  case atStart => exact ⟨0, by omega, rfl, fun j hj => absurd hj (Nat.not_lt_zero _)⟩
  case round =>
    obtain ⟨k, hk, rfl, HZ⟩ := hrel
    by_cases hlt : k < 3
    · have hc := HV.out k hlt
      obtain ⟨u, hu⟩ : ∃ u, [a, b, c].getD k 0 = u := ⟨_, rfl⟩
      have HU : Hid ([a, b, c].getD k 0 = u) := hu
      rw [hu] at hc
      clear hu
      by_cases hz : u = 0
      · subst hz
        have HZ2 : Hid (∀ j, j < k + 1 → [a, b, c].getD j 0 = 0) := fun j hj => by
          rcases Nat.lt_or_ge j k with h | h
          · exact HZ.out j h
          · obtain rfl : j = k := by omega
            exact HU.out
        clear HZ
        go_wp2
        go_round
        case rel => exact ⟨k + 1, by omega, by go_num, HZ2⟩
        case measure => simp [intOf]; omega
      · obtain rfl : R = u := by
          rw [← HR.out]
          have h3 : k = 0 ∨ k = 1 ∨ k = 2 := by omega
          rcases h3 with rfl | rfl | rfl
          · have : a = u := HU.out
            rw [this, if_pos hz]
          · have h4 : a = 0 := HZ.out 0 (by omega)
            have : b = u := HU.out
            rw [h4, this, if_neg (by simp), if_pos hz]
          · have h4 : a = 0 := HZ.out 0 (by omega)
            have h5 : b = 0 := HZ.out 1 (by omega)
            have : c = u := HU.out
            rw [h4, h5, this]
            simp
        clear HZ
        go_wp2
        go_ret
        exact ⟨rfl, rfl⟩
    · obtain rfl : k = 3 := by omega
      obtain rfl : R = 0 := by
        rw [← HR.out]
        have h4 : a = 0 := HZ.out 0 (by omega)
        have h5 : b = 0 := HZ.out 1 (by omega)
        have h6 : c = 0 := HZ.out 2 (by omega)
        rw [h4, h5, h6]
        simp
      clear HZ
      go_wp2
      go_ret
      exact ⟨rfl, rfl⟩
end

section
open Go.RowKit Go.Sort

set_option maxRecDepth 100000 in
set_option maxHeartbeats 3200000 in
/-- compare. -/
theorem compare_any (w : World) (x y : En) (hx : EnOk w x) (hy : EnOk w y) :
    Calls Tryz.prog 47 #[enV x, enV y] w fun e w' => e = .returned (.int .i64 (cmpO x.o y.o)) ∧ ∃ q os', w' = grow (w.drewN q) os' := by
  obtain ⟨⟨⟨st, ws, pr⟩, wa, wc, pa, pc⟩, rfl⟩ : ∃ z, x = z := ⟨_, rfl⟩
  obtain ⟨⟨⟨st2, ws2, pr2⟩, wa2, wc2, pa2, pc2⟩, rfl⟩ : ∃ z, y = z := ⟨_, rfl⟩
  have hup : ∀ W, Below w.heap.size w W → LI W wa ws ∧ LI W pa pr ∧ LI W wa2 ws2 ∧ LI W pa2 pr2 := fun W hb => ⟨(hx.below hb).ws, (hx.below hb).pr, (hy.below hb).ws, (hy.below hb).pr⟩
  have l1 : ws.length ≤ 100000 := hx.wl
  have l2 : pr.length ≤ 100000 := hx.pl
  have l3 : ws2.length ≤ 100000 := hy.wl
  have l4 : pr2.length ≤ 100000 := hy.pl
  obtain ⟨c1, hc1⟩ : ∃ z, cmpI st st2 = z := ⟨_, rfl⟩
  obtain ⟨c2, hc2⟩ : ∃ z, cmpL ws ws2 = z := ⟨_, rfl⟩
  obtain ⟨c3, hc3⟩ : ∃ z, cmpL pr pr2 = z := ⟨_, rfl⟩
  have HC1 : Hid (∀ W, Calls Tryz.prog 63 #[.int .i64 st, .int .i64 st2] W fun e w' => e = .returned (.int .i64 c1) ∧ w' = W) := fun W => by
    have := ccmp_any st st2 W
    rwa [hc1] at this
  have HC2 : Hid (∀ W, Below w.heap.size w W → Calls Tryz.prog 64 #[.slice wa ws.length wc, .slice wa2 ws2.length wc2] W fun e w' => e = .returned (.int .i64 c2) ∧ w' = W) := fun W hb => by
    have := scmp_any wa wa2 ws ws2 wc wc2 l1 l3 W (hup W hb).1 (hup W hb).2.2.1
    rwa [hc2] at this
  have HC3 : Hid (∀ W, Below w.heap.size w W → Calls Tryz.prog 64 #[.slice pa pr.length pc, .slice pa2 pr2.length pc2] W fun e w' => e = .returned (.int .i64 c3) ∧ w' = W) := fun W hb => by
    have := scmp_any pa pa2 pr pr2 pc pc2 l2 l4 W (hup W hb).2.1 (hup W hb).2.2.2
    rwa [hc3] at this
  have HRES : Hid (cmpO ⟨st, ws, pr⟩ ⟨st2, ws2, pr2⟩ = orI c1 c2 c3) := by show _ = _; unfold cmpO; rw [hc1, hc2, hc3]
  rw [show cmpO (En.mk ⟨st, ws, pr⟩ wa wc pa pc).o (En.mk ⟨st2, ws2, pr2⟩ wa2 wc2 pa2 pc2).o = orI c1 c2 c3 from HRES.out]
  show Calls Tryz.prog 47 #[ocV st wa ws.length wc pa pr.length pc, ocV st2 wa2 ws2.length wc2 pa2 pr2.length pc2] w _
  obtain ⟨n1, hn1⟩ : ∃ n, ws.length = n := ⟨_, rfl⟩
  obtain ⟨n2, hn2⟩ : ∃ n, pr.length = n := ⟨_, rfl⟩
  obtain ⟨n3, hn3⟩ : ∃ n, ws2.length = n := ⟨_, rfl⟩
  obtain ⟨n4, hn4⟩ : ∃ n, pr2.length = n := ⟨_, rfl⟩
  rw [hn1, hn2, hn3, hn4]
  rw [hn1, hn3] at HC2
  rw [hn2, hn4] at HC3
  have HB : Hid (∀ A B, Below w.heap.size w ((w.alloc A).alloc B).drew) := fun A B => (((Below.refl _ _).alloc (Nat.le_refl _) _).alloc (by simp) _).drew
  obtain ⟨R, hR⟩ : ∃ R, orI c1 c2 c3 = R := ⟨_, rfl⟩
  have HOR : Hid (∀ g W, W.cell? ⟨g, 0, none⟩ = some (.int .i64 c1) → W.cell? ⟨g, 1, none⟩ = some (.int .i64 c2) → W.cell? ⟨g, 2, none⟩ = some (.int .i64 c3) → Calls Tryz.prog 62 #[.slice (some ⟨g, 0, none⟩) 3 3] W fun e w' => e = .returned (.int .i64 R) ∧ w' = W) := fun g W h0 h1 h2 => by
    have := or_any g c1 c2 c3 W h0 h1 h2
    rwa [hR] at this
  rw [hR]
  clear hx hy hup l1 l2 l3 l4 hc1 hc2 hc3 HRES hn1 hn2 hn3 hn4 hR
  go_enter Tryz.func47, Tryz.ntmps47
  go_wp2_with fail
  refine region_tail 15 (by kernel_rfl) (by kernel_rfl) ?_
  simp only [List.take_succ_cons, List.take_zero, List.drop_succ_cons, List.drop_zero]
  repeat still_step
  still_call (HC1.out _)
  repeat still_step
  still_call (HC2.out _ (HB.out _ _))
  repeat still_step
  still_call (HC3.out _ (HB.out _ _))
  repeat still_step
  refine wpStill_nil ?_
  go_wp2_with fail
  refine Calls.mono (HOR.out _ _ (by go_simp) (by go_simp) (by go_simp)) ?_
  rintro e w1 ⟨rfl, rfl⟩
  go_wp2_with fail
  go_ret
  exact ⟨rfl, 1, #[.cells #[.int .i64 st, .slice wa n1 wc, .slice pa n2 pc] 73, .cells #[.int .i64 st2, .slice wa2 n3 wc2, .slice pa2 n4 pc2] 73, .cells #[.int .i64 c1, .int .i64 c2, .int .i64 c3] 3], by rw [alloc_eq_grow, alloc_eq_grow, alloc_eq_grow, grow_grow, grow_grow]; rfl⟩
end

section
open Go.RowKit Go.Sort Go.Shelf

/-- An outcome's cells. -/
def encE (e : En) : List Value := [.int .i64 e.o.st, .slice e.wa e.o.ws.length e.wc, .slice e.pa e.o.pr.length e.pc]
/-- Its lists lie outside of a block. -/
structure EnX (w : World) (blk : Nat) (e : En) : Prop where
  ok : EnOk w e
  wx : ∀ p, e.wa = some p → 0 < e.o.ws.length → p.block ≠ blk
  px : ∀ p, e.pa = some p → 0 < e.o.pr.length → p.block ≠ blk
abbrev EnS (w : World) (blk : Nat) : Type := {e : En // EnX w blk e}
instance (w : World) (blk : Nat) : Inhabited (EnS w blk) :=
  ⟨⟨default, ⟨⟨fun _ h => absurd h (Nat.not_lt_zero _), fun _ h => absurd h (Nat.not_lt_zero _), Nat.zero_le _, Nat.zero_le _⟩, fun _ _ h => absurd h (Nat.lt_irrefl 0), fun _ _ h => absurd h (Nat.lt_irrefl 0)⟩⟩⟩
abbrev encS {w : World} {blk : Nat} (x : EnS w blk) : List Value := encE x.1
abbrev cmpS {w : World} {blk : Nat} (x y : EnS w blk) : Int := cmpO x.1.o y.1.o
theorem sortW_cell {α : Type} [Inhabited α] (enc : α → List Value) (w : World) (blk m : Nat) (d : Array α) (os : Array Obj) (p : Addr) (hp : p.block ≠ blk) (hl : p.block < w.heap.size) : (sortWorldK enc 3 w blk 0 m d os).cell? p = w.cell? p := by
  unfold sortWorldK
  rw [cell?_grow _ _ _ (by rw [size_putRowK]; exact hl), cell?_putRowK_other _ _ _ _ _ _ _ hp, cell?_ahead]
theorem LI.sortW {α : Type} [Inhabited α] {enc : α → List Value} {w : World} {blk m : Nat} {d : Array α} {os : Array Obj} {a : Option Addr} {x : List Int} (h : LI w a x) (hx : ∀ p, a = some p → 0 < x.length → p.block ≠ blk) : LI (sortWorldK enc 3 w blk 0 m d os) a x := fun i hi => by
  obtain ⟨b, o, h1, h2⟩ := h i hi
  exact ⟨b, o, h1, (sortW_cell enc w blk m d os ⟨b, o + i, none⟩ (hx ⟨b, o, none⟩ h1 (by omega) : b ≠ blk) (lt_of_cell h2)).trans h2⟩
theorem cmpLays_oc (w : World) (blk n : Nat) : CmpLays Tryz.prog 47 #[] (encS (w := w) (blk := blk)) 3 cmpS blk 0 n w := fun m os dk _ x y => by
  have h := compare_any (sortWorldK encS 3 w blk 0 m dk os) x.1 y.1 ⟨LI.sortW x.2.ok.ws x.2.wx, LI.sortW x.2.ok.pr x.2.px, x.2.ok.wl, x.2.ok.pl⟩ ⟨LI.sortW y.2.ok.ws y.2.wx, LI.sortW y.2.ok.pr y.2.px, y.2.ok.wl, y.2.ok.pl⟩
  exact h
theorem ltS {w : World} {blk : Nat} (x y : EnS w blk) : ltOf cmpS x y = aheadO x.1.o y.1.o := by
  unfold ltOf
  rw [Bool.eq_iff_iff, decide_eq_true_iff]
  exact (cmpO_ahead _ _).1
theorem swo_oc (w : World) (blk : Nat) : SWO (ltOf (cmpS (w := w) (blk := blk))) where
  irrefl x := by rw [ltS]; exact ahead_irr _
  trans x y z h1 h2 := by rw [ltS] at *; exact ahead_trans h1 h2
  ntrans x y z h1 h2 := by
    rw [ltS] at *
    cases h3 : aheadO x.1.o z.1.o with
    | false => rfl
    | true =>
      cases h4 : aheadO y.1.o x.1.o with
      | false =>
        have e := ahead_tri h1 h4
        rw [e] at h3
        rw [h3] at h2; cases h2
      | true =>
        have := ahead_trans h4 h3
        rw [this] at h2; cases h2
/-- A row that is laid anew. -/
theorem own_put {w : World} {B g cap : Nat} {e : TypeId} {size n : Nat} {xs : List Value} (h : w.ownsRow B e size (.slice (some ⟨g, 0, none⟩) n cap) n xs) (F : Array Value) (hF : F.size = n * size) (m : Nat) (os : Array Obj) : (grow (putRow id (Go.Sort.ahead w m) g 0 F) os).ownsRow B e size (.slice (some ⟨g, 0, none⟩) n cap) n F.toList := by
  refine ⟨by simpa using hF, ?_⟩
  rcases h.2 with ⟨h0, _⟩ | ⟨g', cap', cur, hv, hg, hh, h1, h2, h3, _⟩
  · cases h0
  · simp only [Value.slice.injEq, Option.some.injEq, Addr.mk.injEq, and_true, true_and] at hv
    obtain ⟨rfl, rfl⟩ := hv
    refine Or.inr ⟨g, cap, putCells id 0 F cur, rfl, hg, ?_, h1, h2, by simp [putCells, h3], ?_⟩
    · have hl : g < (putRow id (Go.Sort.ahead w m) g 0 F).heap.size := by rw [Go.Sort.size_putRow]; exact box_lt hh
      rw [heap_grow_old _ _ hl]
      unfold putRow mapBlock
      simp only [Array.getElem?_modify, if_true]
      show Option.map (onCells _) (w.heap[g]?) = _
      rw [hh]; rfl
    · have hle : n * size ≤ cap * size := Nat.mul_le_mul_right _ h1
      refine List.ext_getElem? fun k => ?_
      rw [List.getElem?_take]
      split
      · rename_i hk
        simp only [putCells, Array.getElem?_toList, Array.getElem?_mapIdx]
        rw [Array.getElem?_eq_getElem (by omega), Option.map_some, if_pos ⟨Nat.zero_le _, by omega⟩, Nat.sub_zero, Array.getElem?_eq_getElem (by omega), getElem!_pos F k (by omega)]
        rfl
      · rename_i hk
        rw [Array.getElem?_toList, Array.getElem?_eq_none (by omega)]
theorem encE_at (e : En) (j : Nat) (hj : j < 3) : (encE e)[j]! = enC e j := by
  rcases (by omega : j = 0 ∨ j = 1 ∨ j = 2) with rfl | rfl | rfl <;> rfl
theorem flat_ens {w : World} {blk : Nat} (d : Array (EnS w blk)) : (flatK encS 3 d).toList = ensV (d.toList.map Subtype.val) := by
  refine List.ext_getElem? fun k => ?_
  unfold ensV
  rw [rows3_at, List.length_map, Array.length_toList]
  split
  · rename_i hk
    rw [Array.getElem?_toList, Array.getElem?_eq_getElem (by rw [size_flatK]; exact hk)]
    have h1 := get_flatK encS 3 d k hk
    rw [getElem!_pos _ k (by rw [size_flatK]; exact hk)] at h1
    have hq : k / 3 < d.size := by omega
    rw [h1, encE_at _ _ (by omega), getElem!_pos d (k / 3) hq]
    congr 2
    rw [List.getD_eq_getElem?_getD, List.getElem?_map, Array.getElem?_toList, Array.getElem?_eq_getElem hq]
    rfl
  · rename_i hk
    rw [Array.getElem?_toList, Array.getElem?_eq_none (by rw [size_flatK]; omega)]
/-- What stays when a row is sorted. -/
structure Srt (B : Nat) (w w' : World) (a : Option Addr) : Prop where
  below : Below B w w'
  kept : ∀ k, k < w.heap.size → (∀ p, a = some p → p.block ≠ k) → w'.heap[k]? = w.heap[k]?
set_option maxRecDepth 100000 in
/-- slices.SortFunc(list, compare). -/
theorem sort_any (w : World) (B : Nat) (a : Option Addr) (c : Nat) (es : List En) (h : IsO w B a es.length c es) (hX : ∀ e, e ∈ es → ∀ p, a = some p → EnX w p.block e) (hB : B ≤ w.heap.size) (hl : es.length ≤ 100000) (h0 : 0 < es.length) :
    Calls Tryz.prog 46 #[.slice a es.length c, .func (.func 47) #[] #[]] w fun e w' => e = .returned (.tuple #[]) ∧ ∃ es', es'.Perm es ∧ es'.Pairwise (fun x y => aheadO y.o x.o = false) ∧ IsO w' B a es.length c es' ∧ Srt B w w' a := by
  obtain ⟨g, cap, h1, h2, h3, h4⟩ := fam_block h.own h0
  simp only [Value.slice.injEq, true_and] at h1
  obtain ⟨rfl, h5⟩ := h1
  have hX' : ∀ e, e ∈ es → EnX w g e := fun e he => hX e he _ rfl
  obtain ⟨d, hd⟩ : ∃ d : Array (EnS w g), d.toList.map Subtype.val = es := ⟨(es.pmap Subtype.mk hX').toArray, by simp [List.map_pmap]⟩
  have hds : d.size = es.length := by rw [← hd]; simp
  have hH : HoldsK encS 3 w g 0 d := fun j hj => by
    have hf := flat_ens d
    rw [hd] at hf
    have hj' : j < (flatK encS 3 d).toList.length := by simpa using hj
    have e1 : (ensV es)[j]? = some (flatK encS 3 d)[j]! := by
      rw [← hf, Array.getElem?_toList, Array.getElem?_eq_getElem hj, getElem!_pos _ j hj]
    rw [Nat.zero_add]
    refine ⟨fam_cell h.own h2 e1, ?_⟩
    exact fam_frozen h.own h2 j
  have hcon := AnyQ.slices_SortFunc (P := Tryz.prog) Tryz.sortOc 3 Tryz.isAgg73 Tryz.sizeOf73 (encS (w := w) (blk := g)) (fun _ => rfl) (fun x v hv => by simp [encE] at hv; rcases hv with rfl | rfl | rfl <;> rfl) cmpS (swo_oc w g) 47 #[] g 0 c d w (enters_of Tryz.func47 (by kernel_rfl) rfl) (cmpLays_oc w g d.size) hH h4 (by omega)
  rw [hds] at hcon
  refine Calls.mono hcon ?_
  rintro e w' ⟨rfl, d', n, os, hp, hs, rfl⟩
  have hsz : d'.size = es.length := by rw [hp.1, hds]
  refine ⟨rfl, d'.toList.map Subtype.val, ?_, ?_, ⟨by simp [hsz], ?_⟩, ⟨?_, ?_⟩⟩
  · have := hp.2.2
    rw [← hds, Array.extract_size] at this
    rw [← hd]
    have e2 : d'.extract 0 d.size = d' := by rw [← hp.1, Array.extract_size]
    rw [e2] at this
    exact this.map _
  · rw [List.pairwise_map, List.pairwise_iff_getElem]
    intro i j hi hj hij
    have h7 := hs i j (Nat.zero_le _) hij (by simpa [hsz] using hj)
    rw [ltS, getElem!_pos d' i (by simpa using hi), getElem!_pos d' j (by simpa using hj)] at h7
    simpa using h7
  · have h6 := own_put h.own (flatK encS 3 d') (by rw [size_flatK, hsz]) n os
    rw [flat_ens] at h6
    exact h6
  · refine ⟨rfl, rfl, rfl, ?_, fun k hk => ?_⟩
    · unfold sortWorldK
      rw [size_grow, size_putRowK]
      exact Nat.le_add_right _ _
    · unfold sortWorldK putRowK
      rw [heap_grow_old _ _ (by rw [Go.Sort.size_putRow]; exact Nat.lt_of_lt_of_le hk hB)]
      unfold putRow mapBlock
      simp only [Array.getElem?_modify, if_neg (show g ≠ k by omega)]
      rfl
  · intro k hk hne
    have hne' : g ≠ k := hne _ rfl
    unfold sortWorldK putRowK
    rw [heap_grow_old _ _ (by rw [Go.Sort.size_putRow]; exact hk)]
    unfold putRow mapBlock
    simp only [Array.getElem?_modify, if_neg hne']
    rfl
end

end Go.Proofs.YtelckcpjmekgcadGreatDoor
