/-
  The word that a thread's next order touches, by the document.
  All clashes of some states, by the document.
-/
import Derived.Test.YtipdnfpomdcenabGreatDoorSameI
import Derived.Test.YtipdnfpomdcenabGreatDoorRDone
import Derived.Test.YtipdnfpomdcenabGreatDoorRcPl
namespace Go.Proofs.YtipdnfpomdcenabGreatDoor
section
open Go.RowKit

theorem tw_word {X : Nat → Nat → Nat → Int} {s : Sx} {t : Nat} {op a b c : Int} (h0 : opT X s t 0 = op) (h1 : opT X s t 1 = a) (h2 : opT X s t 2 = b) (_h3 : opT X s t 3 = c) : twX X s t = if op = 8 then some (b, false) else if op = 9 then some (a, true) else if op = 10 then some (getR s t b, false) else if op = 11 then some (getR s t a, true) else if op = 13 then some (a, false) else none := by
  unfold twX
  rw [h0, h1, h2]
theorem okT_no {L : Nat → Nat} {X : Nat → Nat → Nat → Int} {s : Sx} {t : Nat} (h : ableT L X s t = false) : okT L X s t = none := by
  unfold okT; rw [h]; rfl
theorem okT_in {L : Nat → Nat} {X : Nat → Nat → Nat → Int} {s : Sx} {t : Nat} {w : Int} {p : Bool} (h : ableT L X s t = true) (ht : twX X s t = some (w, p)) (h0 : 0 ≤ w ∧ w < (s.words.length : Int)) : okT L X s t = some (w, p) := okT_some.mpr ⟨h, ht, h0.1, h0.2⟩
theorem okT_out {L : Nat → Nat} {X : Nat → Nat → Nat → Int} {s : Sx} {t : Nat} {w : Int} {p : Bool} (ht : twX X s t = some (w, p)) (h0 : ¬ (0 ≤ w ∧ w < (s.words.length : Int))) : okT L X s t = none := by
  cases e : okT L X s t with
  | none => rfl
  | some q =>
    obtain ⟨v, r⟩ := q
    obtain ⟨_, h2, h3⟩ := okT_some.mp e
    rw [ht] at h2
    cases h2
    exact absurd h3 h0
theorem okT_else {L : Nat → Nat} {X : Nat → Nat → Nat → Int} {s : Sx} {t : Nat} (ht : twX X s t = none) : okT L X s t = none := by
  cases e : okT L X s t with
  | none => rfl
  | some q =>
    obtain ⟨v, r⟩ := q
    have := (okT_some.mp e).2.1
    rw [ht] at this
    cases this
/-- What touches tells. -/
def TouQ (L : Nat → Nat) (X : Nat → Nat → Nat → Int) (s : Sx) (t : Nat) (w : World) (e : Ending) (w' : World) : Prop := ∃ (x : Int) (p ok : Bool), e = .returned (.tuple #[.int .i64 x, .bool p, .bool ok]) ∧ Hid ((ok = true → okT L X s t = some (x, p)) ∧ (ok = false → okT L X s t = none) ∧ Below w.heap.size w w')
set_option maxRecDepth 100000 in
set_option maxHeartbeats 3200000 in
theorem touches_any (w : World) (B sb : Nat) (P : Pg) (v : Rl → Value) (s : Sx) (A : Nat → Option Addr) (L C : Nat → Nat) (X : Nat → Nat → Nat → Int) (m lk rg : Nat) (t : Nat) (ht : t < P.n) (hs : DSt w B P sb v s) (ho : SOk P.n L m lk rg P.mode s) (hc : COk P.n L X m lk rg) (hp : PIn w P.ca P.n A L C X) :
    Calls Tryz.prog 43 #[.pointer (some ⟨sb, 0, none⟩), .int .i64 t] w (TouQ L X s t w) := by
  have hl := ho.ths
  have hN := hc.n4
  have hLt := hc.L4 t ht
  have htl : t < s.ths.length := by omega
  obtain ⟨tb, tc, hth, htb, _⟩ := hs.thrB (by omega)
  have HA := Hid.out (p := Hid _) (able_any w B sb P v s A L C X m lk rg t ht hs ho hc hp)
  cases hab : ableT L X s t with
  | false =>
    rw [hab] at HA
    have HN := Hid.out (p := Hid _) (okT_no hab)
    clear hs ho hc hp hth htb hab
    go_enter Tryz.func43, Tryz.ntmps43
    go_wp2_with fail
    refine Calls.mono HA.out ?_
    rintro e w1 ⟨rfl, hb1⟩
    go_wp2
    go_ret3
    exact ⟨0, false, false, rfl, ⟨(fun e => by cases e), (fun _ => HN.out), hb1⟩⟩
  | true =>
    rw [hab] at HA
    have hlt := able_lt hab
    have hord := ok_lt hc ht hab
    have hsin := hs.sin hth
    have hnx : ∀ W, Below w.heap.size w W → Calls Tryz.prog 80 #[.pointer (some ⟨sb, 0, none⟩), .int .i64 t] W fun e w' => e = .returned (.tuple #[.agg #[.int .i64 (opT X s t 0), .int .i64 (opT X s t 1), .int .i64 (opT X s t 2), .int .i64 (opT X s t 3)], .bool true]) ∧ Below W.heap.size W w' := fun W hb => next_more sb P.ca P.n P.cc P.mode tb tc _ _ _ _ _ s A L C X hl t ht hN hLt hlt W ((hs.below hb).sin hth) (hp.below hb)
    have hrl := ho.regs t ht
    have hr0 := hc.rg0
    obtain ⟨rb, rc, hrv, hrb, _⟩ := hs.regsB (t := t) (by omega)
    have c5 := hs.c5
    rw [hth, hl] at c5
    have c6 := hs.c6
    obtain ⟨wa, wc, hwv⟩ := hs.wordsV
    rw [hwv, ho.words] at c6
    have dr := hs.regs htb htl
    rw [hrv, hrl] at dr
    have hrg := hc.rg2
    have hm64 := hc.m64
    have HREG : Hid (∀ r : Nat, r < rg → w.cell? ⟨rb, r, none⟩ = some (.int .i64 (getR s t r))) := fun r hr => hs.reg hrb (by omega)
    obtain ⟨op, e0⟩ : ∃ x, opT X s t 0 = x := ⟨_, rfl⟩
    obtain ⟨a, e1⟩ : ∃ x, opT X s t 1 = x := ⟨_, rfl⟩
    obtain ⟨b, e2⟩ : ∃ x, opT X s t 2 = x := ⟨_, rfl⟩
    obtain ⟨c, e3⟩ : ∃ x, opT X s t 3 = x := ⟨_, rfl⟩
    have HTW := Hid.out (p := Hid _) (tw_word e0 e1 e2 e3)
    rw [e0, e1, e2, e3] at hord hnx
    have HNX := Hid.out (p := Hid _) hnx
    have hwl := ho.words
    have HIN : Hid (∀ x p, twX X s t = some (x, p) → 0 ≤ x ∧ x < (m : Int) → okT L X s t = some (x, p)) := fun x p h1 h2 => okT_in hab h1 (by rw [hwl]; exact h2)
    have HOUT : Hid (∀ x p, twX X s t = some (x, p) → ¬ (0 ≤ x ∧ x < (m : Int)) → okT L X s t = none) := fun x p h1 h2 => okT_out h1 (by rw [hwl]; exact h2)
    have HEL : Hid (twX X s t = none → okT L X s t = none) := fun h => okT_else h
    obtain ⟨n, hn⟩ : ∃ n, P.n = n := ⟨_, rfl⟩
    rw [hn] at c5 ht hN
    clear hs hc hp hth htb hrv hrb hsin hnx e0 e1 e2 e3 hlt hwv hl htl hrl hwl hab hn ho hLt
    have key : ∀ (W : World), Below w.heap.size w W → W.cell? ⟨sb, 5, none⟩ = some (.slice (some ⟨tb, 0, none⟩) n tc) ∧ W.cell? ⟨sb, 6, none⟩ = some (.slice wa m wc) ∧ W.cell? ⟨tb, t * 3 + 1, none⟩ = some (.slice (some ⟨rb, 0, none⟩) rg rc) := fun W hb => ⟨(hb.cell (lt_of_cell c5)).trans c5, (hb.cell (lt_of_cell c6)).trans c6, (hb.cell (lt_of_cell dr)).trans dr⟩
    have KEY := Hid.out (p := Hid _) key
    clear key c5 c6 dr
    have h18 := ok_op hord
    by_cases h8 : op = 8
    · subst h8
      have hb := (ok_load hord).2
      have HQ : Hid (okT L X s t = some (b, false)) := HIN.out b false (by rw [HTW.out]; rw [if_pos rfl]) hb
      obtain ⟨hb0, hb1⟩ := hb
      clear HTW HIN HOUT HEL hord HREG
      go_enter Tryz.func43, Tryz.ntmps43
      go_wp2_with fail
      refine Calls.mono HA.out ?_
      rintro e w1 ⟨rfl, hbw1⟩
      have HB1 := Hid.out (p := Hid _) hbw1
      go_wp2_with fail
      refine Calls.mono (HNX.out _ HB1.out) ?_
      rintro e w2 ⟨rfl, hbw2⟩
      have HB2 : Hid (Below w.heap.size w w2) := HB1.out.trans (hbw2.mono HB1.out.size)
      have k := fun o => KEY.out (w2.alloc o) (HB2.out.alloc HB2.out.size o)
      have k1 := fun o => (k o).1
      have k2 := fun o => (k o).2.1
      have k3 := fun o => (k o).2.2
      clear k hbw1 hbw2
      go_wp2
      go_quiet (fail)
      go_wp2
      go_ret3
      exact ⟨b, false, true, rfl, ⟨(fun _ => HQ.out), (fun e => by cases e), below_drewN (HB2.out.alloc HB2.out.size _)⟩⟩
    by_cases h9 : op = 9
    · subst h9
      have hb := (ok_store hord).1
      have HQ : Hid (okT L X s t = some (a, true)) := HIN.out a true (by rw [HTW.out]; rw [if_neg (by decide), if_pos rfl]) hb
      obtain ⟨hb0, hb1⟩ := hb
      clear HTW HIN HOUT HEL hord HREG
      go_enter Tryz.func43, Tryz.ntmps43
      go_wp2_with fail
      refine Calls.mono HA.out ?_
      rintro e w1 ⟨rfl, hbw1⟩
      have HB1 := Hid.out (p := Hid _) hbw1
      go_wp2_with fail
      refine Calls.mono (HNX.out _ HB1.out) ?_
      rintro e w2 ⟨rfl, hbw2⟩
      have HB2 : Hid (Below w.heap.size w w2) := HB1.out.trans (hbw2.mono HB1.out.size)
      have k := fun o => KEY.out (w2.alloc o) (HB2.out.alloc HB2.out.size o)
      have k1 := fun o => (k o).1
      have k2 := fun o => (k o).2.1
      have k3 := fun o => (k o).2.2
      clear k hbw1 hbw2
      go_wp2
      go_quiet (fail)
      go_wp2
      go_ret3
      exact ⟨a, true, true, rfl, ⟨(fun _ => HQ.out), (fun e => by cases e), below_drewN (HB2.out.alloc HB2.out.size _)⟩⟩
    by_cases h13 : op = 13
    · subst h13
      have hb := (ok_cas hord).1
      have HQ : Hid (okT L X s t = some (a, false)) := HIN.out a false (by rw [HTW.out]; rw [if_neg (by decide), if_neg (by decide), if_neg (by decide), if_neg (by decide), if_pos rfl]) hb
      obtain ⟨hb0, hb1⟩ := hb
      clear HTW HIN HOUT HEL hord HREG
      go_enter Tryz.func43, Tryz.ntmps43
      go_wp2_with fail
      refine Calls.mono HA.out ?_
      rintro e w1 ⟨rfl, hbw1⟩
      have HB1 := Hid.out (p := Hid _) hbw1
      go_wp2_with fail
      refine Calls.mono (HNX.out _ HB1.out) ?_
      rintro e w2 ⟨rfl, hbw2⟩
      have HB2 : Hid (Below w.heap.size w w2) := HB1.out.trans (hbw2.mono HB1.out.size)
      have k := fun o => KEY.out (w2.alloc o) (HB2.out.alloc HB2.out.size o)
      have k1 := fun o => (k o).1
      have k2 := fun o => (k o).2.1
      have k3 := fun o => (k o).2.2
      clear k hbw1 hbw2
      go_wp2
      go_quiet (fail)
      go_wp2
      go_ret3
      exact ⟨a, false, true, rfl, ⟨(fun _ => HQ.out), (fun e => by cases e), below_drewN (HB2.out.alloc HB2.out.size _)⟩⟩
    by_cases h10 : op = 10
    · subst h10
      obtain ⟨i, rfl, hi⟩ := toN (ok_rr (Or.inr (Or.inl rfl)) hord).2
      have hreg := HREG.out i hi
      obtain ⟨y, hy⟩ : ∃ y, getR s t (i : Int) = y := ⟨_, rfl⟩
      have HT : Hid (twX X s t = some (y, false)) := by show _ = _; rw [HTW.out]; rw [if_neg (by decide), if_neg (by decide), if_pos rfl]; rw [hy]
      rw [hy] at hreg
      by_cases hy0 : y < 0
      · have HQ : Hid (okT L X s t = none) := HOUT.out y false HT.out (by omega)
        have hy1 : ¬ (0 ≤ y) := by omega
        have hyd : decide (0 ≤ y) = false := decide_eq_false hy1
        clear HTW HIN HOUT HEL hord HREG HT hy
        go_enter Tryz.func43, Tryz.ntmps43
        go_wp2_with fail
        refine Calls.mono HA.out ?_
        rintro e w1 ⟨rfl, hbw1⟩
        have HB1 := Hid.out (p := Hid _) hbw1
        go_wp2_with fail
        refine Calls.mono (HNX.out _ HB1.out) ?_
        rintro e w2 ⟨rfl, hbw2⟩
        have HB2 : Hid (Below w.heap.size w w2) := HB1.out.trans (hbw2.mono HB1.out.size)
        have k := fun o => KEY.out (w2.alloc o) (HB2.out.alloc HB2.out.size o)
        have k1 := fun o => (k o).1
        have k2 := fun o => (k o).2.1
        have k3 := fun o => (k o).2.2
        have k4 : ∀ o, (w2.alloc o).cell? ⟨rb, i, none⟩ = some (.int .i64 y) := fun o => ((HB2.out.alloc HB2.out.size o).cell (lt_of_cell hreg)).trans hreg
        clear k hbw1 hbw2
        go_wp2
        go_quiet (fail)
        go_wp2
        go_ret3
        exact ⟨y, false, false, rfl, ⟨(fun e => by cases e), (fun _ => HQ.out), below_drewN (HB2.out.alloc HB2.out.size _)⟩⟩
      · have hy1 : 0 ≤ y := by omega
        have HQ : Hid ((y < (m : Int) → okT L X s t = some (y, false)) ∧ (¬ y < (m : Int) → okT L X s t = none)) := ⟨fun h => HIN.out y false HT.out ⟨hy1, h⟩, fun h => HOUT.out y false HT.out (by omega)⟩
        clear HTW HIN HOUT HEL hord HREG HT hy
        go_enter Tryz.func43, Tryz.ntmps43
        go_wp2_with fail
        refine Calls.mono HA.out ?_
        rintro e w1 ⟨rfl, hbw1⟩
        have HB1 := Hid.out (p := Hid _) hbw1
        go_wp2_with fail
        refine Calls.mono (HNX.out _ HB1.out) ?_
        rintro e w2 ⟨rfl, hbw2⟩
        have HB2 : Hid (Below w.heap.size w w2) := HB1.out.trans (hbw2.mono HB1.out.size)
        have k := fun o => KEY.out (w2.alloc o) (HB2.out.alloc HB2.out.size o)
        have k1 := fun o => (k o).1
        have k2 := fun o => (k o).2.1
        have k3 := fun o => (k o).2.2
        have k4 : ∀ o, (w2.alloc o).cell? ⟨rb, i, none⟩ = some (.int .i64 y) := fun o => ((HB2.out.alloc HB2.out.size o).cell (lt_of_cell hreg)).trans hreg
        clear k hbw1 hbw2
        go_wp2
        go_quiet (fail)
        go_wp2
        go_ret3
        exact ⟨y, false, decide (y < (m : Int)), rfl, ⟨(fun e => HQ.out.1 (of_decide_eq_true e)), (fun e => HQ.out.2 (by have := of_decide_eq_false e; omega)), below_drewN (HB2.out.alloc HB2.out.size _)⟩⟩
    by_cases h11 : op = 11
    · subst h11
      obtain ⟨i, rfl, hi⟩ := toN (ok_rr (Or.inr (Or.inr rfl)) hord).1
      have hreg := HREG.out i hi
      obtain ⟨y, hy⟩ : ∃ y, getR s t (i : Int) = y := ⟨_, rfl⟩
      have HT : Hid (twX X s t = some (y, true)) := by show _ = _; rw [HTW.out]; rw [if_neg (by decide), if_neg (by decide), if_neg (by decide), if_pos rfl]; rw [hy]
      rw [hy] at hreg
      by_cases hy0 : y < 0
      · have HQ : Hid (okT L X s t = none) := HOUT.out y true HT.out (by omega)
        have hy1 : ¬ (0 ≤ y) := by omega
        have hyd : decide (0 ≤ y) = false := decide_eq_false hy1
        clear HTW HIN HOUT HEL hord HREG HT hy
        go_enter Tryz.func43, Tryz.ntmps43
        go_wp2_with fail
        refine Calls.mono HA.out ?_
        rintro e w1 ⟨rfl, hbw1⟩
        have HB1 := Hid.out (p := Hid _) hbw1
        go_wp2_with fail
        refine Calls.mono (HNX.out _ HB1.out) ?_
        rintro e w2 ⟨rfl, hbw2⟩
        have HB2 : Hid (Below w.heap.size w w2) := HB1.out.trans (hbw2.mono HB1.out.size)
        have k := fun o => KEY.out (w2.alloc o) (HB2.out.alloc HB2.out.size o)
        have k1 := fun o => (k o).1
        have k2 := fun o => (k o).2.1
        have k3 := fun o => (k o).2.2
        have k4 : ∀ o, (w2.alloc o).cell? ⟨rb, i, none⟩ = some (.int .i64 y) := fun o => ((HB2.out.alloc HB2.out.size o).cell (lt_of_cell hreg)).trans hreg
        clear k hbw1 hbw2
        go_wp2
        go_quiet (fail)
        go_wp2
        go_ret3
        exact ⟨y, true, false, rfl, ⟨(fun e => by cases e), (fun _ => HQ.out), below_drewN (HB2.out.alloc HB2.out.size _)⟩⟩
      · have hy1 : 0 ≤ y := by omega
        have HQ : Hid ((y < (m : Int) → okT L X s t = some (y, true)) ∧ (¬ y < (m : Int) → okT L X s t = none)) := ⟨fun h => HIN.out y true HT.out ⟨hy1, h⟩, fun h => HOUT.out y true HT.out (by omega)⟩
        clear HTW HIN HOUT HEL hord HREG HT hy
        go_enter Tryz.func43, Tryz.ntmps43
        go_wp2_with fail
        refine Calls.mono HA.out ?_
        rintro e w1 ⟨rfl, hbw1⟩
        have HB1 := Hid.out (p := Hid _) hbw1
        go_wp2_with fail
        refine Calls.mono (HNX.out _ HB1.out) ?_
        rintro e w2 ⟨rfl, hbw2⟩
        have HB2 : Hid (Below w.heap.size w w2) := HB1.out.trans (hbw2.mono HB1.out.size)
        have k := fun o => KEY.out (w2.alloc o) (HB2.out.alloc HB2.out.size o)
        have k1 := fun o => (k o).1
        have k2 := fun o => (k o).2.1
        have k3 := fun o => (k o).2.2
        have k4 : ∀ o, (w2.alloc o).cell? ⟨rb, i, none⟩ = some (.int .i64 y) := fun o => ((HB2.out.alloc HB2.out.size o).cell (lt_of_cell hreg)).trans hreg
        clear k hbw1 hbw2
        go_wp2
        go_quiet (fail)
        go_wp2
        go_ret3
        exact ⟨y, true, decide (y < (m : Int)), rfl, ⟨(fun e => HQ.out.1 (of_decide_eq_true e)), (fun e => HQ.out.2 (by have := of_decide_eq_false e; omega)), below_drewN (HB2.out.alloc HB2.out.size _)⟩⟩
    have HQ : Hid (okT L X s t = none) := HEL.out (by rw [HTW.out, if_neg h8, if_neg h9, if_neg h10, if_neg h11, if_neg h13])
    clear HTW HIN HOUT HEL hord HREG
    go_enter Tryz.func43, Tryz.ntmps43
    go_wp2_with fail
    refine Calls.mono HA.out ?_
    rintro e w1 ⟨rfl, hbw1⟩
    have HB1 := Hid.out (p := Hid _) hbw1
    go_wp2_with fail
    refine Calls.mono (HNX.out _ HB1.out) ?_
    rintro e w2 ⟨rfl, hbw2⟩
    have HB2 : Hid (Below w.heap.size w w2) := HB1.out.trans (hbw2.mono HB1.out.size)
    have k := fun o => KEY.out (w2.alloc o) (HB2.out.alloc HB2.out.size o)
    have k1 := fun o => (k o).1
    have k2 := fun o => (k o).2.1
    have k3 := fun o => (k o).2.2
    clear k hbw1 hbw2
    go_wp2
    go_quiet (fail)
    go_wp2
    go_ret3
    exact ⟨(-1), false, false, rfl, ⟨(fun e => by cases e), (fun _ => HQ.out), below_drewN (HB2.out.alloc HB2.out.size _)⟩⟩
end

section
open Go.RowKit

section
variable (L : Nat → Nat) (X : Nat → Nat → Nat → Int)
/-- The clashes of a state's pairs of threads, so far. -/
def clsA (s : Sx) (n a : Nat) (c : List Int) : Prop := ∃ a' b', a' < a ∧ a' < b' ∧ b' < n ∧ clP L X s a' b' = some c
def clsB (s : Sx) (a b : Nat) (c : List Int) : Prop := ∃ b', a < b' ∧ b' < b ∧ clP L X s a b' = some c
def clsS (ss : List Sx) (i : Nat) (c : List Int) : Prop := ∃ k, k < i ∧ ClsX L X (ss.getD k default) c
end
section
variable {L : Nat → Nat} {X : Nat → Nat → Nat → Int} {s : Sx} {n a b : Nat} {c : List Int}
theorem clsB_next (hb : a < b) : clsB L X s a (b + 1) c ↔ clsB L X s a b c ∨ clP L X s a b = some c := by
  constructor
  · rintro ⟨b', h1, h2, h3⟩
    by_cases e : b' = b
    · rw [e] at h3; exact Or.inr h3
    · exact Or.inl ⟨b', h1, by omega, h3⟩
  · rintro (⟨b', h1, h2, h3⟩ | h)
    · exact ⟨b', h1, by omega, h3⟩
    · exact ⟨b, hb, by omega, h⟩
theorem clsB_first : ¬ clsB L X s a (a + 1) c := fun ⟨b', h1, h2, _⟩ => by omega
theorem clsA_next : clsA L X s n (a + 1) c ↔ clsA L X s n a c ∨ clsB L X s a n c := by
  constructor
  · rintro ⟨a', b', h1, h2, h3, h4⟩
    by_cases e : a' = a
    · rw [e] at h2 h4; exact Or.inr ⟨b', h2, h3, h4⟩
    · exact Or.inl ⟨a', b', by omega, h2, h3, h4⟩
  · rintro (⟨a', b', h1, h2, h3, h4⟩ | ⟨b', h1, h2, h3⟩)
    · exact ⟨a', b', by omega, h2, h3, h4⟩
    · exact ⟨a, b', by omega, h1, h2, h3⟩
theorem clsA_zero : ¬ clsA L X s n 0 c := fun ⟨_, _, h, _⟩ => absurd h (Nat.not_lt_zero _)
theorem clsA_all (h : s.ths.length = n) : clsA L X s n n c ↔ ClsX L X s c := by
  constructor
  · rintro ⟨a', b', h1, h2, h3, h4⟩
    exact ⟨a', b', h2, by rw [h]; exact h3, h4⟩
  · rintro ⟨a', b', h2, h3, h4⟩
    rw [h] at h3
    exact ⟨a', b', by omega, h2, h3, h4⟩
theorem clsS_next {ss : List Sx} {i : Nat} : clsS L X ss (i + 1) c ↔ clsS L X ss i c ∨ ClsX L X (ss.getD i default) c := by
  constructor
  · rintro ⟨k, h1, h2⟩
    by_cases e : k = i
    · rw [e] at h2; exact Or.inr h2
    · exact Or.inl ⟨k, by omega, h2⟩
  · rintro (⟨k, h1, h2⟩ | h)
    · exact ⟨k, by omega, h2⟩
    · exact ⟨i, by omega, h⟩
theorem clsS_zero {ss : List Sx} : ¬ clsS L X ss 0 c := fun ⟨_, h, _⟩ => absurd h (Nat.not_lt_zero _)
end
/-- A list of clashes so far. -/
structure ClI (w : World) (a : Option Addr) (l : List (List Int)) (P : List Int → Prop) (k : Nat) : Prop where
  cin : CIn w a l
  srt : SortedL l
  mem : ∀ c, c ∈ l ↔ P c
  len : l.length ≤ k
theorem ClI.keep {w w' : World} {a : Option Addr} {l : List (List Int)} {P Q : List Int → Prop} {k k' : Nat} (h : ClI w a l P k) (hb : Below w.heap.size w w') (hP : ∀ c, P c ↔ Q c) (hk : k ≤ k') : ClI w' a l Q k' := ⟨h.cin.below hb, h.srt, fun c => (h.mem c).trans (hP c), Nat.le_trans h.len hk⟩

set_option maxRecDepth 100000 in
set_option maxHeartbeats 6400000 in
theorem clashes_any (w : World) (pb hb hc N : Nat) (P : Pg) (ss : List Sx) (A : Nat → Option Addr) (L C : Nat → Nat) (X : Nat → Nat → Nat → Int) (m lk rg : Nat) (hN : N ≤ 4000) (hn0 : 0 < P.n) (hco : COk P.n L X m lk rg) (hpi : PIn w P.ca P.n A L C X) (c0 : w.cell? ⟨pb, 0, none⟩ = some (.slice (some ⟨hb, 0, none⟩) N hc))
    (hst : ∀ k, k < N → ∃ xb B v, w.cell? ⟨hb, k, none⟩ = some (.pointer (some ⟨xb, 0, none⟩)) ∧ DSt w B P xb v (ss.getD k default) ∧ SOk P.n L m lk rg P.mode (ss.getD k default)) :
    Calls Tryz.prog 22 #[.pointer (some ⟨pb, 0, none⟩)] w fun e w' => ∃ a cap l, e = .returned (.slice a l.length cap) ∧ ClI w' a l (clsS L X ss N) (16 * N) ∧ Below w.heap.size w w' := by
  have hn4 := hco.n4
  obtain ⟨n, hn⟩ : ∃ n, P.n = n := ⟨_, rfl⟩
  have HC0 : Hid (∀ W, Below w.heap.size w W → W.cell? ⟨pb, 0, none⟩ = some (.slice (some ⟨hb, 0, none⟩) N hc)) := fun W hb => (hb.cell (lt_of_cell c0)).trans c0
  have HST : Hid (∀ k, k < N → ∃ xb tb tc, (∀ W, Below w.heap.size w W → W.cell? ⟨hb, k, none⟩ = some (.pointer (some ⟨xb, 0, none⟩)) ∧ W.cell? ⟨xb, 5, none⟩ = some (.slice (some ⟨tb, 0, none⟩) n tc) ∧ ∀ t, t < n → W.cell? ⟨tb, t * 3, none⟩ = some (.int .i64 (thOf (ss.getD k default) t).pc)) ∧ (ss.getD k default).ths.length = n ∧ Hid (∀ V t, t < n → Below w.heap.size w V → Calls Tryz.prog 43 #[.pointer (some ⟨xb, 0, none⟩), .int .i64 t] V (TouQ L X (ss.getD k default) t V))) := fun k hk => by
    obtain ⟨xb, B, v, h1, h2, h3⟩ := hst k hk
    obtain ⟨tb, tc, hth, htb, _⟩ := h2.thrB (by rw [h3.ths]; exact hn0)
    refine ⟨xb, tb, tc, fun W hb => ?_, by rw [h3.ths, hn], fun V t ht hV => ?_⟩
    · have c5 := (h2.below hb).c5
      rw [hth, h3.ths, hn] at c5
      exact ⟨(hb.cell (lt_of_cell h1)).trans h1, c5, fun t ht => (h2.below hb).pc htb (by rw [h3.ths, hn]; exact ht)⟩
    · exact touches_any V B xb P v _ A L C X m lk rg t (by rw [hn]; exact ht) (h2.below hV) h3 hco (hpi.below hV)
  rw [hn] at hn4
  clear hst hco hpi c0 hn hn0
  go_enter Tryz.func22, Tryz.ntmps22
  go_wp2_with fail
  go_loopw [3, 4] (fun o i wr => ∃ (j : Nat) (a : Option Addr) (cap : Nat) (l : List (List Int)), j ≤ N ∧ i = .int .i64 j ∧ o = .slice a l.length cap ∧ Hid (ClI wr a l (clsS L X ss j) (16 * j)) ∧ Below w.heap.size w wr) (fun _ i _ => N - (intOf i).toNat)
  case atStart => exact ⟨0, none, 0, [], Nat.zero_le _, rfl, rfl, ⟨fun i hi => absurd hi (Nat.not_lt_zero _), List.Pairwise.nil, fun c => ⟨fun h => (by cases h), fun h => absurd h clsS_zero⟩, Nat.le_refl _⟩, Below.refl _ _⟩
  case round =>
    obtain ⟨j, a, cap, l, hj, rfl, rfl, HI, hbr⟩ := hrel
    have c0 := HC0.out _ hbr
    by_cases hlt : j < N
    · obtain ⟨xb, tb, tc, hcell, hths, HT⟩ := HST.out j hlt
      obtain ⟨s, hs⟩ : ∃ s, ss.getD j default = s := ⟨_, rfl⟩
      rw [hs] at HT hths hcell
      have HX := Hid.out (p := Hid _) hcell
      obtain ⟨k0, k5, _⟩ := HX.out _ hbr
      have HS : Hid (ss.getD j default = s ∧ s.ths.length = n) := ⟨hs, hths⟩
      clear hcell hs hths
      go_wp2_with fail
      go_loopw [3, 6] (fun o i wr2 => ∃ (p : Nat) (a : Option Addr) (cap : Nat) (l : List (List Int)), p ≤ n ∧ i = .int .i64 p ∧ o = .slice a l.length cap ∧ Hid (ClI wr2 a l (fun c => clsS L X ss j c ∨ clsA L X s n p c) (16 * j + 4 * p)) ∧ Below w.heap.size w wr2) (fun _ i _ => n - (intOf i).toNat)
      case atStart => exact ⟨0, _, _, _, Nat.zero_le _, rfl, rfl, HI.out.keep (Below.refl _ _) (fun c => ⟨Or.inl, fun h => h.elim id fun h => absurd h clsA_zero⟩) (by omega), hbr⟩
      case round =>
        obtain ⟨p, a2, cap2, l2, hp, rfl, rfl, HI2, hbr2⟩ := hrel
        obtain ⟨_, k5', _⟩ := HX.out _ hbr2
        by_cases hpn : p < n
        · go_wp2_with fail
          go_loopw [3, 7] (fun o i wr3 => ∃ (q : Nat) (a : Option Addr) (cap : Nat) (l : List (List Int)), p < q ∧ (q ≤ n ∨ q = p + 1) ∧ i = .int .i64 q ∧ o = .slice a l.length cap ∧ Hid (ClI wr3 a l (fun c => clsS L X ss j c ∨ clsA L X s n p c ∨ clsB L X s p q c) (16 * j + 4 * p + (q - p - 1))) ∧ Below w.heap.size w wr3) (fun _ i _ => n - (intOf i).toNat)
          case atStart => exact ⟨p + 1, _, _, _, by omega, Or.inr rfl, by go_num, rfl, HI2.out.keep (Below.refl _ _) (fun c => ⟨fun h => h.imp id Or.inl, fun h => h.imp id fun h => h.elim id fun h => absurd h clsB_first⟩) (by omega), hbr2⟩
          case round =>
            obtain ⟨q, a3, cap3, l3, hpq, hqn, rfl, rfl, HI3, hbr3⟩ := hrel
            obtain ⟨_, k5'', _⟩ := HX.out _ hbr3
            by_cases hqlt : q < n
            · have HT1 := Hid.out (p := Hid _) (HT.out _ p hpn hbr3)
              go_wp2_with fail
              refine Calls.mono HT1.out ?_
              rintro e w1 ⟨x, pb', ok, rfl, HQ1⟩
              have hb1 : Below w.heap.size w w1 := hbr3.trans (HQ1.out.2.2.mono hbr3.size)
              have HT2 := Hid.out (p := Hid _) (HT.out _ q hqlt hb1)
              clear HT1
              go_wp2_with fail
              refine Calls.mono HT2.out ?_
              rintro e w2 ⟨y, qb', is, rfl, HQ2⟩
              have hb2 : Below w.heap.size w w2 := hb1.trans (HQ2.out.2.2.mono hb1.size)
              have hb32 : Below wr.heap.size wr w2 := HQ1.out.2.2.trans (HQ2.out.2.2.mono HQ1.out.2.2.size)
              have HB2 : Hid (Below w.heap.size w w2) := hb2
              have HI4 : Hid (ClI w2 a3 l3 (fun c => clsS L X ss j c ∨ clsA L X s n p c ∨ clsB L X s p q c) (16 * j + 4 * p + (q - p - 1))) := HI3.out.keep hb32 (fun _ => Iff.rfl) (Nat.le_refl _)
              have HNO : Hid (clP L X s p q = none → ClI w2 a3 l3 (fun c => clsS L X ss j c ∨ clsA L X s n p c ∨ clsB L X s p (q + 1) c) (16 * j + 4 * p + (q + 1 - p - 1))) := fun h => HI4.out.keep (Below.refl _ _) (fun c => by rw [clsB_next hpq, h]; simp) (by omega)
              have HQ : Hid ((ok = true → okT L X s p = some (x, pb')) ∧ (ok = false → okT L X s p = none) ∧ (is = true → okT L X s q = some (y, qb')) ∧ (is = false → okT L X s q = none)) := ⟨HQ1.out.1, HQ1.out.2.1, HQ2.out.1, HQ2.out.2.1⟩
              obtain ⟨_, k5w, kpc⟩ := HX.out _ hb2
              have kp := kpc p hpn
              have kq := kpc q hqlt
              clear HT2 HQ1 HQ2 hb32 hb1 hb2 kpc HI3
              cases ok with
              | false =>
                have HR := Hid.out (p := Hid _) (HNO.out (clP_no (Or.inl (HQ.out.2.1 rfl))))
                clear HI4 HNO HQ kp kq
                go_wp2
                go_roundw
                case rel => exact ⟨q + 1, _, _, _, by omega, Or.inl (by omega), by go_num, rfl, HR, HB2.out⟩
                case measure => simp [intOf]; omega
              | true =>
                cases is with
                | false =>
                  have HR := Hid.out (p := Hid _) (HNO.out (clP_no (Or.inr (HQ.out.2.2.2 rfl))))
                  clear HI4 HNO HQ kp kq
                  go_wp2
                  go_roundw
                  case rel => exact ⟨q + 1, _, _, _, by omega, Or.inl (by omega), by go_num, rfl, HR, HB2.out⟩
                  case measure => simp [intOf]; omega
                | true =>
                  have htwo := clP_two (HQ.out.1 rfl) (HQ.out.2.2.1 rfl)
                  by_cases hxy : x = y
                  · subst hxy
                    cases hpq2 : (pb' || qb') with
                    | false =>
                      obtain ⟨rfl, rfl⟩ : pb' = false ∧ qb' = false := by simpa using hpq2
                      have HR := Hid.out (p := Hid _) (HNO.out (by rw [htwo, if_neg (by simp)]))
                      clear HI4 HNO HQ kp kq htwo hpq2
                      go_wp2
                      go_roundw
                      case rel => exact ⟨q + 1, _, _, _, by omega, Or.inl (by omega), by go_num, rfl, HR, HB2.out⟩
                      case measure => simp [intOf]; omega
                    | true =>
                      rw [if_pos ⟨rfl, hpq2⟩] at htwo
                      obtain ⟨u, hu⟩ : ∃ u, (thOf s p).pc = u := ⟨_, rfl⟩
                      obtain ⟨v, hv⟩ : ∃ u, (thOf s q).pc = u := ⟨_, rfl⟩
                      rw [hu, hv] at htwo
                      rw [hu] at kp
                      rw [hv] at kq
                      have HPL : Hid (∀ W, Below w2.heap.size w2 W → Calls Tryz.prog 44 #[.slice a3 l3.length cap3, clV (p : Int) (u : Int) (q : Int) (v : Int) x] W fun e w' => ∃ a' cap' l', e = .returned (.slice a' l'.length cap') ∧ Hid (ClI w' a' l' (fun c => clsS L X ss j c ∨ clsA L X s n p c ∨ clsB L X s p (q + 1) c) (16 * j + 4 * p + (q + 1 - p - 1)) ∧ Below w2.heap.size w2 w')) := fun W hbW => by
                        have h4 := HI4.out
                        refine Calls.mono (place_any W a3 cap3 l3 p u q v x (h4.cin.below hbW) h4.srt (by have := h4.len; omega)) fun e w' ⟨a', cap', h1, h2, h3⟩ => ⟨a', cap', _, h1, ⟨h2, sorted_insL h4.srt, fun c => ?_, ?_⟩, hbW.trans (h3.mono hbW.size)⟩
                        · rw [mem_insL, h4.mem, clsB_next hpq, htwo]
                          simp only [Option.some.injEq]
                          exact ⟨fun h => h.elim (fun e => Or.inr (Or.inr (Or.inr e.symm))) (fun h => h.imp id (fun h => h.imp id Or.inl)), fun h => by
                            rcases h with h | h | h | h
                            · exact Or.inr (Or.inl h)
                            · exact Or.inr (Or.inr (Or.inl h))
                            · exact Or.inr (Or.inr (Or.inr h))
                            · exact Or.inl h.symm⟩
                        · have h5 := h4.len
                          have h6 := insL_len (c := [(p : Int), (u : Int), (q : Int), (v : Int), x]) l3
                          omega
                      obtain ⟨n3, hn3⟩ : ∃ k, l3.length = k := ⟨_, rfl⟩
                      rw [hn3] at HPL
                      rw [hn3]
                      clear HI4 HNO HQ htwo hu hv hn3
                      have hor : (pb' = true) ∨ (pb' = false ∧ qb' = true) := by
                        cases pb' with
                        | true => exact Or.inl rfl
                        | false => exact Or.inr ⟨rfl, by simpa using hpq2⟩
                      clear hpq2
                      rcases hor with rfl | ⟨rfl, rfl⟩
                      all_goals
                        go_wp2_with fail
                        refine region_tail 21 (by kernel_rfl) (by kernel_rfl) ?_
                        simp only [List.take_succ_cons, List.take_zero, List.drop_succ_cons, List.drop_zero]
                        repeat still_step
                        refine wpStill_nil ?_
                        go_wp2_with fail
                        refine Calls.mono (HPL.out _ (Below.refl _ _).drew) ?_
                        rintro e w4 ⟨a5, cap5, l5, rfl, HR⟩
                        have HB4 : Hid (Below w.heap.size w w4) := HB2.out.trans (HR.out.2.mono HB2.out.size)
                        have HR1 := Hid.out (p := Hid _) HR.out.1
                        clear HR HPL kp kq
                        go_wp2
                        go_roundw
                        case rel => exact ⟨q + 1, _, _, _, by omega, Or.inl (by omega), by go_num, rfl, HR1, HB4.out⟩
                        case measure => simp [intOf]; omega
                  · have HR := Hid.out (p := Hid _) (HNO.out (by rw [htwo, if_neg (fun h => hxy h.1)]))
                    have hxy' : (x == y) = false := by simpa using hxy
                    clear HI4 HNO HQ kp kq htwo hxy
                    go_wp2
                    go_roundw
                    case rel => exact ⟨q + 1, _, _, _, by omega, Or.inl (by omega), by go_num, rfl, HR, HB2.out⟩
                    case measure => simp [intOf]; omega
            · obtain rfl : q = n := by omega
              have HR : Hid (ClI wr a3 l3 (fun c => clsS L X ss j c ∨ clsA L X s q (p + 1) c) (16 * j + 4 * (p + 1))) := HI3.out.keep (Below.refl _ _) (fun c => by rw [clsA_next]) (by omega)
              clear HI3
              go_wp2
              go_roundw
              case rel => exact ⟨p + 1, _, _, _, by omega, by go_num, rfl, HR, hbr3⟩
              case measure => simp [intOf]; omega
        · obtain rfl : p = n := by omega
          have HR : Hid (ClI wr a2 l2 (clsS L X ss (j + 1)) (16 * (j + 1))) := HI2.out.keep (Below.refl _ _) (fun c => by rw [clsS_next, HS.out.1, clsA_all HS.out.2]) (by omega)
          clear HI2
          go_wp2
          go_roundw
          case rel => exact ⟨j + 1, _, _, _, by omega, by go_num, rfl, HR, hbr2⟩
          case measure => simp [intOf]; omega
    · obtain rfl : j = N := by omega
      clear HST
      go_wp2
      go_ret
      exact ⟨a, cap, l, rfl, HI.out, hbr⟩
end

end Go.Proofs.YtipdnfpomdcenabGreatDoor
