/-
  The law of fences that are enough.
  A program in memory, its numbers settled behind its orders.
  The law of fences that are enough, for every program.
-/
import Derived.Test.YtelckcpjmekgcadGreatDoorFFew
import Derived.Test.YtelckcpjmekgcadGreatDoorOcRob
import Derived.Test.YtelckcpjmekgcadGreatDoorInProg
import Derived.Deep.QuietTactic
import Derived.BigQuiet
import Derived.Test.YtelckcpjmekgcadGreatDoorFewP
namespace Go.Proofs.YtelckcpjmekgcadGreatDoor
section
open Go.RowKit Go.Sort Go.Shelf

attribute [local go_sem] eqPl
theorem bldPl (a b : Int) (w : World) : (Instr.build 33 #[(0, .int .i64 a), (1, .int .i64 b)]).run Tryz.prog w = .ok (.agg #[.int .i64 a, .int .i64 b]) w := run_build w 33 _ _ (by kernel_rfl)
attribute [local go_sem] bldPl
/-- Fewest of the two threads' program. -/
theorem few_buf (d : Nat) (w W : World) (h : IsBuf d w W) (htab : TabB W.heap.size W) :
    Calls Tryz.prog 5 #[prgV (some ⟨d + 3, 0, none⟩) 2 2 (some ⟨d + 4, 0, none⟩) 2 2 0 2] W fun e w' => ∃ b o c, e = .returned (.tuple #[.slice (some ⟨b, o, none⟩) 2 c, ints3 0 0 0]) ∧ (w'.cell? ⟨b, o, none⟩ = some (.int .i64 0) ∧ w'.cell? ⟨b, o + 1, none⟩ = some (.int .i64 1) ∧ w'.cell? ⟨b, o + 2, none⟩ = some (.int .i64 1) ∧ w'.cell? ⟨b, o + 3, none⟩ = some (.int .i64 1)) ∧ Below W.heap.size W w' := by
  have hf : ∀ t i, t < 2 → i < bufL t → I64n (bufX t i 2) := fun t i ht hi => by
    have hi : i < 4 := hi
    match t, ht with
    | 0, _ => match i, hi with
      | 0, _ => exact ⟨by decide, by decide⟩
      | 1, _ => exact ⟨by decide, by decide⟩
      | 2, _ => exact ⟨by decide, by decide⟩
      | 3, _ => exact ⟨by decide, by decide⟩
    | 1, _ => match i, hi with
      | 0, _ => exact ⟨by decide, by decide⟩
      | 1, _ => exact ⟨by decide, by decide⟩
      | 2, _ => exact ⟨by decide, by decide⟩
      | 3, _ => exact ⟨by decide, by decide⟩
  have h1 := few_yes W (some ⟨d + 3, 0, none⟩) 2 2 (some ⟨d + 4, 0, none⟩) 2 0 2 [0, 0] _ bufL _ bufX buf_chk h.prog buf_cok (by decide) h.words (fun e => by cases e) hf (fun x hx => by
    have : x = 0 := by simpa using hx
    subst this
    exact ⟨by decide, by decide⟩) htab
  refine Calls.mono h1 ?_
  rintro e w' ⟨a, c, P, z, rfl, hq, hpl, _, hb, _⟩
  obtain ⟨rfl, rfl⟩ := hq.same buf_few
  obtain ⟨b, o, rfl, x0, x1⟩ := hpl 0 (by decide)
  obtain ⟨b', o', e', x2, x3⟩ := hpl 1 (by decide)
  simp only [Option.some.injEq, Addr.mk.injEq, and_true] at e'
  obtain ⟨rfl, rfl⟩ := e'
  exact ⟨b, o, c, rfl, ⟨x0, x1, x2, x3⟩, hb⟩

set_option maxRecDepth 100000 in
set_option maxHeartbeats 12800000 in
theorem enough_walk (w : World) (ca : Option Addr) (n cc : Nat) (wa : Option Addr) (m wc : Nat) (lk rg : Int) (A : Nat → Option Addr) (L C : Nat → Nat) (X : Nat → Nat → Nat → Int) (htab : TabB w.heap.size w) (hp : PIn w ca n A L C X)
    (HV : Hid (∀ W, Below w.heap.size w W → Calls Tryz.prog 7 #[prgV ca n cc wa m wc lk rg] W fun e w' => ∃ b, e = .returned (.bool b) ∧ Below W.heap.size W w'))
    (HF : Hid (∀ W, Below w.heap.size w W → Calls Tryz.prog 5 #[prgV ca n cc wa m wc lk rg] W fun e w' => ∃ a c P x y z, e = .returned (.tuple #[.slice a P.length c, ints3 x y z]) ∧ Hid (PlIn w' a P ∧ P.length ≤ 6 ∧ Below W.heap.size W w' ∧ (∀ b o, a = some ⟨b, o, none⟩ → 0 < P.length → W.heap.size ≤ b) ∧ (x ≠ 0 → P = []) ∧ (x = 0 → (∀ q, q ∈ P → q.1 < n ∧ q.2 < L q.1 ∧ wtO (X q.1 q.2 0) = true) ∧ P.Pairwise RiseP ∧ ∀ V, Below w.heap.size w V → Calls Tryz.prog 8 #[prgV ca n cc wa m wc lk rg] V fun e w' => e = .returned (.tuple #[.bool (decide (P.length = 0)), ints3 0 0 0]) ∧ Below V.heap.size V w')))) :
    Calls Tryz.prog 3 #[prgV ca n cc wa m wc lk rg] w fun e w' => e = .returned (.bool true) ∧ Below w.heap.size w w' := by
  obtain ⟨W0, hW0⟩ : ∃ V, w.alloc (.cells #[.slice ca n cc, .slice wa m wc, .int .i64 lk, .int .i64 rg] 25) = V := ⟨_, rfl⟩
  have hb0 : Below w.heap.size w W0 := by rw [← hW0]; exact (Below.refl _ _).alloc (Nat.le_refl _) _
  have hp0 : W0.heap[w.heap.size]? = some (.cells #[.slice ca n cc, .slice wa m wc, .int .i64 lk, .int .i64 rg] 25) := by rw [← hW0]; exact heap_alloc_new _ _
  have HAT : Hid (∀ V, Below W0.heap.size W0 V → Below w.heap.size w V ∧ V.heap[w.heap.size]? = some (.cells #[.slice ca n cc, .slice wa m wc, .int .i64 lk, .int .i64 rg] 25)) := fun V hb => ⟨hb0.trans (hb.mono hb0.size), (hb.block _ (box_lt hp0)).trans hp0⟩
  have HW0 := Hid.out (p := Hid _) hW0
  have HTAB := Hid.out (p := Hid _) htab
  have HP := Hid.out (p := Hid _) hp
  clear hW0 hb0 hp0 htab hp
  go_enter Tryz.func3, Tryz.ntmps3
  go_wp2_with fail
  rw [HW0.out]
  refine Calls.mono (buffers_any W0 _ rfl) ?_
  rintro e w1 ⟨rfl, hI1⟩
  have HI1 := Hid.out (p := Hid _) hI1
  have hb1 : Below W0.heap.size W0 w1 := hI1.below
  have HB1 := Hid.out (p := Hid _) hb1
  have hlit := few_buf _ _ _ hI1 (TabB.up HTAB.out (HAT.out w1 hb1).1)
  have HLIT := Hid.out (p := Hid _) hlit
  clear hI1 hb1 hlit
  go_wp2_with fail
  refine Calls.mono HLIT.out ?_
  rintro e w2 ⟨b2, o2, c2, rfl, ⟨x0, x1, x2, x3⟩, hb2⟩
  have hlt3 : W0.heap.size ≤ w2.heap.size := Nat.le_trans HB1.out.size hb2.size
  have HB2 : Hid (∀ o, Below W0.heap.size W0 (w2.alloc o)) := fun o => by
    have h := HB1.out.trans (hb2.mono HB1.out.size)
    exact h.alloc h.size o
  have y0 := fun o => cell_up x0 o
  have y1 := fun o => cell_up x1 o
  have y2 := fun o => cell_up x2 o
  have y3 := fun o => cell_up x3 o
  have hpa := fun o => (HAT.out _ (HB2.out o)).2
  have p0 := fun o => box_cell (i := 0) (hpa o) rfl
  have p1 := fun o => box_cell (i := 1) (hpa o) rfl
  have p2 := fun o => box_cell (i := 2) (hpa o) rfl
  have p3 := fun o => box_cell (i := 3) (hpa o) rfl
  clear hb2 x0 x1 x2 x3 HLIT HI1
  go_wp2_with fail
  refine Calls.mono (HV.out _ (HAT.out _ (HB2.out _)).1) ?_
  rintro e w3 ⟨b, rfl, hb3⟩
  have hf3 : w3.heap[w2.heap.size]? = some (.cells #[.int .i64 0, .int .i64 0, .int .i64 0] 29) := (hb3.block _ (by simp)).trans (heap_alloc_new _ _)
  have HB3 : Hid (Below W0.heap.size W0 w3) := by
    have h := HB2.out (.cells #[.int .i64 0, .int .i64 0, .int .i64 0] 29)
    exact h.trans (hb3.mono h.size)
  obtain ⟨hw3, hp3⟩ := HAT.out w3 HB3.out
  have HW3 := Hid.out (p := Hid _) hw3
  clear p0 p1 p2 p3 y0 y1 y2 y3 hpa hb3 HV hw3
  have p0 := box_cell (i := 0) hp3 rfl
  have p1 := box_cell (i := 1) hp3 rfl
  have p2 := box_cell (i := 2) hp3 rfl
  have p3 := box_cell (i := 3) hp3 rfl
  cases b with
  | true =>
    go_wp2
    go_ret
    exact ⟨rfl, HW3.out⟩
  | false =>
    go_wp2_with fail
    refine Calls.mono (HF.out _ HW3.out) ?_
    rintro e w4 ⟨a4, c4, P, fx, fy, fz, rfl, H4⟩
    have hf4 : w4.heap[w2.heap.size]? = some (.cells #[.int .i64 0, .int .i64 0, .int .i64 0] 29) := (H4.out.2.2.1.block _ (box_lt hf3)).trans hf3
    have g0 := box_cell (i := 0) hf4 rfl
    have g1 := box_cell (i := 1) hf4 rfl
    have g2 := box_cell (i := 2) hf4 rfl
    have gf : ∀ i, w4.frozen? ⟨w2.heap.size, i, none⟩ = false := fun i => box_free hf4
    obtain ⟨V, hV⟩ : ∃ V, ((w4.setCell ⟨w2.heap.size, 0, none⟩ (.int .i64 fx)).setCell ⟨w2.heap.size, 1, none⟩ (.int .i64 fy)).setCell ⟨w2.heap.size, 2, none⟩ (.int .i64 fz) = V := ⟨_, rfl⟩
    have hfV : V.heap[w2.heap.size]? = some (.cells #[.int .i64 fx, .int .i64 fy, .int .i64 fz] 29) := by
      rw [← hV]
      exact heap_set_same (heap_set_same (heap_set_same hf4))
    have hkV : ∀ k, k ≠ w2.heap.size → V.heap[k]? = w4.heap[k]? := fun k hk => by
      rw [← hV, Below.heap_setCell _ _ _ _ hk, Below.heap_setCell _ _ _ _ hk, Below.heap_setCell _ _ _ _ hk]
    have HBV : Hid (Below W0.heap.size W0 V) := by
      have h := HB3.out.trans (H4.out.2.2.1.mono HB3.out.size)
      rw [← hV]
      exact ((h.setCell hlt3 _).setCell hlt3 _).setCell hlt3 _
    have HV := Hid.out (p := Hid _) hV
    obtain ⟨pl, hpl⟩ : ∃ k, P.length = k := ⟨_, rfl⟩
    have HPL : Hid (P.length = pl) := hpl
    have q0 := box_cell (i := 0) hfV rfl
    rw [hpl]
    have hlt4 : w2.heap.size < w3.heap.size := box_lt hf3
    have HPV : Hid (PlIn V a4 P) := fun k hk => by
      obtain ⟨b, o, e, k1, k2⟩ := H4.out.1 k hk
      have hb := H4.out.2.2.2.1 b o e (by omega)
      have hbk := hkV b (by omega)
      exact ⟨b, o, e, (World.cell?_of_block hbk).trans k1, (World.cell?_of_block hbk).trans k2⟩
    clear p0 p1 p2 p3 hf3 hp3 HB3 hf4 hV hpl hkV hfV
    by_cases hfx : fx = 0
    · subst hfx
      obtain ⟨hpl1, hpl2, hrob⟩ := H4.out.2.2.2.2.2 rfl
      have HK := Hid.out (p := Hid _) (And.intro hpl1 (And.intro hpl2 hrob))
      have hl6 : pl ≤ 6 := by rw [← HPL.out]; exact H4.out.2.1
      clear hpl1 hpl2 hrob H4
      go_wp2
      rw [HV.out]
      clear g0 g1 g2 gf
      go_loopw [5] (fun i wr => ∃ k : Nat, k ≤ pl ∧ i = .int .i64 k ∧ Hid (Below V.heap.size V wr)) (fun i _ => pl - (intOf i).toNat)
      case atStart => exact ⟨0, Nat.zero_le _, rfl, Below.refl _ _⟩
      case round =>
        obtain ⟨k, hk, rfl, HR⟩ := hrel
        have hbw : Below W0.heap.size W0 wr := HBV.out.trans (HR.out.mono HBV.out.size)
        obtain ⟨hww, hpw⟩ := HAT.out wr hbw
        have p0 := box_cell (i := 0) hpw rfl
        have p1 := box_cell (i := 1) hpw rfl
        have p2 := box_cell (i := 2) hpw rfl
        have p3 := box_cell (i := 3) hpw rfl
        have HWW := Hid.out (p := Hid _) hww
        have HPR := Hid.out (p := Hid _) (HPV.out.below HR.out)
        clear hbw hww hpw
        by_cases hlt : k < pl
        · obtain ⟨pk, hpk⟩ : ∃ x, P.getD k (0, 0) = x := ⟨_, rfl⟩
          have hkP : k < P.length := by rw [HPL.out]; exact hlt
          have hmem : pk ∈ P := by
            rw [← hpk, List.getD_eq_getElem?_getD, List.getElem?_eq_getElem hkP]
            exact List.getElem_mem _
          have HPK : Hid (P.getD k (0, 0) = pk) := hpk
          obtain ⟨hpt, hpi, hwt⟩ := HK.out.1 pk hmem
          obtain ⟨b4, o4, e4, u0, u1⟩ := HPR.out k hkP
          subst e4
          rw [hpk] at u0 u1
          obtain ⟨pt, pi⟩ := pk
          simp only at hpt hpi hwt u0 u1
          obtain ⟨cb, co, eca, hcell⟩ := (HP.out.below HWW.out).code pt hpt
          obtain ⟨ab, ao, eab, c0, _⟩ := (HP.out.below HWW.out).ord pt pi hpt hpi
          subst eca
          rw [eab] at hcell
          obtain ⟨lt, hlt'⟩ : ∃ x, L pt = x := ⟨_, rfl⟩
          rw [hlt'] at hcell hpi
          have hll := (HP.out.len pt hpt)
          rw [hlt'] at hll
          have hnn := HP.out.num
          obtain ⟨op, hop⟩ : ∃ x, X pt pi 0 = x := ⟨_, rfl⟩
          rw [hop] at c0 hwt
          have hops : op = 9 ∨ op = 11 ∨ op = 18 := by
            unfold wtO at hwt
            simp only [Bool.or_eq_true, decide_eq_true_eq] at hwt
            omega
          have d1 : ¬ ((pt : Int) < 0) := by omega
          have d2 : ¬ ((n : Int) ≤ (pt : Int)) := by omega
          have d3 : ¬ ((pi : Int) < 0) := by omega
          have d4 : ¬ ((lt : Int) ≤ (pi : Int)) := by omega
          have d5 : ¬ (n ≤ pt) := by omega
          have d6 : ¬ (lt ≤ pi) := by omega
          clear hpk hmem hwt hlt' hop eab hkP
          go_wp2
          go_quiet (fail)
          go_wp2
          go_quiet (fail)
          by_cases hk0 : k = 0
          · have hk1 : ¬ ((k : Int) > 0) := by omega
            have hk2 : ¬ (0 < k) := by omega
            clear hk0
            rcases hops with rfl | rfl | rfl
            all_goals go_wp2
            all_goals go_quiet (fail)
            all_goals go_wp2
            all_goals go_roundw
            all_goals first | exact ⟨k + 1, by omega, by go_num, below_drewN HR.out⟩ | (simp [intOf]; omega)
          · have hk1 : (k : Int) > 0 := by omega
            have hk2 : 0 < k := by omega
            obtain ⟨k', hk'⟩ : ∃ k', k = k' + 1 := ⟨k - 1, by omega⟩
            have hsub : (k : Int) - 1 = ((k' : Nat) : Int) := by omega
            have hkl : k' < pl := by omega
            obtain ⟨qk, hqk⟩ : ∃ x, P.getD k' (0, 0) = x := ⟨_, rfl⟩
            have hrise : RiseP qk (pt, pi) := by
              have hl1 : k' < P.length := by rw [HPL.out]; exact hkl
              have hl2 : k < P.length := by rw [HPL.out]; exact hlt
              have h := List.pairwise_iff_getElem.1 HK.out.2.1 k' k hl1 hl2 (by omega)
              have e1 : P[k'] = qk := by rw [← hqk, List.getD_eq_getElem?_getD, List.getElem?_eq_getElem hl1]; rfl
              have e2 : P[k] = (pt, pi) := by rw [← HPK.out, List.getD_eq_getElem?_getD, List.getElem?_eq_getElem hl2]; rfl
              rw [e1, e2] at h
              exact h
            obtain ⟨b5, o5, e5, v0, v1⟩ := HPR.out k' (by rw [HPL.out]; exact hkl)
            simp only [Option.some.injEq, Addr.mk.injEq, and_true] at e5
            obtain ⟨rfl, rfl⟩ := e5
            rw [hqk] at v0 v1
            obtain ⟨qt, qi⟩ := qk
            unfold RiseP at hrise
            simp only at hrise v0 v1
            clear hqk hk' hk0
            rcases hrise with hr1 | ⟨hr1, hr2⟩
            · have e1 : ¬ ((qt : Int) > (pt : Int)) := by omega
              have e2 : ((qt : Int) == (pt : Int)) = false := beq_false_of_ne (by omega)
              have e3 : ¬ (pt < qt) := by omega
              have e4 : ¬ (qt = pt) := by omega
              clear hr1
              rcases hops with rfl | rfl | rfl
              all_goals go_wp2
              all_goals go_quiet (fail)
              all_goals go_wp2
              all_goals go_roundw
              all_goals first | exact ⟨k + 1, by omega, by go_num, below_drewN HR.out⟩ | (simp [intOf]; omega)
            · subst hr1
              have e1 : ¬ ((pi : Int) ≤ (qi : Int)) := by omega
              have e2 : ¬ (pi ≤ qi) := by omega
              clear hr2
              rcases hops with rfl | rfl | rfl
              all_goals go_wp2
              all_goals go_quiet (fail)
              all_goals go_wp2
              all_goals go_roundw
              all_goals first | exact ⟨k + 1, by omega, by go_num, below_drewN HR.out⟩ | (simp [intOf]; omega)
        · have hkp : k = pl := by omega
          subst hkp
          have hrob := HK.out.2.2 wr HWW.out
          have HRB : Hid (Calls Tryz.prog 8 #[prgV ca n cc wa m wc lk rg] wr fun e w' => e = .returned (.tuple #[.bool (decide (k = 0)), ints3 0 0 0]) ∧ Below wr.heap.size wr w') := by
            have h := hrob
            rw [HPL.out] at h
            exact h
          clear hrob
          go_wp2_with fail
          refine Calls.mono HRB.out ?_
          rintro e w6 ⟨rfl, hb6⟩
          have HW6 : Hid (∀ o, Below w.heap.size w (w6.alloc o)) := fun o => by
            have h := HWW.out.trans (hb6.mono HWW.out.size)
            exact h.alloc h.size o
          clear hb6 p0 p1 p2 p3 HRB
          by_cases hk0 : k = 0
          · subst hk0
            go_wp2
            go_ret
            exact ⟨rfl, HW6.out _⟩
          · have hk1 : decide (k = 0) = false := decide_eq_false hk0
            have hk2 : ((k : Int) == 0) = false := beq_false_of_ne (by omega)
            rw [hk1]
            go_wp2
            go_ret
            exact ⟨rfl, HW6.out _⟩
    · have hfx' : (fx != 0) = true := by simpa using hfx
      have hP : pl = 0 := by rw [← HPL.out, H4.out.2.2.2.2.1 hfx]; rfl
      subst hP
      have HWV := Hid.out (p := Hid _) (HAT.out V HBV.out).1
      clear hfx
      go_wp2
      go_ret
      refine ⟨rfl, ?_⟩
      first | exact HWV.out | (rw [HV.out]; exact HWV.out)
end

section
open Go.RowKit

theorem PIn.norm {w : World} {ca : Option Addr} {n : Nat} {A : Nat → Option Addr} {L C : Nat → Nat} {X : Nat → Nat → Nat → Int} (h : PIn w ca n A L C X) : PIn w ca n A (normL n L) C (normX n L X) := by
  have hl : ∀ t, t < n → normL n L t = L t := fun t ht => if_pos ht
  refine ⟨fun t ht => ?_, fun t i ht hi => ?_, fun t ht => ?_, h.num⟩
  · rw [hl t ht]; exact h.code t ht
  · obtain ⟨_, e0, e1, e2, e3⟩ := norm_at (X := X) ht hi
    rw [e0, e1, e2, e3]
    exact h.ord t i ht (by rw [← hl t ht]; exact hi)
  · rw [hl t ht]; exact h.len t ht
end

section
open Go.RowKit

theorem FewR.bad {T : List Pl → Bool → List Oc → Prop} {sc : List Oc} {Q : List (List Pl)} {P : List Pl} {z : Int} (h : FewR T sc Q P z) : z ≠ 0 → P = [] := by
  induction h with
  | done => exact fun _ => rfl
  | full _ => exact fun _ => rfl
  | hit _ => exact fun h => absurd rfl h
  | next _ _ _ ih => exact ih
theorem FewQ.bad {n : Nat} {L : Nat → Nat} {X : Nat → Nat → Nat → Int} {words : List Int} {lk rg : Nat} {P : List Pl} {z : Int} (h : FewQ n L X words lk rg P z) (hz : z ≠ 0) : P = [] := by
  rcases h with ⟨_, h, _⟩ | ⟨_, ⟨_, _, h, _⟩ | ⟨_, _, h⟩⟩
  · exact h
  · exact h
  · exact h.bad hz
theorem fenceEnough_any (w : World) (ca : Option Addr) (n cc : Nat) (wa : Option Addr) (wc : Nat) (lk rg : Int) (words : List Int) (A : Nat → Option Addr) (L C : Nat → Nat) (X : Nat → Nat → Nat → Int) (hm : words.length ≤ 9223372036854775807) (hp : PIn w ca n A L C X) (hw : SIs w wa words) (hnil : wa = none → words = [] ∧ wc = 0) (hfit : ∀ t i, t < n → i < L t → I64n (X t i 2)) (hwf : ∀ x, x ∈ words → I64n x) (htab : TabB w.heap.size w) :
    Calls Tryz.prog 3 #[prgV ca n cc wa words.length wc lk rg] w fun e w' => e = .returned (.bool true) ∧ Below w.heap.size w w' := by
  have hpn := hp.norm
  have hN := norm_is n L X
  have hfn : ∀ t i, t < n → i < normL n L t → I64n (normX n L X t i 2) := fun t i ht hi => by
    obtain ⟨e, _, _, e2, _⟩ := norm_at (X := X) ht hi
    rw [e2]
    exact hfit t i ht (by rw [← e]; exact hi)
  obtain ⟨L', hL'⟩ : ∃ f, normL n L = f := ⟨_, rfl⟩
  obtain ⟨X', hX'⟩ : ∃ f, normX n L X = f := ⟨_, rfl⟩
  rw [hL', hX'] at hpn hN
  rw [hL', hX'] at hfn
  have HV : Hid (∀ W, Below w.heap.size w W → Calls Tryz.prog 7 #[prgV ca n cc wa words.length wc lk rg] W fun e w' => ∃ b, e = .returned (.bool b) ∧ Below W.heap.size W w') := fun W hb => (kvast_any ca n cc wa words.length wc lk rg A L C X hm W (hp.below hb)).mono fun e w' ⟨⟨b, h1⟩, h2⟩ => ⟨b, h1, h2⟩
  obtain ⟨x, y, z, hR⟩ : ∃ x y z, chk n L' X' words.length lk rg = (x, y, z) := ⟨_, _, _, rfl⟩
  refine enough_walk w ca n cc wa words.length wc lk rg A L' C X' htab hpn HV (fun W hb => ?_)
  by_cases hx : x = 0
  · obtain ⟨rfl, rfl, hn0, lk', rg', rfl, rfl, hc⟩ := chk_cok hR hx
    subst hx
    refine Calls.mono (few_yes W ca n cc wa wc lk' rg' words A L' C X' hR (hpn.below hb) hc hn0 (hw.below hb) hnil hfn hwf (htab.up hb)) ?_
    rintro e w' ⟨a, c, P, z, rfl, hq, hpl, hl, hbw, hfar⟩
    refine ⟨a, c, P, z, 0, 0, rfl, hpl, hl, hbw, hfar, hq.bad, fun hz => ?_⟩
    subst hz
    obtain ⟨h1, h2⟩ := few_places hq
    refine ⟨h1, h2, fun V hV => ?_⟩
    refine Calls.mono (robust_yes V ca n cc wa wc lk' rg' words A L' C X' hR (hpn.below hV) hc hn0 (hw.below hV) hnil hfn hwf (htab.up hV)) ?_
    rintro e w'' ⟨r, z', rfl, hr, hb2⟩
    obtain ⟨rfl, rfl⟩ := few_robust hN hc hq hr
    exact ⟨rfl, hb2⟩
  · refine Calls.mono (few_no W ca n cc wa words.length wc lk rg A L' C X' x y z hR hx (hpn.below hb)) ?_
    rintro e w' ⟨rfl, hbw⟩
    exact ⟨none, 0, [], x, y, z, rfl, plIn_nil _ _, by simp, hbw, fun b o e => (by cases e), fun _ => rfl, fun h => absurd h hx⟩
end

end Go.Proofs.YtelckcpjmekgcadGreatDoor
