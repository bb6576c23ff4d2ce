/-
  How vast a program is.
  Find, and then Robust, by the program.
  A program that is handed in, opened, with the bounds of its numbers; the table of powers.
  What the laws of programs without clashes lean on.
  How vast a program is, by the other statements' text.
  The law of programs without clashes, by the program's own machines.
-/
import Derived.Test.YtgofbkgfonlceacGreatDoorOrder
import Derived.Test.YtgofbkgfonlceacGreatDoorKTold
import Derived.Test.YtgofbkgfonlceacGreatDoorZPut
import Derived.Test.YtgofbkgfonlceacGreatDoorRMay
import Derived.Deep.RegionHeld3
import Derived.Test.YtgofbkgfonlceacGreatDoorOcRob
import Derived.Test.YtgofbkgfonlceacGreatDoorWTell3
import Derived.Shelf.Vars
import Derived.Lib.LaidTab
namespace Go.Proofs.YtgofbkgfonlceacGreatDoor
section
open Go.RowKit

theorem box_below {w w' : World} {c : Array Value} {t : TypeId} {i : Nat} {v : Value} (hb : Below (w.alloc (.cells c t)).heap.size (w.alloc (.cells c t)) w') (h : c[i]? = some v) : w'.cell? ⟨w.heap.size, i, none⟩ = some v := by
  rw [hb.cell (p := ⟨w.heap.size, i, none⟩) (by simp), World.cell?_alloc_new, h]
end

section
open Go.RowKit Go.Sort Go.Shelf

theorem told_cnt {nx : Sx → List Sx} {outs : Sx → List Oc} {s0 : Sx} {mx : Nat} {full : Bool} {l : List Oc} (h : Told nx outs s0 mx full l) : Told nx (fun _ => []) s0 mx full [] := by
  rcases h with ⟨h1, h2⟩ | ⟨h1, _, _, h4⟩
  · exact Or.inl ⟨h1, h2⟩
  · exact Or.inr ⟨h1, List.Pairwise.nil, fun o => ⟨fun h => (by cases h), fun ⟨_, _, h⟩ => (by cases h)⟩, h4⟩
/-- What Robust tells of a program of which Find told k clashes and a fault x. -/
def TopQ (w : World) (p : Value) (k : Nat) (x : Int) : Prop :=
  ∀ V, Below w.heap.size w V → Calls Tryz.prog 11 #[p] V fun e w' => ∃ (r : Bool) (x2 y2 z2 : Int), e = .returned (.tuple #[.bool r, ints3 x2 y2 z2]) ∧ Hid ((x = 0 → x2 = 0 → k = 0 → r = true) ∧ (¬ (x = 0 ∧ x2 = 0) → r = false) ∧ Below V.heap.size V w')
theorem find_top (w : World) (ca : Option Addr) (n cc : Nat) (wa : Option Addr) (wc : Nat) (lk rg : Int) (words : List Int) (A : Nat → Option Addr) (L C : Nat → Nat) (X : Nat → Nat → Nat → Int) (hp : PIn w ca n A L C X) (hw : SIs w wa words) (hnil : wa = none → words = [] ∧ wc = 0) (hfit : ∀ t i, t < n → i < L t → I64n (X t i 2)) (hwf : ∀ x, x ∈ words → I64n x) (htab : TabB w.heap.size w) (W : World) (hb : Below w.heap.size w W) :
    Calls Tryz.prog 7 #[prgV ca n cc wa words.length wc lk rg] W fun e w' => ∃ (a : Option Addr) (k cap : Nat) (x y z : Int), e = .returned (.tuple #[.slice a k cap, ints3 x y z]) ∧ Hid (TopQ w (prgV ca n cc wa words.length wc lk rg) k x ∧ Below W.heap.size W w') := by
  obtain ⟨x, y, z, hR⟩ : ∃ x y z, chk n L X words.length lk rg = (x, y, z) := ⟨_, _, _, rfl⟩
  by_cases hx : x = 0
  · obtain ⟨rfl, rfl, hn0, lk', rg', rfl, rfl, hc⟩ := chk_cok hR hx
    subst hx
    refine Calls.mono (find_yes W ca n cc wa wc lk' rg' words A L C X hR (hp.below hb) hc hn0 (hw.below hb) hnil hfit hwf (htab.up hb)) ?_
    rintro e w' ⟨full, a, cap, l, h1, h2, h3, h4, h5, h6⟩
    refine ⟨a, l.length, cap, _, 0, 0, h1, fun V hV => ?_, h6⟩
    refine Calls.mono (robust_yes V ca n cc wa wc lk' rg' words A L C X hR (hp.below hV) hc hn0 (hw.below hV) hnil hfit hwf (htab.up hV)) ?_
    rintro e2 w2 ⟨r, z, he, hq, hb2⟩
    refine ⟨r, z, 0, 0, he, ?_, ?_, hb2⟩
    · intro e1 e2 e3
      rcases hq with ⟨l1, _, _, rfl⟩ | ⟨l1, f2, l2, g1, g2, ⟨_, _, rfl⟩ | ⟨rfl, rfl, _⟩⟩
      · cases e2
      · cases e2
      · cases full with
        | true => simp at e1
        | false =>
          have hl := h5 rfl
          rw [List.eq_nil_of_length_eq_zero e3] at hl
          exact decide_eq_true (free_same hc hl g1 g2)
    · intro hne
      rcases hq with ⟨l1, _, rfl, _⟩ | ⟨l1, f2, l2, g1, g2, ⟨_, rfl, _⟩ | ⟨rfl, rfl, rfl⟩⟩
      · rfl
      · rfl
      · obtain ⟨hf, _⟩ := told_same h2 (told_cnt g1)
        rw [hf] at hne
        exact absurd ⟨rfl, rfl⟩ hne
  · refine Calls.mono (find_no W ca n cc wa words.length wc lk rg A L C X x y z hR (by simpa using hx) (hp.below hb)) ?_
    rintro e w' ⟨rfl, hb'⟩
    refine ⟨none, 0, 0, x, y, z, rfl, fun V hV => ?_, hb'⟩
    refine Calls.mono (robust_no V ca n cc wa words.length wc lk rg A L C X x y z hR (by simpa using hx) (hp.below hV)) ?_
    rintro e2 w2 ⟨he, hb2⟩
    exact ⟨false, x, y, z, he, fun h => absurd h hx, fun _ => rfl, hb2⟩
end

section
open Go.ChangeShapes Go.WideShapes Go.ChangeAt Go.RowKit Go.Joins Go.Deep

theorem i64n_of {v : Int} (h : (Lit.int .i64 v).wf = true) : I64n v := by
  have e : IntKind.i64.min = -9223372036854775808 := rfl
  simpa [Lit.wf, I64n, e] using h
set_option maxRecDepth 100000 in
theorem open_prog3 {H : Type} {enc : TypeId × Value → H} {W : World} {b0 : Nat} {v : Value} {d : DataW H} {p : List MemPlace} (hv : Value.okWide Tryz.prog W .any b0 25 v) (h : DataW.Trod enc Tryz.prog W 0 (fun _ => true) true 25 v d p) :
    ∃ (ca : Option Addr) (n cc : Nat) (wa : Option Addr) (words : List Int) (wc : Nat) (lk rg : Int) (A : Nat → Option Addr) (L C : Nat → Nat) (X : Nat → Nat → Nat → Int), v = prgV ca n cc wa words.length wc lk rg ∧ words.length ≤ 9223372036854775807 ∧ PIn W ca n A L C X ∧ SIs W wa words ∧ (wa = none → words = [] ∧ wc = 0) ∧ (∀ t i, t < n → i < L t → I64n (X t i 2)) ∧ ∀ x, x ∈ words → I64n x := by
  obtain ⟨c0, c1, c2, c3, y0, y1, y2, y3, m, rfl, _, _, h0, h1, h2, h3⟩ := open_agg4 Tryz.underlying25 (by kernel_rfl) cells25 hv h
  obtain ⟨ca, n, cc, A, L, C, X, rfl, hp, hwf⟩ := read_code h0
  obtain ⟨lk, e2, _, _⟩ := DataW.trod_int Tryz.underlying3 h2
  obtain ⟨rg, e3, _, _⟩ := DataW.trod_int Tryz.underlying3 h3
  simp at e2 e3
  subst e2 e3
  have hx2 : ∀ t i, t < n → i < L t → I64n (X t i 2) := fun t i ht hi => i64n_of (hwf t i 2 ht hi (by omega))
  rcases open_slice1 Tryz.underlying23 cells3 h1 with ⟨hcs, _⟩ | ⟨a, len, cap, _, _, V, _, _, hcs, _, hl, hm, hmm, _, hx⟩
  · simp at hcs
    subst hcs
    exact ⟨ca, n, cc, none, [], 0, lk, rg, A, L, C, X, rfl, by simp, hp, fun i hi => absurd hi (Nat.not_lt_zero _), fun _ => ⟨rfl, rfl⟩, hx2, fun v hv => by cases hv⟩
  · simp at hcs hmm
    subst hcs
    obtain ⟨Y, hY⟩ := choose_lt (α := Int) (p := fun i (y : Int) => W.cell? (a.add i) = some (.int .i64 y) ∧ I64n y) (n := len) (fun i hi => by
      obtain ⟨x1, x2⟩ := hx i (by omega)
      obtain ⟨y, e, _, wf⟩ := DataW.trod_int Tryz.underlying3 x2
      simp at e
      exact ⟨y, by rw [x1, e], i64n_of wf⟩)
    have hlen : ((List.range len).map Y).length = len := by simp
    refine ⟨ca, n, cc, some a, (List.range len).map Y, cap, lk, rg, A, L, C, X, by rw [hlen], by rw [hlen]; unfold maxLen at hm; omega, hp, fun i hi => ?_, fun e => (by cases e), hx2, fun v hv => ?_⟩
    · rw [hlen] at hi
      obtain ⟨b, o, sp⟩ := a
      have hsp : sp = none := by simpa [Addr.add] using World.cell?_spot (hY 0 (by omega)).1
      subst hsp
      refine ⟨b, o, rfl, ?_⟩
      rw [← Go.WideShapes.add_plain, (hY i hi).1]
      simp [List.getD, hi]
    · simp only [List.mem_map, List.mem_range] at hv
      obtain ⟨i, hi, rfl⟩ := hv
      exact (hY i hi).2
end

section
theorem free_rootT : True := by
  have _h2 := @find_lit
  have _h5 := @open_prog3
  have _k0 := @box_cell
  have _k1 := @box_free
  have _k2 := @box_later
  have _k3 := @box_lt
  have _k4 := @cell_up
  have _k5 := @cell_drw
  have _k6 := @lt_of_cell
  have _k8 := @PIn.below
  have _k9 := @SIs.below
  have _k10 := @TabB.up
  have _k11 := @told_same
  have _k12 := @free_same
  have _k13 := @chk_cok
  have _k14 := @intsV_at
  have _k15 := @box_below
  have _g1 := @lit_lay
  have _g2 := @find_litAt
  have _g3 := @find_top
  trivial
end

section
open Go.RowKit

/-- It answers yes or no. -/
def IsBoolT (e : Ending) : Prop := ∃ b, e = .returned (.bool b)

set_option maxHeartbeats 1000000 in
theorem vastT_any (ca : Option Addr) (n cc : Nat) (wa : Option Addr) (m wc : Nat) (lk rg : Int) (A : Nat → Option Addr) (L C : Nat → Nat) (X : Nat → Nat → Nat → Int) (_hm : m ≤ 9223372036854775807) (w : World) (hp : PIn w ca n A L C X) :
    Calls Tryz.prog 10 #[prgV ca n cc wa m wc lk rg] w fun e w' => IsBoolT e ∧ Below w.heap.size w w' := by
  have hn := hp.num
  have HB : Below w.heap.size w (w.alloc (.cells #[.slice ca n cc, .slice wa m wc, .int .i64 lk, .int .i64 rg] 25)) := (Below.refl _ _).alloc (Nat.le_refl _) _
  have hp2 := hp.below HB
  clear hp
  go_enter Tryz.func10, Tryz.ntmps10
  go_wp2
  go_loop [3, 4] (fun s i => ∃ (q : Int) (k : Nat), k ≤ n ∧ s = .int .i64 q ∧ i = .int .i64 k) (fun _ i => n - (intOf i).toNat)
  case atStart => exact ⟨_, 0, Nat.zero_le _, rfl, rfl⟩
  case round =>
    obtain ⟨q, k, hk, rfl, rfl⟩ := hrel
    by_cases hlt : k < n
    · obtain ⟨cb, co, rfl, hcell⟩ := hp2.code k hlt
      have hl := hp2.len k hlt
      by_cases h100 : (k : Int) < 100
      · go_wp2
        go_round
        case rel => exact ⟨_, k + 1, by omega, rfl, by go_num⟩
        case measure => simp [intOf]; omega
      · go_wp2
        all_goals go_ret
        all_goals exact ⟨⟨_, rfl⟩, HB⟩
    · go_wp2
      all_goals go_ret
      all_goals exact ⟨⟨_, rfl⟩, HB⟩
end

section
open Go.RowKit

set_option maxRecDepth 100000 in
set_option maxHeartbeats 6400000 in
theorem topFree_walk (w : World) (ca : Option Addr) (n cc : Nat) (wa : Option Addr) (m wc : Nat) (lk rg : Int)
    (HV : Hid (∀ W, Below w.heap.size w W → Calls Tryz.prog 10 #[.agg #[.slice ca n cc, .slice wa m wc, .int .i64 lk, .int .i64 rg]] W fun e w' => ∃ b, e = .returned (.bool b) ∧ Below W.heap.size W w'))
    (HLIT : Hid (∀ V, Below w.heap.size w V → Calls Tryz.prog 7 #[.agg #[.slice (some ⟨V.heap.size + 1 + 1, 0, none⟩) 2 2, .slice (some ⟨V.heap.size + 1 + 1 + 1, 0, none⟩) 1 1, .int .i64 0, .int .i64 1]] ((((V.alloc (.cells #[.int .i64 9, .int .i64 0, .int .i64 0, .int .i64 0] 34)).alloc (.cells #[.int .i64 8, .int .i64 0, .int .i64 0, .int .i64 0] 34)).alloc (.cells #[.slice (some ⟨V.heap.size, 0, none⟩) 1 1, .slice (some ⟨V.heap.size + 1, 0, none⟩) 1 1] 35)).alloc (.cells #[.int .i64 0] 3)) fun e w' => ∃ a cap, e = .returned (.tuple #[.slice a 1 cap, ints3 0 0 0]) ∧ Below V.heap.size V w'))
    (HFP : Hid (∀ W, Below w.heap.size w W → Calls Tryz.prog 7 #[.agg #[.slice ca n cc, .slice wa m wc, .int .i64 lk, .int .i64 rg]] W fun e w' => ∃ (a : Option Addr) (k cap : Nat) (x y z : Int), e = .returned (.tuple #[.slice a k cap, ints3 x y z]) ∧ Hid (TopQ w (.agg #[.slice ca n cc, .slice wa m wc, .int .i64 lk, .int .i64 rg]) k x ∧ Below W.heap.size W w'))) :
    Calls Tryz.prog 4 #[prgV ca n cc wa m wc lk rg] w fun e w' => e = .returned (.bool true) ∧ Below w.heap.size w w' := by
  obtain ⟨PB, hPB⟩ : ∃ o : Obj, o = .cells #[.slice ca n cc, .slice wa m wc, .int .i64 lk, .int .i64 rg] 25 := ⟨_, rfl⟩
  have hb0 : Below w.heap.size w (w.alloc PB) := (Below.refl _ _).alloc (Nat.le_refl _) _
  have hp0 : (w.alloc PB).heap[w.heap.size]? = some PB := heap_alloc_new _ _
  have HAT : Hid (∀ V, Below (w.alloc PB).heap.size (w.alloc PB) V → Below w.heap.size w V ∧ V.cell? ⟨w.heap.size, 0, none⟩ = some (.slice ca n cc) ∧ V.cell? ⟨w.heap.size, 1, none⟩ = some (.slice wa m wc) ∧ V.cell? ⟨w.heap.size, 2, none⟩ = some (.int .i64 lk) ∧ V.cell? ⟨w.heap.size, 3, none⟩ = some (.int .i64 rg)) := fun V hb => by
    have e1 := (hb.block w.heap.size (by simp)).trans hp0
    rw [hPB] at e1
    exact ⟨hb0.trans (hb.mono hb0.size), box_cell e1 rfl, box_cell e1 rfl, box_cell e1 rfl, box_cell e1 rfl⟩
  obtain ⟨W0, hW0⟩ : ∃ V, w.alloc PB = V := ⟨_, rfl⟩
  have HW0 : Hid (w.alloc (.cells #[.slice ca n cc, .slice wa m wc, .int .i64 lk, .int .i64 rg] 25) = W0) := by rw [← hW0, hPB]; exact rfl
  have hz0 : W0.heap.size = w.heap.size + 1 := by rw [← hW0]; simp
  have HB0 : Hid (Below w.heap.size w W0) := by rw [← hW0]; exact hb0
  rw [hW0] at HAT
  have HL0 := HLIT.out W0 HB0.out
  rw [hz0] at HL0
  have HL := Hid.out (p := Hid _) HL0
  clear hPB hb0 hp0 hW0 HL0 HLIT
  go_enter Tryz.func4, Tryz.ntmps4
  go_wp2_with fail
  rw [HW0.out]
  refine Calls.mono HL.out ?_
  rintro e w2 ⟨a1, c1, rfl, hb2⟩
  have hb02 : Below W0.heap.size W0 w2 := by rw [hz0]; exact hb2
  obtain ⟨hw2, p0, p1, p2, p3⟩ := HAT.out w2 hb02
  have H2 : Hid (Below W0.heap.size W0 w2 ∧ Below w.heap.size w w2) := ⟨hb02, hw2⟩
  have q0 := cell_up p0
  have q1 := cell_up p1
  have q2 := cell_up p2
  have q3 := cell_up p3
  clear hb02 hw2 hb2 HL HW0
  go_wp2_with fail
  have hbf : Below w.heap.size w (w2.alloc (.cells #[.int .i64 0, .int .i64 0, .int .i64 0] 30)) := H2.out.2.alloc H2.out.2.size _
  have hbf0 : Below W0.heap.size W0 (w2.alloc (.cells #[.int .i64 0, .int .i64 0, .int .i64 0] 30)) := H2.out.1.alloc H2.out.1.size _
  have hV := HV.out _ hbf
  refine Calls.mono hV ?_
  rintro e w3 ⟨b, rfl, hb3⟩
  have hF3 : w3.heap[w2.heap.size]? = some (.cells #[.int .i64 0, .int .i64 0, .int .i64 0] 30) := (hb3.block _ (by simp)).trans (heap_alloc_new _ _)
  have hz2 : w.heap.size < w2.heap.size := by have h := H2.out.1.size; omega
  have hb03 : Below W0.heap.size W0 w3 := hbf0.trans (hb3.mono hbf0.size)
  clear p0 p1 p2 p3 q0 q1 q2 q3
  obtain ⟨hw3, p0, p1, p2, p3⟩ := HAT.out w3 hb03
  have H3 : Hid (Below W0.heap.size W0 w3 ∧ Below w.heap.size w w3 ∧ w3.heap[w2.heap.size]? = some (.cells #[.int .i64 0, .int .i64 0, .int .i64 0] 30)) := ⟨hb03, hw3, hF3⟩
  clear hV hbf hbf0 hb3 hF3 hb03 hw3 HV
  cases b with
  | true =>
    go_wp2_with fail
    go_ret
    exact ⟨rfl, H3.out.2.1⟩
  | false =>
    go_wp2_with fail
    have h4 := HFP.out _ H3.out.2.1
    refine Calls.mono h4 ?_
    rintro e w4 ⟨a2, k, c2, x, y, z, rfl, HF⟩
    have hF : w4.heap[w2.heap.size]? = some (.cells #[.int .i64 0, .int .i64 0, .int .i64 0] 30) := (HF.out.2.block _ (box_lt H3.out.2.2)).trans H3.out.2.2
    have f0 : w4.cell? ⟨w2.heap.size, 0, none⟩ = some (.int .i64 0) := box_cell hF rfl
    have f1 : w4.cell? ⟨w2.heap.size, 1, none⟩ = some (.int .i64 0) := box_cell hF rfl
    have f2 : w4.cell? ⟨w2.heap.size, 2, none⟩ = some (.int .i64 0) := box_cell hF rfl
    have ff : ∀ i, w4.frozen? ⟨w2.heap.size, i, none⟩ = false := fun i => box_free hF
    have hb04 : Below W0.heap.size W0 w4 := H3.out.1.trans (HF.out.2.mono H3.out.1.size)
    clear p0 p1 p2 p3
    obtain ⟨hw4, p0, p1, p2, p3⟩ := HAT.out w4 hb04
    have hn : w.heap.size ≠ w2.heap.size := by omega
    have H4 : Hid (∀ x y z, Below w.heap.size w (((w4.setCell ⟨w2.heap.size, 0, none⟩ x).setCell ⟨w2.heap.size, 1, none⟩ y).setCell ⟨w2.heap.size, 2, none⟩ z)) := fun x y z => ((hw4.setCell (Nat.le_of_lt hz2) _).setCell (Nat.le_of_lt hz2) _).setCell (Nat.le_of_lt hz2) _
    have H4f : Hid (∀ x y z, (((w4.setCell ⟨w2.heap.size, 0, none⟩ x).setCell ⟨w2.heap.size, 1, none⟩ y).setCell ⟨w2.heap.size, 2, none⟩ z).cell? ⟨w2.heap.size, 0, none⟩ = some x) := fun x y z => by simp [go_sem, cell_set, f0]
    have HTQ := Hid.out (p := Hid _) HF.out.1
    clear h4 hF hb04 hw4 HF H3 HFP
    go_wp2_with fail
    refine Calls.mono (HTQ.out _ (H4.out _ _ _)) ?_
    rintro e w5 ⟨r, x2, y2, z2, rfl, HR⟩
    have g0 : w5.cell? ⟨w2.heap.size, 0, none⟩ = some (.int .i64 x) := (HR.out.2.2.cell (lt_of_cell (H4f.out _ _ _))).trans (H4f.out _ _ _)
    have H5 : Hid (Below w.heap.size w w5 ∧ (x = 0 → x2 = 0 → k = 0 → r = true) ∧ (¬ (x = 0 ∧ x2 = 0) → r = false)) := ⟨(H4.out _ _ _).trans (HR.out.2.2.mono (H4.out _ _ _).size), HR.out.1, HR.out.2.1⟩
    have hz5 : w2.heap.size < w5.heap.size := lt_of_cell g0
    clear HR HTQ H4 H4f f0 f1 f2 ff p0 p1 p2 p3
    by_cases hx : x = 0
    · subst hx
      by_cases hx2 : x2 = 0
      · subst hx2
        by_cases hk : k = 0
        · obtain rfl : r = true := H5.out.2.1 rfl rfl hk
          subst hk
          go_wp2_with fail
          go_ret
          exact ⟨rfl, H5.out.1.alloc H5.out.1.size _⟩
        · have hk' : (0 : Int) < (k : Int) := by omega
          go_wp2_with fail
          go_ret
          exact ⟨rfl, H5.out.1.alloc H5.out.1.size _⟩
      · obtain rfl : r = false := H5.out.2.2 (fun h => hx2 h.2)
        have hx' : (x2 != 0) = true := by simpa using hx2
        go_wp2
        go_ret
        exact ⟨rfl, H5.out.1.alloc H5.out.1.size _⟩
    · obtain rfl : r = false := H5.out.2.2 (fun h => hx h.1)
      have hx' : (x != 0) = true := by simpa using hx
      go_wp2
      go_ret
      exact ⟨rfl, H5.out.1.alloc H5.out.1.size _⟩

theorem topFree_any (w : World) (ca : Option Addr) (n cc : Nat) (wa : Option Addr) (wc : Nat) (lk rg : Int) (words : List Int) (A : Nat → Option Addr) (L C : Nat → Nat) (X : Nat → Nat → Nat → Int) (hm : words.length ≤ 9223372036854775807) (hp : PIn w ca n A L C X) (hw : SIs w wa words) (hnil : wa = none → words = [] ∧ wc = 0) (hfit : ∀ t i, t < n → i < L t → I64n (X t i 2)) (hwf : ∀ x, x ∈ words → I64n x) (htab : TabB w.heap.size w) :
    Calls Tryz.prog 4 #[prgV ca n cc wa words.length wc lk rg] w fun e w' => e = .returned (.bool true) ∧ Below w.heap.size w w' := by
  have HV : Hid (∀ W, Below w.heap.size w W → Calls Tryz.prog 10 #[prgV ca n cc wa words.length wc lk rg] W fun e w' => ∃ b, e = .returned (.bool b) ∧ Below W.heap.size W w') := fun W hb => (vastT_any ca n cc wa words.length wc lk rg A L C X hm W (hp.below hb)).mono fun e w' ⟨⟨b, h1⟩, h2⟩ => ⟨b, h1, h2⟩
  have HLIT : Hid (∀ V, Below w.heap.size w V → Calls Tryz.prog 7 #[.agg #[.slice (some ⟨V.heap.size + 1 + 1, 0, none⟩) 2 2, .slice (some ⟨V.heap.size + 1 + 1 + 1, 0, none⟩) 1 1, .int .i64 0, .int .i64 1]] ((((V.alloc (.cells #[.int .i64 9, .int .i64 0, .int .i64 0, .int .i64 0] 34)).alloc (.cells #[.int .i64 8, .int .i64 0, .int .i64 0, .int .i64 0] 34)).alloc (.cells #[.slice (some ⟨V.heap.size, 0, none⟩) 1 1, .slice (some ⟨V.heap.size + 1, 0, none⟩) 1 1] 35)).alloc (.cells #[.int .i64 0] 3)) fun e w' => ∃ a cap, e = .returned (.tuple #[.slice a 1 cap, ints3 0 0 0]) ∧ Below V.heap.size V w') := fun V hb => by
    have hl := lit_lay V
    obtain ⟨U, hU⟩ : ∃ U, U = ((((V.alloc (.cells #[.int .i64 9, .int .i64 0, .int .i64 0, .int .i64 0] 34)).alloc (.cells #[.int .i64 8, .int .i64 0, .int .i64 0, .int .i64 0] 34)).alloc (.cells #[.slice (some ⟨V.heap.size, 0, none⟩) 1 1, .slice (some ⟨V.heap.size + 1, 0, none⟩) 1 1] 35)).alloc (.cells #[.int .i64 0] 3)) := ⟨_, rfl⟩
    have hbU : Below V.heap.size V U := by rw [hU]; exact ((((Below.refl _ _).alloc (Nat.le_refl _) _).alloc (by simp) _).alloc (by simp; omega) _).alloc (by simp; omega) _
    rw [← hU] at hl ⊢
    refine Calls.mono (find_litAt U _ _ 2 1 hl (htab.up (hb.trans (hbU.mono hb.size)))) ?_
    rintro e w' ⟨a, cap, he, hb'⟩
    exact ⟨a, cap, he, hbU.trans (hb'.mono hbU.size)⟩
  have HFP : Hid (∀ W, Below w.heap.size w W → Calls Tryz.prog 7 #[prgV ca n cc wa words.length wc lk rg] W fun e w' => ∃ (a : Option Addr) (k cap : Nat) (x y z : Int), e = .returned (.tuple #[.slice a k cap, ints3 x y z]) ∧ Hid (TopQ w (prgV ca n cc wa words.length wc lk rg) k x ∧ Below W.heap.size W w')) := fun W hb => find_top w ca n cc wa wc lk rg words A L C X hp hw hnil hfit hwf htab W hb
  exact topFree_walk w ca n cc wa words.length wc lk rg HV HLIT HFP
end

end Go.Proofs.YtgofbkgfonlceacGreatDoor
