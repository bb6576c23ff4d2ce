/-
  The law of Text: what is written is as the document writes it, and is read back.
-/
import Derived.Test.YthbebnegmenejaaGreatDoorParseC
import Derived.Test.YthbebnegmenejaaGreatDoorTextA
import Derived.Test.YthbebnegmenejaaGreatDoorTextN
import Derived.Test.YthbebnegmenejaaGreatDoorTextR
import Derived.Test.YthbebnegmenejaaGreatDoorRText
import Derived.Test.YthbebnegmenejaaGreatDoorCheckR3
import Derived.Test.YthbebnegmenejaaGreatDoorSameA
import Derived.Test.YthbebnegmenejaaGreatDoorVast
namespace Go.Proofs.YthbebnegmenejaaGreatDoor
open Go.RowKit

theorem words_in {w : World} {B : Nat} {e : TypeId} {a : Option Addr} {c : Nat} {vs : List Int} (h : w.ownsRow B e 1 (.slice a vs.length c) vs.length (vs.map (Value.int .i64))) : ∀ i, i < vs.length → ∃ b o, a = some ⟨b, o, none⟩ ∧ w.cell? ⟨b, o + i, none⟩ = some (.int .i64 (vs.getD i 0)) := fun i hi => by
  rcases h.2 with ⟨_, h1⟩ | ⟨g, cp, cur, hv, _⟩
  · omega
  · simp only [Value.slice.injEq] at hv
    obtain ⟨rfl, _, rfl⟩ := hv
    refine ⟨g, 0, rfl, ?_⟩
    rw [Nat.zero_add, h.cellAt i (by omega)]
    simp [List.getElem?_eq_getElem hi, List.getD]

theorem parse_pq (s : ByteArray) (hm : s.size ≤ 9223372036854775807) (a : Addr) (w : World) (hE : Env w 161 (.pointer (some a))) (st : St) (x y z : Int) (hq : parseL s.data.toList = (st, (x, y, z))) :
    Calls Tryz.prog 8 #[.string s] w fun e w' => (∃ ca cc wa wc tv B, w.heap.size ≤ B ∧ e = .returned (.tuple #[.agg #[.slice ca st.ths.length cc, .slice wa st.words.length wc, .int .i64 st.lk, .int .i64 st.rg], ints3 x y z]) ∧ Built w' B (.slice ca st.ths.length cc) (.slice wa st.words.length wc) tv st.ths st.words) ∧ Below w.heap.size w w' := by
  refine (parse_any s hm a w hE).mono ?_
  rintro e w' ⟨hQ, hb⟩
  unfold ParseQ at hQ
  rw [hq] at hQ
  obtain ⟨cv, wv, tv, B, hB, rfl, hbt⟩ := hQ
  obtain ⟨ca, cc, rfl⟩ := owns_slice hbt.code
  obtain ⟨wa, wc, rfl⟩ := owns_slice hbt.words
  exact ⟨⟨ca, cc, wa, wc, tv, B, hB, rfl, hbt⟩, hb⟩

set_option maxRecDepth 100000 in
set_option maxHeartbeats 6400000 in
theorem asmTexts_no (ca : Option Addr) (n cc : Nat) (wa : Option Addr) (m wc : Nat) (lk rg : Int) (A : Nat → Option Addr) (L C : Nat → Nat) (X : Nat → Nat → Nat → Int) (hm : m ≤ 9223372036854775807) (x y z : Int) (HR : Hid (chk n L X m lk rg = (x, y, z))) (hx : (x != 0) = true) (w : World) (hp : PIn w ca n A L C X) :
    Calls Tryz.prog 3 #[prgV ca n cc wa m wc lk rg] w fun e w' => e = .returned (.bool true) ∧ Below w.heap.size w w' := by
  have HB0 : Below w.heap.size w (w.alloc (.cells #[.slice ca n cc, .slice wa m wc, .int .i64 lk, .int .i64 rg] 25)) := (Below.refl _ _).alloc (Nat.le_refl _) _
  have hp0 := hp.below HB0
  go_enter Tryz.func3, Tryz.ntmps3
  go_wp2_with (first | (go_at_call 4; refine (vast_any _ _ _ _ _ _ _ _ A L C X hm _ hp0).mono ?_; rintro e w1 ⟨⟨b, rfl⟩, hb1⟩; have p0 := box_below (i := 0) hb1 rfl; have p1 := box_below (i := 1) hb1 rfl; have p2 := box_below (i := 2) hb1 rfl; have p3 := box_below (i := 3) hb1 rfl; have hp1 := hp0.below hb1) | (go_at_call 5; refine (text_no _ _ _ _ _ _ _ _ A L C X x y z HR hx _ hp1).mono ?_; rintro e w2 ⟨rfl, hb2⟩; rw [← hb2.cell (lt_of_cell p0)] at p0; rw [← hb2.cell (lt_of_cell p1)] at p1; rw [← hb2.cell (lt_of_cell p2)] at p2; rw [← hb2.cell (lt_of_cell p3)] at p3; have hz2 : w.heap.size < w2.heap.size := lt_of_cell p0; have hpA := fun o => (hp1.below hb2).below ((Below.refl w2.heap.size w2).alloc (Nat.le_refl _) o)) | (go_at_call 6; refine (rcheck_any _ _ _ _ _ _ _ _ A L C X x y z HR _ (hpA _)).mono ?_; rintro e w3 ⟨rfl, hb3⟩; have g0 := box_below (i := 0) hb3 rfl; have g1 := box_below (i := 1) hb3 rfl; have g2 := box_below (i := 2) hb3 rfl; have hz3 : w2.heap.size < w3.heap.size := lt_of_cell g0))
  · go_ret
    exact ⟨rfl, HB0.trans (hb1.mono (by simp))⟩
  · go_ret
    have h1 : Below w.heap.size w w2 := (HB0.trans (hb1.mono (by simp))).trans (hb2.mono (HB0.trans (hb1.mono (by simp))).size)
    exact ⟨rfl, ((h1.alloc h1.size _).trans (hb3.mono (h1.alloc h1.size _).size)).alloc (Nat.le_trans (h1.alloc h1.size _).size hb3.size) _⟩

theorem box_open {w w1 : World} {c : Array Value} {t : TypeId} (hb : Below (w.alloc (.cells c t)).heap.size (w.alloc (.cells c t)) w1) (i : Nat) : w1.frozen? ⟨w.heap.size, i, none⟩ = false := by
  rw [hb.frozen (p := ⟨w.heap.size, i, none⟩) (by simp)]
  simp only [World.frozen?, heap_alloc_new]
  simp
/-- A text is no longer than the numbers reach. -/
theorem textF_len {n : Nat} {L : Nat → Nat} {X : Nat → Nat → Nat → Int} {words : List Int} {lk rg : Int} (hM : May n L X words.length lk rg) (hX : ∀ t i q, t < n → i < L t → I64 (X t i q)) (hw : ∀ v ∈ words, I64 v) : (textF n L X words lk rg).length ≤ 200000 := by
  have h1 := codeT_len hM.len hX n (Nat.le_refl _)
  have h2 := lineT_len [119, 111, 114, 100, 115] words hw
  have h3 := lineT_len [108, 111, 99, 107, 115] [lk] (fun v hv => by simp at hv; subst hv; exact hM.hlk)
  have h4 := lineT_len [114, 101, 103, 115] [rg] (fun v hv => by simp at hv; subst hv; exact hM.hrg)
  have hn := hM.hn
  have hm := hM.hm
  unfold textF headT
  simp only [List.length_append, List.length_cons, List.length_nil] at *
  omega

set_option maxRecDepth 100000 in
set_option maxHeartbeats 6400000 in
theorem asmTexts_yes (ca : Option Addr) (n cc : Nat) (wa : Option Addr) (wc : Nat) (lk rg : Int) (A : Nat → Option Addr) (L C : Nat → Nat) (X : Nat → Nat → Nat → Int) (words : List Int) (y z : Int) (HR : Hid (chk n L X words.length lk rg = (0, y, z))) (HX : Hid (∀ t i q, t < n → i < L t → I64 (X t i q))) (HWD : Hid (∀ v ∈ words, I64 v)) (a : Addr) (w : World) (hp : PIn w ca n A L C X) (hi : NIn w wa words) (hE : Env w 161 (.pointer (some a))) (hPw : Pow w) (hG : 9 ≤ w.heap.size) :
    Calls Tryz.prog 3 #[prgV ca n cc wa words.length wc lk rg] w fun e w' => e = .returned (.bool true) ∧ Below w.heap.size w w' := by
  have HM : Hid (May n L X words.length lk rg) := chk_may (by rw [HR.out])
  have hm : words.length ≤ 9223372036854775807 := Nat.le_trans HM.out.hm (by decide)
  have HPT := Hid.out (p := Hid _) (parse_text (by rw [HR.out]) HX.out HWD.out)
  obtain ⟨T, hT⟩ : ∃ T : ByteArray, (⟨(textF n L X words lk rg).toArray⟩ : ByteArray) = T := ⟨_, rfl⟩
  have HTL : Hid (T.data.toList = textF n L X words lk rg) := by show _ = _; rw [← hT]
  have hTz : T.size ≤ 200000 := by rw [← hT, Lib.size_eq]; exact textF_len HM.out HX.out HWD.out
  have HB0 : Below w.heap.size w (w.alloc (.cells #[.slice ca n cc, .slice wa words.length wc, .int .i64 lk, .int .i64 rg] 25)) := (Below.refl _ _).alloc (Nat.le_refl _) _
  have hp0 := hp.below HB0
  go_enter Tryz.func3, Tryz.ntmps3
  go_wp2_with fail
  refine (vast_any _ _ _ _ _ _ _ _ A L C X hm _ hp0).mono ?_
  rintro e w1 ⟨⟨b, rfl⟩, hb1⟩
  have p0 := box_below (i := 0) hb1 rfl
  have p1 := box_below (i := 1) hb1 rfl
  have p2 := box_below (i := 2) hb1 rfl
  have p3 := box_below (i := 3) hb1 rfl
  have hp1 := hp0.below hb1
  have hB1 : Below w.heap.size w w1 := HB0.trans (hb1.mono HB0.size)
  clear hb1
  cases b with
  | true =>
    go_wp2_with fail
    go_ret
    exact ⟨rfl, hB1⟩
  | false =>
    go_wp2_with fail
    refine (text_yes ca n cc wa wc lk rg A L C X words y z HR HX HWD w1 hp1 (hi.below hB1) (pow_stays hPw hB1 hG) (Nat.le_trans hG hB1.size)).mono ?_
    rintro e w2 ⟨rfl, hb2⟩
    rw [hT]
    have hz02 : w.heap.size < w2.heap.size := lt_of_cell ((hb2.cell (lt_of_cell p0)).trans p0)
    have q0 := cell_al ((hb2.cell (lt_of_cell p0)).trans p0)
    have q1 := cell_al ((hb2.cell (lt_of_cell p1)).trans p1)
    have q2 := cell_al ((hb2.cell (lt_of_cell p2)).trans p2)
    have q3 := cell_al ((hb2.cell (lt_of_cell p3)).trans p3)
    have hB2 : Below w.heap.size w w2 := hB1.trans (hb2.mono hB1.size)
    clear p0 p1 p2 p3 hb2 hp1 hp0 HB0
    go_wp2_with fail
    have hB2a := hB2.alloc hB2.size (.cells #[.int .i64 0, .int .i64 0, .int .i64 0] 29)
    refine (rcheck_any ca n cc wa _ wc lk rg A L C X 0 y z HR _ (hp.below hB2a)).mono ?_
    rintro e w3 ⟨rfl, hb3⟩
    have g0 := box_below (i := 0) hb3 rfl
    have g1 := box_below (i := 1) hb3 rfl
    have g2 := box_below (i := 2) hb3 rfl
    have gf := box_open hb3
    have r0 := cell_al ((hb3.cell (lt_of_cell (q0 _))).trans (q0 _))
    have r1 := cell_al ((hb3.cell (lt_of_cell (q1 _))).trans (q1 _))
    have r2 := cell_al ((hb3.cell (lt_of_cell (q2 _))).trans (q2 _))
    have r3 := cell_al ((hb3.cell (lt_of_cell (q3 _))).trans (q3 _))
    have hB3 : Below w.heap.size w w3 := hB2a.trans (hb3.mono hB2a.size)
    clear q0 q1 q2 q3 hb3
    have hz23 : w2.heap.size < w3.heap.size := lt_of_cell g0
    go_wp2_with fail
    have hB3a := hB3.alloc hB3.size (.cells #[.int .i64 0, .int .i64 y, .int .i64 z] 29)
    refine (rtext_yes ca n cc wa wc lk rg A L C X words HM HX HWD _ (hp.below hB3a) (hi.below hB3a)).mono ?_
    rintro e w4 ⟨rfl, hb4⟩
    rw [hT]
    have k0 := (hb4.cell (lt_of_cell (cell_al g0 _))).trans (cell_al g0 _)
    have k1 := (hb4.cell (lt_of_cell (cell_al g1 _))).trans (cell_al g1 _)
    have k2 := (hb4.cell (lt_of_cell (cell_al g2 _))).trans (cell_al g2 _)
    have kf : ∀ i, w4.frozen? ⟨w2.heap.size, i, none⟩ = false := fun i => (hb4.frozen (p := ⟨w2.heap.size, i, none⟩) (by simp; omega)).trans ((World.frozen?_alloc_past _ _ _ hz23).trans (gf i))
    have s0 := (hb4.cell (lt_of_cell (r0 _))).trans (r0 _)
    have s1 := (hb4.cell (lt_of_cell (r1 _))).trans (r1 _)
    have s2 := (hb4.cell (lt_of_cell (r2 _))).trans (r2 _)
    have s3 := (hb4.cell (lt_of_cell (r3 _))).trans (r3 _)
    have hB4 : Below w.heap.size w w4 := hB3a.trans (hb4.mono hB3a.size)
    clear r0 r1 r2 r3 g0 g1 g2 gf
    have hz24 : w2.heap.size < w4.heap.size := lt_of_cell k0
    clear hb4
    go_wp2_with fail
    have hTL : T.data.toList.length = T.size := by rw [HTL.out]; rw [← hT, Lib.size_eq]
    by_cases hlen : 4000 < T.size
    · have hq : parseL T.data.toList = (st0, (1, 0, 0)) := by
        rw [HTL.out, HPT.out, ← HTL.out, if_pos (by omega)]
      refine (parse_pq T (by omega) a w4 (hE.below hB4) st0 1 0 0 hq).mono ?_
      rintro e w5 ⟨⟨ca', cc', wa', wc', tv, B, hB, rfl, hbt⟩, hb5⟩
      simp only [show st0.ths.length = 0 from rfl, show st0.words.length = 0 from rfl, show st0.lk = 0 from rfl, show st0.rg = 0 from rfl]
      have l0 := cell_al ((hb5.cell (lt_of_cell k0)).trans k0)
      have l1 := cell_al ((hb5.cell (lt_of_cell k1)).trans k1)
      have l2 := cell_al ((hb5.cell (lt_of_cell k2)).trans k2)
      have hz45 := hb5.size
      have lf : ∀ i o, (w5.alloc o).frozen? ⟨w2.heap.size, i, none⟩ = false := fun i o => (World.frozen?_alloc_past _ _ _ (by omega)).trans ((hb5.frozen (p := ⟨w2.heap.size, i, none⟩) hz24).trans (kf i))
      have hB5 : Below w.heap.size w w5 := hB4.trans (hb5.mono hB4.size)
      have hn1 : ¬ w5.heap.size = w2.heap.size := by omega
      have hn2 : ¬ w2.heap.size = w5.heap.size := by omega
      clear hbt hb5
      go_wp2_with fail
      go_ret
      first
        | exact ⟨rfl, ((((hB5.alloc hB5.size _).setCell hB2.size _).setCell hB2.size _).setCell hB2.size _).alloc (by have := hB5.size; simp; omega) _⟩
        | exact ⟨rfl, ((((hB5.alloc hB5.size _).setCell hB2.size _).setCell hB2.size _).setCell hB2.size _)⟩
    · have hq : parseL T.data.toList = (stOf n L X words lk rg, (0, 0, 0)) := by
        rw [HTL.out, HPT.out, ← HTL.out, if_neg (by omega)]
      have HSZ : Hid (Sz 4001 (stOf n L X words lk rg)) := by
        refine ⟨?_, fun t => ?_⟩
        · rw [st_len]; exact Nat.le_trans HM.out.hn (by decide)
        · by_cases ht : t < n
          · have h1 : lOf (stOf n L X words lk rg).ths t = L t := st_lOf ht
            have h2 := HM.out.len t ht
            unfold lOf at h1
            omega
          · have h3 : (stOf n L X words lk rg).ths.length ≤ t := by rw [st_len]; omega
            simp [List.getD, List.getElem?_eq_none h3]
      refine (parse_pq T (by omega) a w4 (hE.below hB4) _ 0 0 0 hq).mono ?_
      rintro e w5 ⟨⟨ca', cc', wa', wc', tv, B, hB, rfl, hbt⟩, hb5⟩
      have e1 := st_len (n := n) (L := L) (X := X) (words := words) (lk := lk) (rg := rg)
      have hBl : w2.heap.size < B := by omega
      have hb6 : ∀ v, Built ((((w5.alloc (.cells #[.slice ca' (stOf n L X words lk rg).ths.length cc', .slice wa' words.length wc', .int .i64 lk, .int .i64 rg] 25)).setCell ⟨w2.heap.size, 0, none⟩ v).setCell ⟨w2.heap.size, 1, none⟩ v).setCell ⟨w2.heap.size, 2, none⟩ v) B (.slice ca' (stOf n L X words lk rg).ths.length cc') (.slice wa' words.length wc') tv (stOf n L X words lk rg).ths words := fun v =>
        (((hbt.below ((Below.refl _ _).alloc (Nat.le_refl _) _)).store (show w2.heap.size < _ from hBl) _).store (show w2.heap.size < _ from hBl) _).store (show w2.heap.size < _ from hBl) _
      have hpq := fun v => (hb6 v).pin HSZ.out.n HSZ.out.t (Nat.le_refl _)
      have hiq := fun v => words_in (hb6 v).words
      simp only [e1] at hpq hiq
      simp only [st_len, show (stOf n L X words lk rg).words = words from rfl, show (stOf n L X words lk rg).lk = lk from rfl, show (stOf n L X words lk rg).rg = rg from rfl]
      have hpq := fun v => (hpq v).congr (L' := L) (X' := X) (fun t ht => st_lOf ht) (fun t i q ht hi hq => st_xOf ht hi hq)
      have l0 := cell_al ((hb5.cell (lt_of_cell k0)).trans k0)
      have l1 := cell_al ((hb5.cell (lt_of_cell k1)).trans k1)
      have l2 := cell_al ((hb5.cell (lt_of_cell k2)).trans k2)
      have m0 := cell_al ((hb5.cell (lt_of_cell s0)).trans s0)
      have m1 := cell_al ((hb5.cell (lt_of_cell s1)).trans s1)
      have m2 := cell_al ((hb5.cell (lt_of_cell s2)).trans s2)
      have m3 := cell_al ((hb5.cell (lt_of_cell s3)).trans s3)
      have hz45 := hb5.size
      have lf : ∀ i o, (w5.alloc o).frozen? ⟨w2.heap.size, i, none⟩ = false := fun i o => (World.frozen?_alloc_past _ _ _ (by omega)).trans ((hb5.frozen (p := ⟨w2.heap.size, i, none⟩) hz24).trans (kf i))
      have hB5 : Below w.heap.size w w5 := hB4.trans (hb5.mono hB4.size)
      have hn1 : ¬ w5.heap.size = w2.heap.size := by omega
      have hn2 : ¬ w2.heap.size = w5.heap.size := by omega
      have hn3 : ¬ w.heap.size = w2.heap.size := by omega
      have hn4 : ¬ w2.heap.size = w.heap.size := by omega
      have hn5 : ¬ w.heap.size = w5.heap.size := by omega
      have hn6 : ¬ w5.heap.size = w.heap.size := by omega
      clear hbt hb6 HSZ
      go_wp2_with fail
      have u0 : ((((w5.alloc (.cells #[.slice ca' n cc', .slice wa' words.length wc', .int .i64 lk, .int .i64 rg] 25)).setCell ⟨w2.heap.size, 0, none⟩ (.int .i64 0)).setCell ⟨w2.heap.size, 1, none⟩ (.int .i64 0)).setCell ⟨w2.heap.size, 2, none⟩ (.int .i64 0)).cell? ⟨w2.heap.size, 0, none⟩ = some (.int .i64 0) := by go_simp
      obtain ⟨W6, hW6⟩ : ∃ W6, (((w5.alloc (.cells #[.slice ca' n cc', .slice wa' words.length wc', .int .i64 lk, .int .i64 rg] 25)).setCell ⟨w2.heap.size, 0, none⟩ (.int .i64 0)).setCell ⟨w2.heap.size, 1, none⟩ (.int .i64 0)).setCell ⟨w2.heap.size, 2, none⟩ (.int .i64 0) = W6 := ⟨_, rfl⟩
      have hpq := hpq (.int .i64 0)
      have hiq := hiq (.int .i64 0)
      have hB6 : Below w.heap.size w W6 := by
        rw [← hW6]
        exact (((hB5.alloc hB5.size _).setCell hB2.size _).setCell hB2.size _).setCell hB2.size _
      rw [hW6] at u0 hpq hiq ⊢
      clear hW6
      refine (same_any ca n cc wa _ wc lk rg A L C X ca' cc' wa' wc' _ _ (fun i => words.getD i 0) hm W6 (hp.below hB6) hpq (hi.below hB6) hiq).mono ?_
      rintro e w7 ⟨rfl, hb7⟩
      have v0 := (hb7.cell (lt_of_cell u0)).trans u0
      go_wp2_with fail
      go_ret
      exact ⟨rfl, hB6.trans (hb7.mono hB6.size)⟩

theorem asmTexts_any (ca : Option Addr) (n cc : Nat) (wa : Option Addr) (wc : Nat) (lk rg : Int) (A : Nat → Option Addr) (L C : Nat → Nat) (X : Nat → Nat → Nat → Int) (words : List Int) (hm : words.length ≤ 9223372036854775807) (HX : ∀ t i q, t < n → i < L t → I64 (X t i q)) (HWD : ∀ v ∈ words, I64 v) (a : Addr) (w : World) (hp : PIn w ca n A L C X) (hi : NIn w wa words) (hE : Env w 161 (.pointer (some a))) (hPw : Pow w) (hG : 9 ≤ w.heap.size) :
    Calls Tryz.prog 3 #[prgV ca n cc wa words.length wc lk rg] w fun e w' => e = .returned (.bool true) ∧ Below w.heap.size w w' := by
  obtain ⟨x, y, z, hR⟩ : ∃ x y z, chk n L X words.length lk rg = (x, y, z) := ⟨_, _, _, rfl⟩
  cases hx : (x != 0) with
  | true => exact asmTexts_no ca n cc wa _ wc lk rg A L C X hm x y z hR hx w hp
  | false =>
    obtain rfl : x = 0 := by simpa using hx
    exact asmTexts_yes ca n cc wa wc lk rg A L C X words y z hR HX HWD a w hp hi hE hPw hG

end Go.Proofs.YthbebnegmenejaaGreatDoor
