/-
  The law of Parse and Text: what is read from a text is written as that text.
-/
import Derived.Test.YthbebnegmenejaaDoorParseC
import Derived.Test.YthbebnegmenejaaDoorFit
import Derived.Test.YthbebnegmenejaaDoorTextA
namespace Go.Proofs.YthbebnegmenejaaDoor
open Go.RowKit

theorem words_in {w : World} {B : Nat} {e : TypeId} {a : Option Addr} {c : Nat} {vs : List Int} (h : w.ownsRow B e 1 (.slice a vs.length c) vs.length (vs.map (Value.int .i64))) : ∀ i, i < vs.length → ∃ b o, a = some ⟨b, o, none⟩ ∧ w.cell? ⟨b, o + i, none⟩ = some (.int .i64 (vs.getD i 0)) := fun i hi => by
  rcases h.2 with ⟨_, h1⟩ | ⟨g, cp, cur, hv, _⟩
  · omega
  · simp only [Value.slice.injEq] at hv
    obtain ⟨rfl, _, rfl⟩ := hv
    refine ⟨g, 0, rfl, ?_⟩
    rw [Nat.zero_add, h.cellAt i (by omega)]
    simp [List.getElem?_eq_getElem hi, List.getD]

theorem parse_pq (s : ByteArray) (hm : s.size ≤ 9223372036854775807) (a : Addr) (w : World) (hE : Env w 164 (.pointer (some a))) (st : St) (x y z : Int) (hq : parseL s.data.toList = (st, (x, y, z))) :
    Calls Tryd.prog 5 #[.string s] w fun e w' => (∃ ca cc wa wc tv B, w.heap.size ≤ B ∧ e = .returned (.tuple #[.agg #[.slice ca st.ths.length cc, .slice wa st.words.length wc, .int .i64 st.lk, .int .i64 st.rg], ints3 x y z]) ∧ Built w' B (.slice ca st.ths.length cc) (.slice wa st.words.length wc) tv st.ths st.words) ∧ Below w.heap.size w w' := by
  refine (parse_any s hm a w hE).mono ?_
  rintro e w' ⟨hQ, hb⟩
  unfold ParseQ at hQ
  rw [hq] at hQ
  obtain ⟨cv, wv, tv, B, hB, rfl, hbt⟩ := hQ
  obtain ⟨ca, cc, rfl⟩ := owns_slice hbt.code
  obtain ⟨wa, wc, rfl⟩ := owns_slice hbt.words
  exact ⟨⟨ca, cc, wa, wc, tv, B, hB, rfl, hbt⟩, hb⟩

abbrev fText : ByteArray := ⟨#[119, 111, 114, 100, 115, 32, 55, 10, 108, 111, 99, 107, 115, 32, 48, 10, 114, 101, 103, 115, 32, 49, 10, 116, 104, 114, 101, 97, 100, 10, 108, 111, 97, 100, 32, 48, 32, 48, 10, 112, 114, 105, 110, 116, 32, 48, 10]⟩
/-- The text that is read first. -/
theorem parse_first (a : Addr) (w : World) (hE : Env w 164 (.pointer (some a))) :
    Calls Tryd.prog 5 #[.string fText] w fun e w' => (∃ gc cc gw ow wc ga la ca oc, e = .returned (.tuple #[.agg #[.slice (some ⟨gc, oc, none⟩) 1 cc, .slice (some ⟨gw, ow, none⟩) 1 wc, .int .i64 0, .int .i64 1], ints3 0 0 0]) ∧ w'.cell? ⟨gc, oc, none⟩ = some (.slice ga 2 ca) ∧ w'.cell? ⟨gw, ow, none⟩ = some (.int .i64 7) ∧ la = 0) ∧ Below w.heap.size w w' := by
  refine (parse_pq fText (by decide) a w hE firstSt 0 0 0 first_read).mono ?_
  rintro e w' ⟨⟨ca, cc, wa, wc, tv, B, hB, rfl, hbt⟩, hb⟩
  obtain ⟨gc, oc, rfl, hc⟩ := (hbt.pin (K := 4) (by decide) (fun t => by match t with | 0 => decide | t + 1 => simp [firstSt]) (by decide)).code 0 (by decide)
  obtain ⟨gw, ow, rfl, hw⟩ := words_in hbt.words 0 (by decide)
  exact ⟨⟨gc, cc, gw, ow, wc, _, 0, _, oc, rfl, hc, hw, rfl⟩, hb⟩

/-- The law's two boxes. -/
structure Box2 (w : World) (P : Nat) (v0 v1 : Value) (lk rg : Int) : Prop where
  p0 : w.cell? ⟨P, 0, none⟩ = some v0
  p1 : w.cell? ⟨P, 1, none⟩ = some v1
  p2 : w.cell? ⟨P, 2, none⟩ = some (.int .i64 lk)
  p3 : w.cell? ⟨P, 3, none⟩ = some (.int .i64 rg)
  r0 : w.cell? ⟨P + 1, 0, none⟩ = some (.int .i64 0)
  r1 : w.cell? ⟨P + 1, 1, none⟩ = some (.int .i64 0)
  r2 : w.cell? ⟨P + 1, 2, none⟩ = some (.int .i64 0)
  pf : ∀ i, w.frozen? ⟨P, i, none⟩ = false
  rf : ∀ i, w.frozen? ⟨P + 1, i, none⟩ = false
theorem boxes_at (w : World) (v0 v1 : Value) (lk rg : Int) : Box2 ((w.alloc (.cells #[v0, v1, .int .i64 lk, .int .i64 rg] 25)).alloc (.cells #[.int .i64 0, .int .i64 0, .int .i64 0] 28)) w.heap.size v0 v1 lk rg := by
  refine ⟨by go_simp, by go_simp, by go_simp, by go_simp, by go_simp, by go_simp, by go_simp, fun i => ?_, fun i => ?_⟩
  · rw [World.frozen?_alloc_past _ _ _ (by simp)]
    simp only [World.frozen?, heap_alloc_new]
    simp
  · have e : w.heap.size + 1 = (w.alloc (.cells #[v0, v1, .int .i64 lk, .int .i64 rg] 25)).heap.size := by simp
    rw [e]
    simp only [World.frozen?, heap_alloc_new]
    simp
theorem Box2.below {w w' : World} {P : Nat} {v0 v1 : Value} {lk rg : Int} (h : Box2 w P v0 v1 lk rg) (hb : Below w.heap.size w w') : Box2 w' P v0 v1 lk rg :=
  ⟨(hb.cell (lt_of_cell h.p0)).trans h.p0, (hb.cell (lt_of_cell h.p1)).trans h.p1, (hb.cell (lt_of_cell h.p2)).trans h.p2, (hb.cell (lt_of_cell h.p3)).trans h.p3, (hb.cell (lt_of_cell h.r0)).trans h.r0, (hb.cell (lt_of_cell h.r1)).trans h.r1, (hb.cell (lt_of_cell h.r2)).trans h.r2, fun i => (hb.frozen (p := ⟨P, i, none⟩) (show P < _ from lt_of_cell h.p0)).trans (h.pf i), fun i => (hb.frozen (p := ⟨P + 1, i, none⟩) (show P + 1 < _ from lt_of_cell h.r0)).trans (h.rf i)⟩

theorem parseL_sz4 {l : List UInt8} {p : St × (Int × Int × Int)} (h : parseL l = p) : Sz 4001 p.1 := by
  have h0 : Sz 4001 st0 := ⟨Nat.zero_le _, fun t => by simp [st0]⟩
  rw [← h]
  unfold parseL
  split
  · exact h0
  · rename_i hl
    split
    · exact h0
    · rename_i st h
      split
      · exact readL_sz (by omega) h
      · exact h0

set_option maxRecDepth 100000 in
set_option maxHeartbeats 6400000 in
theorem asmTwice_no (s : ByteArray) (hm : s.size ≤ 9223372036854775807) (a : Addr) (st : St) (x y z : Int) (HQ : Hid (parseL s.data.toList = (st, (x, y, z)))) (hx : (x != 0) = true) (w : World) (hE : Env w 164 (.pointer (some a))) :
    Calls Tryd.prog 4 #[.string s] w fun e w' => e = .returned (.bool true) ∧ Below w.heap.size w w' := by
  obtain rfl := parse_no HQ.out (by simpa using hx)
  go_enter Tryd.func4, Tryd.ntmps4
  go_wp2_with fail
  refine (parse_first a w hE).mono ?_
  rintro e w1 ⟨⟨gc, cc, gw, ow, wc, ga, la, ga', oc, rfl, hc, hw, _⟩, hb1⟩
  have C1 := cell_alloc2 hc
  have C2 := cell_alloc2 hw
  go_wp2_with fail
  obtain ⟨W, hW⟩ : ∃ W, (w1.alloc (.cells #[.slice (some ⟨gc, oc, none⟩) 1 cc, .slice (some ⟨gw, ow, none⟩) 1 wc, .int .i64 0, .int .i64 1] 25)).alloc (.cells #[.int .i64 0, .int .i64 0, .int .i64 0] 28) = W := ⟨_, rfl⟩
  have hS : W.heap.size = w1.heap.size + 2 := by rw [← hW]; simp
  have hq := boxes_at w1 (.slice (some ⟨gc, oc, none⟩) 1 cc) (.slice (some ⟨gw, ow, none⟩) 1 wc) 0 1
  rw [hW] at hq
  have hBW : Below w.heap.size w W := by rw [← hW]; exact (hb1.alloc hb1.size _).alloc (by have := hb1.size; simp; omega) _
  have hEW := hE.below hBW
  rw [hW]
  have hz1 := hb1.size
  clear hW C1 C2 hc hw hb1
  refine (parse_pq s hm a W hEW _ x y z HQ.out).mono ?_
  rintro e w2 ⟨⟨ca, cc2, wa, wc2, tv, B, hB, rfl, hbt⟩, hb2⟩
  obtain ⟨q0, q1, q2, q3, r0, r1, r2, pf, rf⟩ := hq.below hb2
  have hB2 : Below w.heap.size w w2 := hBW.trans (hb2.mono hBW.size)
  have hz2 := hb2.size
  simp only [show st0.ths.length = 0 from rfl, show st0.words.length = 0 from rfl, show st0.lk = 0 from rfl, show st0.rg = 0 from rfl]
  go_wp2_with fail
  go_ret
  exact ⟨rfl, ((((((hB2.setCell hz1 _).setCell hz1 _).setCell hz1 _).setCell hz1 _).setCell (Nat.le_succ_of_le hz1) _).setCell (Nat.le_succ_of_le hz1) _).setCell (Nat.le_succ_of_le hz1) _⟩

set_option maxRecDepth 100000 in
set_option maxHeartbeats 6400000 in
theorem asmTwice_yes (s : ByteArray) (hm : s.size ≤ 9223372036854775807) (a : Addr) (st : St) (x y z : Int) (HQ : Hid (parseL s.data.toList = (st, (x, y, z)))) (hx : x = 0) (w : World) (hE : Env w 164 (.pointer (some a))) (hPw : Pow w) (hG : 9 ≤ w.heap.size) :
    Calls Tryd.prog 4 #[.string s] w fun e w' => e = .returned (.bool true) ∧ Below w.heap.size w w' := by
  obtain ⟨hrd, rfl, rfl, hck⟩ := parse_ok HQ.out hx
  subst hx
  have HRD := Hid.out (p := Hid _) hrd
  obtain ⟨y, z, hyz⟩ : ∃ y z, chkS st = (0, y, z) := ⟨(chkS st).2.1, (chkS st).2.2, by rw [← hck]⟩
  have HCK : Hid (chkS st = (0, y, z)) := hyz
  have HSZ : Hid (Sz 4001 st) := by
    have := parseL_sz4 HQ.out
    exact this
  have HTX : Hid (textF st.ths.length (lOf st.ths) (xOf st.ths) st.words st.lk st.rg = s.data.toList) := by
    show _ = _
    rw [textF_of]
    exact text_back HRD.out
  have HFT := Hid.out (p := Hid _) (FitS.read hrd)
  clear hrd hck hyz
  go_enter Tryd.func4, Tryd.ntmps4
  go_wp2_with fail
  refine (parse_first a w hE).mono ?_
  rintro e w1 ⟨⟨gc, cc, gw, ow, wc, ga, la, ga', oc, rfl, hc, hw, _⟩, hb1⟩
  have C1 := cell_alloc2 hc
  have C2 := cell_alloc2 hw
  go_wp2_with fail
  obtain ⟨W, hW⟩ : ∃ W, (w1.alloc (.cells #[.slice (some ⟨gc, oc, none⟩) 1 cc, .slice (some ⟨gw, ow, none⟩) 1 wc, .int .i64 0, .int .i64 1] 25)).alloc (.cells #[.int .i64 0, .int .i64 0, .int .i64 0] 28) = W := ⟨_, rfl⟩
  have hS : W.heap.size = w1.heap.size + 2 := by rw [← hW]; simp
  have hq := boxes_at w1 (.slice (some ⟨gc, oc, none⟩) 1 cc) (.slice (some ⟨gw, ow, none⟩) 1 wc) 0 1
  rw [hW] at hq
  have hBW : Below w.heap.size w W := by rw [← hW]; exact (hb1.alloc hb1.size _).alloc (by have := hb1.size; simp; omega) _
  have hEW := hE.below hBW
  rw [hW]
  have hz1 := hb1.size
  clear hW C1 C2 hc hw hb1
  refine (parse_pq s hm a W hEW _ 0 0 0 HQ.out).mono ?_
  rintro e w2 ⟨⟨ca, cc2, wa, wc2, tv, B, hB, rfl, hbt⟩, hb2⟩
  obtain ⟨q0, q1, q2, q3, r0, r1, r2, pf, rf⟩ := hq.below hb2
  have hB2 : Below w.heap.size w w2 := hBW.trans (hb2.mono hBW.size)
  have hz2 := hb2.size
  go_wp2_with fail
  have u0 : (((((((w2.setCell ⟨w1.heap.size, 0, none⟩ (.slice ca st.ths.length cc2)).setCell ⟨w1.heap.size, 1, none⟩ (.slice wa st.words.length wc2)).setCell ⟨w1.heap.size, 2, none⟩ (.int .i64 st.lk)).setCell ⟨w1.heap.size, 3, none⟩ (.int .i64 st.rg)).setCell ⟨w1.heap.size + 1, 0, none⟩ (.int .i64 0)).setCell ⟨w1.heap.size + 1, 1, none⟩ (.int .i64 0)).setCell ⟨w1.heap.size + 1, 2, none⟩ (.int .i64 0)).cell? ⟨w1.heap.size, 0, none⟩ = some (.slice ca st.ths.length cc2) := by go_simp
  have u1 : (((((((w2.setCell ⟨w1.heap.size, 0, none⟩ (.slice ca st.ths.length cc2)).setCell ⟨w1.heap.size, 1, none⟩ (.slice wa st.words.length wc2)).setCell ⟨w1.heap.size, 2, none⟩ (.int .i64 st.lk)).setCell ⟨w1.heap.size, 3, none⟩ (.int .i64 st.rg)).setCell ⟨w1.heap.size + 1, 0, none⟩ (.int .i64 0)).setCell ⟨w1.heap.size + 1, 1, none⟩ (.int .i64 0)).setCell ⟨w1.heap.size + 1, 2, none⟩ (.int .i64 0)).cell? ⟨w1.heap.size, 1, none⟩ = some (.slice wa st.words.length wc2) := by go_simp
  have u2 : (((((((w2.setCell ⟨w1.heap.size, 0, none⟩ (.slice ca st.ths.length cc2)).setCell ⟨w1.heap.size, 1, none⟩ (.slice wa st.words.length wc2)).setCell ⟨w1.heap.size, 2, none⟩ (.int .i64 st.lk)).setCell ⟨w1.heap.size, 3, none⟩ (.int .i64 st.rg)).setCell ⟨w1.heap.size + 1, 0, none⟩ (.int .i64 0)).setCell ⟨w1.heap.size + 1, 1, none⟩ (.int .i64 0)).setCell ⟨w1.heap.size + 1, 2, none⟩ (.int .i64 0)).cell? ⟨w1.heap.size, 2, none⟩ = some (.int .i64 st.lk) := by go_simp
  have u3 : (((((((w2.setCell ⟨w1.heap.size, 0, none⟩ (.slice ca st.ths.length cc2)).setCell ⟨w1.heap.size, 1, none⟩ (.slice wa st.words.length wc2)).setCell ⟨w1.heap.size, 2, none⟩ (.int .i64 st.lk)).setCell ⟨w1.heap.size, 3, none⟩ (.int .i64 st.rg)).setCell ⟨w1.heap.size + 1, 0, none⟩ (.int .i64 0)).setCell ⟨w1.heap.size + 1, 1, none⟩ (.int .i64 0)).setCell ⟨w1.heap.size + 1, 2, none⟩ (.int .i64 0)).cell? ⟨w1.heap.size, 3, none⟩ = some (.int .i64 st.rg) := by go_simp
  obtain ⟨W3, hW3⟩ : ∃ W3, ((((((w2.setCell ⟨w1.heap.size, 0, none⟩ (.slice ca st.ths.length cc2)).setCell ⟨w1.heap.size, 1, none⟩ (.slice wa st.words.length wc2)).setCell ⟨w1.heap.size, 2, none⟩ (.int .i64 st.lk)).setCell ⟨w1.heap.size, 3, none⟩ (.int .i64 st.rg)).setCell ⟨w1.heap.size + 1, 0, none⟩ (.int .i64 0)).setCell ⟨w1.heap.size + 1, 1, none⟩ (.int .i64 0)).setCell ⟨w1.heap.size + 1, 2, none⟩ (.int .i64 0) = W3 := ⟨_, rfl⟩
  rw [hW3] at u0 u1 u2 u3
  have hlB : w1.heap.size + 1 < B := by omega
  have hlA : w1.heap.size < B := by omega
  have hbt3 : Built W3 B (.slice ca st.ths.length cc2) (.slice wa st.words.length wc2) tv st.ths st.words := by
    rw [← hW3]
    exact ((((((hbt.store (show w1.heap.size < _ from hlA) _).store (show w1.heap.size < _ from hlA) _).store (show w1.heap.size < _ from hlA) _).store (show w1.heap.size < _ from hlA) _).store (show w1.heap.size + 1 < _ from hlB) _).store (show w1.heap.size + 1 < _ from hlB) _).store (show w1.heap.size + 1 < _ from hlB) _
  have hB3 : Below w.heap.size w W3 := by
    rw [← hW3]
    exact ((((((hB2.setCell hz1 _).setCell hz1 _).setCell hz1 _).setCell hz1 _).setCell (Nat.le_succ_of_le hz1) _).setCell (Nat.le_succ_of_le hz1) _).setCell (Nat.le_succ_of_le hz1) _
  rw [hW3]
  clear hW3 q0 q1 q2 q3 r0 r1 r2 pf rf hbt hB2 hb2 hq
  refine (check_any ca _ cc2 wa _ wc2 st.lk st.rg _ _ _ _ 0 y z HCK W3 (hbt3.pin HSZ.out.n HSZ.out.t (Nat.le_refl _))).mono ?_
  rintro e w4 ⟨rfl, hb4⟩
  have U0 := cell_al ((hb4.cell (lt_of_cell u0)).trans u0)
  have U1 := cell_al ((hb4.cell (lt_of_cell u1)).trans u1)
  have U2 := cell_al ((hb4.cell (lt_of_cell u2)).trans u2)
  have U3 := cell_al ((hb4.cell (lt_of_cell u3)).trans u3)
  have hz4 := hb4.size
  have hz3 := hB3.size
  go_wp2_with fail
  have hb5 : Below W3.heap.size W3 (w4.alloc (.cells #[.int .i64 0, .int .i64 y, .int .i64 z] 28)) := hb4.alloc hb4.size _
  have hB5 := hB3.trans (hb5.mono hB3.size)
  refine (text_yes ca _ cc2 wa wc2 st.lk st.rg _ _ _ _ st.words y z HCK (fun t i q ht hi => HFT.out.of_x t i q ht hi) HFT.out.w _ ((hbt3.below hb5).pin HSZ.out.n HSZ.out.t (Nat.le_refl _)) (words_in (hbt3.below hb5).words) (pow_stays hPw hB5 hG) (Nat.le_trans hG hB5.size)).mono ?_
  rintro e w6 ⟨rfl, hb6⟩
  have hstr : (⟨(textF st.ths.length (lOf st.ths) (xOf st.ths) st.words st.lk st.rg).toArray⟩ : ByteArray) = s := by
    rw [HTX.out]
  rw [hstr]
  have g0 : w6.cell? ⟨w4.heap.size, 0, none⟩ = some (.int .i64 0) := (hb6.cell (p := ⟨w4.heap.size, 0, none⟩) (by simp)).trans (by simp)
  have hz6 := hb6.size
  rw [World.size_alloc] at hz6
  have G0 := cell_al g0
  go_wp2_with fail
  go_ret
  have hB6 := hB5.trans (hb6.mono hB5.size)
  exact ⟨rfl, hB6.alloc hB6.size _⟩

theorem asmTwice_any (s : ByteArray) (hm : s.size ≤ 9223372036854775807) (a : Addr) (w : World) (hE : Env w 164 (.pointer (some a))) (hPw : Pow w) (hG : 9 ≤ w.heap.size) :
    Calls Tryd.prog 4 #[.string s] w fun e w' => e = .returned (.bool true) ∧ Below w.heap.size w w' := by
  obtain ⟨st, x, y, z, hq⟩ : ∃ st x y z, parseL s.data.toList = (st, (x, y, z)) := ⟨_, _, _, _, rfl⟩
  cases hx : (x != 0) with
  | true => exact asmTwice_no s hm a st x y z hq hx w hE
  | false => exact asmTwice_yes s hm a st x y z hq (by simpa using hx) w hE hPw hG

end Go.Proofs.YthbebnegmenejaaDoor
