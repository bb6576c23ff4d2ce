/-
  What the document's line and Text do.
-/
import Derived.Test.YthbebnegmenejaaGreatDoorRDig
import Derived.Test.YthbebnegmenejaaGreatDoorSmall
namespace Go.Proofs.YthbebnegmenejaaGreatDoor
open Go.RowKit

/-- Numbers in memory, as the document's line reads them. -/
def NIn (w : World) (a : Option Addr) (vs : List Int) : Prop := ∀ i, i < vs.length → ∃ b o, a = some ⟨b, o, none⟩ ∧ w.cell? ⟨b, o + i, none⟩ = some (.int .i64 (vs.getD i 0))
theorem NIn.below {w w' : World} {a : Option Addr} {vs : List Int} (h : NIn w a vs) (hb : Below w.heap.size w w') : NIn w' a vs := fun i hi => by
  obtain ⟨b, o, e, hc⟩ := h i hi
  exact ⟨b, o, e, (hb.cell (lt_of_cell hc)).trans hc⟩

set_option maxRecDepth 100000 in
set_option maxHeartbeats 1600000 in
theorem rline_any (N : ByteArray) (a : Option Addr) (c : Nat) (vs : List Int) (HW : Hid (∀ v ∈ vs, I64 v)) (hN : N.size ≤ 10) (hv : vs.length ≤ 100) (w : World) (h : NIn w a vs) :
    Calls Tryz.prog 19 #[.string N, .slice a vs.length c] w fun e w' => e = .returned (.string ⟨(lineT N.data.toList vs).toArray⟩) ∧ Below w.heap.size w w' := by
  go_enter Tryz.func19, Tryz.ntmps19
  go_wp2
  go_loopw [5, 6] (fun s i wr => ∃ (k : Nat) (l : ByteArray), k ≤ vs.length ∧ s = .string l ∧ i = .int .i64 k ∧ Below w.heap.size w wr ∧ Hid (l.data.toList = N.data.toList ++ numsT (vs.take k))) (fun _ i _ => vs.length - (intOf i).toNat)
  case atStart => exact ⟨0, N, Nat.zero_le _, rfl, rfl, Below.refl _ _, (by simp [numsT] : N.data.toList = _)⟩
  case round =>
    obtain ⟨k, l, hk, rfl, rfl, hbr, HI⟩ := hrel
    have hls : l.size ≤ 3000 := by
      have h1 := numsT_len (vs.take k) (fun v hv => HW.out v (List.mem_of_mem_take hv))
      have h2 : (vs.take k).length ≤ 100 := by rw [List.length_take]; omega
      rw [Lib.size_eq, HI.out, List.length_append, ← Lib.size_eq]
      omega
    by_cases hlt : k < vs.length
    · obtain ⟨b, o, rfl, hc⟩ := h.below hbr k hlt
      have hx := HW.out (vs.getD k 0) (by simp [List.getD, List.getElem?_eq_getElem hlt])
      have HNT : Hid (numsT (vs.take (k + 1)) = numsT (vs.take k) ++ (32 :: Lib.itoa (vs.getD k 0))) := numsT_take hlt
      obtain ⟨x, hxe⟩ : ∃ x, vs.getD k 0 = x := ⟨_, rfl⟩
      rw [hxe] at hc hx HNT
      have HX : Hid (I64 x) := hx
      have hil := Lib.itoa_length_le x hx.1 hx.2
      obtain ⟨ds, hds⟩ : ∃ ds : ByteArray, (⟨(Lib.itoa x).toArray⟩ : ByteArray) = ds := ⟨_, rfl⟩
      have hdl : ds.size ≤ 21 := by rw [← hds, Lib.size_eq]; exact hil
      have hdig : ∀ W, Calls Tryz.prog 29 #[.int .i64 x] W fun e w' => e = .returned (.string ds) ∧ Below W.heap.size W w' := fun W => by rw [← hds]; exact digits_any x HX.out W
      have HDS : Hid (ds.data.toList = Lib.itoa x) := by show _ = _; rw [← hds]
      clear hxe hx hil hds
      go_wp2_with (first | (go_at_call 29; refine (hdig _).mono ?_; rintro e w2 ⟨rfl, hb2⟩))
      go_roundw
      case rel =>
        refine ⟨k + 1, _, by omega, rfl, by go_num, hbr.trans (hb2.mono hbr.size), ?_⟩
        show _ = _
        rw [app_list, app_list, HI.out, HDS.out, HNT.out]
        simp
      case measure => simp [intOf]; omega
    · have hkn : k = vs.length := by omega
      subst hkn
      go_wp2
      go_ret
      refine ⟨?_, hbr⟩
      have e : lineT N.data.toList vs = l.data.toList ++ [10] := by rw [HI.out, List.take_length]; rfl
      rw [e]
      exact ret_str (by rw [app_list])

theorem nin_one (w : World) (x : Int) : NIn (w.alloc (.cells #[.int .i64 x] 3)) (some ⟨w.heap.size, 0, none⟩) [x] := fun i hi => by
  obtain rfl : i = 0 := by simpa using hi
  exact ⟨w.heap.size, 0, rfl, by simp⟩

set_option maxRecDepth 100000 in
set_option maxHeartbeats 3200000 in
theorem rtext_yes (ca : Option Addr) (n cc : Nat) (wa : Option Addr) (wc : Nat) (lk rg : Int) (A : Nat → Option Addr) (L C : Nat → Nat) (X : Nat → Nat → Nat → Int) (words : List Int) (HM : Hid (May n L X words.length lk rg)) (HX : Hid (∀ t i q, t < n → i < L t → I64 (X t i q))) (HWD : Hid (∀ v ∈ words, I64 v)) (w : World)
    (hp : PIn w ca n A L C X) (hi : NIn w wa words) :
    Calls Tryz.prog 7 #[prgV ca n cc wa words.length wc lk rg] w fun e w' => e = .returned (.string ⟨(textF n L X words lk rg).toArray⟩) ∧ Below w.heap.size w w' := by
  have hml : words.length ≤ 64 := HM.out.hm
  have hn4 : n ≤ 4 := HM.out.hn
  have HB0 : Below w.heap.size w (w.alloc (.cells #[.slice ca n cc, .slice wa words.length wc, .int .i64 lk, .int .i64 rg] 25)) := (Below.refl _ _).alloc (Nat.le_refl _) _
  obtain ⟨sA, eA⟩ : ∃ s : ByteArray, (⟨(lineT [119, 111, 114, 100, 115] words).toArray⟩ : ByteArray) = s := ⟨_, rfl⟩
  obtain ⟨sB, eB⟩ : ∃ s : ByteArray, (⟨(lineT [108, 111, 99, 107, 115] [lk]).toArray⟩ : ByteArray) = s := ⟨_, rfl⟩
  obtain ⟨sC, eC⟩ : ∃ s : ByteArray, (⟨(lineT [114, 101, 103, 115] [rg]).toArray⟩ : ByteArray) = s := ⟨_, rfl⟩
  have lA : sA.size ≤ 2000 := by rw [← eA, Lib.size_eq]; exact Nat.le_trans (lineT_len _ _ HWD.out) (by simp; omega)
  have lB : sB.size ≤ 100 := by rw [← eB, Lib.size_eq]; exact Nat.le_trans (lineT_len _ _ (fun v hv => by simp at hv; subst hv; exact HM.out.hlk)) (by simp)
  have lC : sC.size ≤ 100 := by rw [← eC, Lib.size_eq]; exact Nat.le_trans (lineT_len _ _ (fun v hv => by simp at hv; subst hv; exact HM.out.hrg)) (by simp)
  have HH : Hid ((sA ++ sB ++ sC).data.toList = headT words lk rg) := by
    show _ = _
    rw [app_list, app_list, ← eA, ← eB, ← eC]
    rfl
  have hA : ∀ W, NIn W wa words → Calls Tryz.prog 19 #[.string ⟨#[119, 111, 114, 100, 115]⟩, .slice wa words.length wc] W fun e w' => e = .returned (.string sA) ∧ Below W.heap.size W w' := fun W h => by
    rw [← eA]; exact rline_any ⟨#[119, 111, 114, 100, 115]⟩ wa wc words HWD (by decide) (by omega) W h
  have hBl : ∀ W a, NIn W a [lk] → Calls Tryz.prog 19 #[.string ⟨#[108, 111, 99, 107, 115]⟩, .slice a 1 1] W fun e w' => e = .returned (.string sB) ∧ Below W.heap.size W w' := fun W a h => by
    rw [← eB]; exact rline_any ⟨#[108, 111, 99, 107, 115]⟩ a 1 [lk] (fun v hv => by simp at hv; subst hv; exact HM.out.hlk) (by decide) (by simp) W h
  have hCl : ∀ W a, NIn W a [rg] → Calls Tryz.prog 19 #[.string ⟨#[114, 101, 103, 115]⟩, .slice a 1 1] W fun e w' => e = .returned (.string sC) ∧ Below W.heap.size W w' := fun W a h => by
    rw [← eC]; exact rline_any ⟨#[114, 101, 103, 115]⟩ a 1 [rg] (fun v hv => by simp at hv; subst hv; exact HM.out.hrg) (by decide) (by simp) W h
  clear eA eB eC
  go_enter Tryz.func7, Tryz.ntmps7
  go_wp2_with fail
  refine (hA _ (hi.below HB0)).mono ?_
  rintro e w1 ⟨rfl, hb1⟩
  have p0 : w1.cell? ⟨w.heap.size, 0, none⟩ = some (.slice ca n cc) := (hb1.cell (p := ⟨w.heap.size, 0, none⟩) (by simp)).trans (by go_simp)
  have p2 : w1.cell? ⟨w.heap.size, 2, none⟩ = some (.int .i64 lk) := (hb1.cell (p := ⟨w.heap.size, 2, none⟩) (by simp)).trans (by go_simp)
  have p3 : w1.cell? ⟨w.heap.size, 3, none⟩ = some (.int .i64 rg) := (hb1.cell (p := ⟨w.heap.size, 3, none⟩) (by simp)).trans (by go_simp)
  have HB1 : Below w.heap.size w w1 := HB0.trans (hb1.mono HB0.size)
  go_wp2_with fail
  refine (hBl _ _ (nin_one _ _)).mono ?_
  rintro e w2 ⟨rfl, hb2⟩
  have HB2 : Below w1.heap.size w1 w2 := ((Below.refl _ _).alloc (Nat.le_refl _) _).trans (hb2.mono (by simp))
  replace p0 := (HB2.cell (lt_of_cell p0)).trans p0
  replace p3 := (HB2.cell (lt_of_cell p3)).trans p3
  go_wp2_with fail
  refine (hCl _ _ (nin_one _ _)).mono ?_
  rintro e w3 ⟨rfl, hb3⟩
  have HB3 : Below w2.heap.size w2 w3 := ((Below.refl _ _).alloc (Nat.le_refl _) _).trans (hb3.mono (by simp))
  replace p0 := (HB3.cell (lt_of_cell p0)).trans p0
  have HBW : Below w.heap.size w w3 := (HB1.trans (HB2.mono HB1.size)).trans (HB3.mono (by have := HB1.size; have := HB2.size; omega))
  clear hA hBl hCl hb1 hb2 hb3 HB1 HB2 HB3 HB0 p2
  go_wp2_with fail
  have hs6 : (sA ++ sB ++ sC).size ≤ 3000 := by rw [ByteArray.size_append, ByteArray.size_append]; omega
  obtain ⟨s6, e6⟩ : ∃ s, sA ++ sB ++ sC = s := ⟨_, rfl⟩
  rw [e6] at HH hs6 ⊢
  clear e6 lA lB lC
  go_loopw [6, 7] (fun s i wr => ∃ (k : Nat) (l : ByteArray), k ≤ n ∧ s = .string l ∧ i = .int .i64 k ∧ Below w3.heap.size w3 wr ∧ Hid (l.data.toList = headT words lk rg ++ codeT L X k)) (fun _ i _ => n - (intOf i).toNat)
  case atStart => exact ⟨0, s6, Nat.zero_le _, rfl, rfl, Below.refl _ _, (by rw [HH.out]; simp [codeT] : s6.data.toList = _)⟩
  case round =>
    obtain ⟨k, l, hk, rfl, rfl, hbr, HI⟩ := hrel
    have HCL : Hid (l.data.toList.length ≤ 130000) := by
      have c := codeT_len HM.out.len HX.out k hk
      have a : (headT words lk rg).length ≤ 3000 := by rw [← HH.out, ← Lib.size_eq]; exact hs6
      show _ ≤ _
      rw [HI.out, List.length_append]
      omega
    have hls : l.size ≤ 130000 := by rw [Lib.size_eq]; exact HCL.out
    have p0r := (hbr.cell (lt_of_cell p0)).trans p0
    by_cases hlt : k < n
    · have HBr : Below w.heap.size w wr := HBW.trans (hbr.mono HBW.size)
      obtain ⟨cb, co, rfl, hc⟩ := (hp.below HBr).code k hlt
      have hl := HM.out.len k hlt
      go_wp2_with fail
      obtain ⟨lt, elt⟩ : ∃ s, l ++ (⟨#[116, 104, 114, 101, 97, 100, 10]⟩ : ByteArray) = s := ⟨_, rfl⟩
      have HLT : Hid (lt.data.toList = headT words lk rg ++ codeT L X k ++ lineT [116, 104, 114, 101, 97, 100] []) := by
        show _ = _
        rw [← elt, app_list, HI.out]
        rfl
      rw [elt]
      clear hc HBr elt p0r hls
      go_loopw [6, 8] (fun s i wi => ∃ (j : Nat) (l : ByteArray), j ≤ L k ∧ s = .string l ∧ i = .int .i64 j ∧ Below w3.heap.size w3 wi ∧ Hid (l.data.toList = headT words lk rg ++ codeT L X k ++ lineT [116, 104, 114, 101, 97, 100] [] ++ bodyT (X k) j)) (fun _ i _ => L k - (intOf i).toNat)
      case atStart => exact ⟨0, lt, Nat.zero_le _, rfl, rfl, hbr, (by rw [HLT.out]; simp [bodyT] : lt.data.toList = _)⟩
      case round =>
        obtain ⟨j, m, hj, rfl, rfl, hbi, HJ⟩ := hrel
        clear hbr
        have p0i := (hbi.cell (lt_of_cell p0)).trans p0
        have HBi : Below w.heap.size w wr := HBW.trans (hbi.mono HBW.size)
        obtain ⟨_, _, ee, hc⟩ := (hp.below HBi).code k hlt
        simp only [Option.some.injEq, Addr.mk.injEq, and_true] at ee
        obtain ⟨rfl, rfl⟩ := ee
        have hms : m.size ≤ 200000 := by
          have a := HCL.out
          rw [HI.out] at a
          have b := bodyT_len (X := X k) (L := L k) (fun i q hi => HX.out k i q hlt hi) j hj
          have e : (lineT [116, 104, 114, 101, 97, 100] []).length = 7 := by decide
          rw [Lib.size_eq, HJ.out, List.length_append, List.length_append, e]
          omega
        by_cases hjl : j < L k
        · obtain ⟨ob, oo, hA, x0, x1, x2, x3⟩ := (hp.below HBi).ord k j hlt hjl
          have HXV : Hid (I64 (X k j 1) ∧ I64 (X k j 2) ∧ I64 (X k j 3)) := ⟨HX.out k j 1 hlt hjl, HX.out k j 2 hlt hjl, HX.out k j 3 hlt hjl⟩
          have HBT : Hid (bodyT (X k) (j + 1) = bodyT (X k) j ++ ordT (X k j 0, X k j 1, X k j 2, X k j 3)) := range_flat j
          obtain ⟨v0, e0⟩ : ∃ v, X k j 0 = v := ⟨_, rfl⟩
          obtain ⟨v1, e1⟩ : ∃ v, X k j 1 = v := ⟨_, rfl⟩
          obtain ⟨v2, e2⟩ : ∃ v, X k j 2 = v := ⟨_, rfl⟩
          obtain ⟨v3, e3⟩ : ∃ v, X k j 3 = v := ⟨_, rfl⟩
          rw [e0] at x0 HBT
          rw [e1] at x1 HXV HBT
          rw [e2] at x2 HXV HBT
          rw [e3] at x3 HXV HBT
          clear e0 e1 e2 e3
          have hN : ∀ W, Calls Tryz.prog 16 #[.int .i64 v0] W fun e w' => e = .returned (.tuple #[.string (nm v0), .string (ks v0)]) ∧ W = w' := fun W => (name_any v0 W).mono fun e w' h => ⟨h.1, h.2.symm⟩
          have hk3 := ks_le3 v0
          have hn7 := nm_len (op := v0)
          rw [← Lib.size_eq] at hn7
          have HOT : Hid (ordT (v0, v1, v2, v3) = lineT (nm v0).data.toList ([v1, v2, v3].take (ks v0).size)) := rfl
          have HOL := ordT_len (v0, v1, v2, v3) HXV.out
          rw [HOT.out] at HOL
          obtain ⟨NV, hNV⟩ : ∃ N, nm v0 = N := ⟨_, rfl⟩
          obtain ⟨KV, hKV⟩ : ∃ K, ks v0 = K := ⟨_, rfl⟩
          rw [hNV, hKV] at hN HOT HOL
          rw [hKV] at hk3
          rw [hNV] at hn7
          clear hNV hKV
          obtain ⟨sl, esl⟩ : ∃ s : ByteArray, (⟨(lineT NV.data.toList ([v1, v2, v3].take KV.size)).toArray⟩ : ByteArray) = s := ⟨_, rfl⟩
          have hsl : sl.size ≤ 74 := by rw [← esl, Lib.size_eq]; exact HOL
          have hline : ∀ W lb, W.cell? ⟨lb, 0, none⟩ = some (.int .i64 v1) → W.cell? ⟨lb, 1, none⟩ = some (.int .i64 v2) → W.cell? ⟨lb, 2, none⟩ = some (.int .i64 v3) → Calls Tryz.prog 19 #[.string NV, .slice (some ⟨lb, 0, none⟩) KV.size 3] W fun e w' => e = .returned (.string sl) ∧ Below W.heap.size W w' := fun W lb c1 c2 c3 => by
            have hq := rline_any NV (some ⟨lb, 0, none⟩) 3 ([v1, v2, v3].take KV.size) (fun v hv => by
              have := List.mem_of_mem_take hv
              simp at this
              rcases this with rfl | rfl | rfl
              · exact HXV.out.1
              · exact HXV.out.2.1
              · exact HXV.out.2.2) (by omega) (by rw [take3_len _ _ _ hk3]; omega) W (fun i hi => by
                rw [take3_len _ _ _ hk3] at hi
                refine ⟨lb, 0, rfl, ?_⟩
                have e : ([v1, v2, v3].take KV.size).getD i 0 = [v1, v2, v3].getD i 0 := by simp only [List.getD, List.getElem?_take, if_pos hi]
                rw [e, Nat.zero_add]
                rcases (by omega : i = 0 ∨ i = 1 ∨ i = 2) with rfl | rfl | rfl
                · exact c1
                · exact c2
                · exact c3)
            rw [take3_len _ _ _ hk3, esl] at hq
            exact hq
          have HSL : Hid (sl.data.toList = ordT (v0, v1, v2, v3)) := by show _ = _; rw [← esl, HOT.out]
          have hki : (KV.size : Int) ≤ 3 := by omega
          clear esl HXV HOT HOL hn7
          rw [hA] at hc
          go_wp2_with (first | (go_at_call 16; refine (hN _).mono ?_; rintro e w4 ⟨rfl, rfl⟩) | (go_at_call 17; refine (numbers_some v0 v1 v2 v3 _).mono ?_; rintro e w5 ⟨lb, rfl, hlb, ⟨c1, c2, c3⟩, hb5⟩) | (go_at_call 19; refine (hline _ lb c1 c2 c3).mono ?_; rintro e w6 ⟨rfl, hb6⟩))
          go_roundw
          case rel =>
            refine ⟨j + 1, _, by omega, rfl, by go_num, (hbi.trans (hb5.mono hbi.size)).trans (hb6.mono (Nat.le_trans hbi.size hb5.size)), ?_⟩
            show _ = _
            rw [app_list, HJ.out, HSL.out, HBT.out]
            simp
          case measure => simp [intOf]; omega
        · have hjL : j = L k := by omega
          subst hjL
          go_wp2_with fail
          go_roundw
          case rel =>
            refine ⟨k + 1, m, by omega, rfl, by go_num, hbi, ?_⟩
            have e : codeT L X (k + 1) = codeT L X k ++ thrT (L k) (X k) := range_flat k
            show _ = _
            rw [HJ.out, e]
            simp [thrT]
          case measure => simp [intOf]; omega
    · have hkn : k = n := by omega
      subst hkn
      go_wp2_with fail
      go_ret
      rw [show textF k L X words lk rg = l.data.toList from HI.out.symm]
      exact ⟨ret_str rfl, HBW.trans (hbr.mono HBW.size)⟩

end Go.Proofs.YthbebnegmenejaaGreatDoor
