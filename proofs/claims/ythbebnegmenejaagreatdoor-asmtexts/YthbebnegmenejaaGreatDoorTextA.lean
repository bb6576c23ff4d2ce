/-
  What the program's Text does with a program that may be.
-/
import Derived.Test.YthbebnegmenejaaGreatDoorTextL
import Derived.Test.YthbebnegmenejaaGreatDoorCount
import Derived.Test.YthbebnegmenejaaGreatDoorCheckA
import Derived.Test.YthbebnegmenejaaGreatDoorShelf
import Derived.Deep.RegionHeld3
import Derived.Deep.CutRange
namespace Go.Proofs.YthbebnegmenejaaGreatDoor
open Go.RowKit

theorem iat_one (B : Nat) (w : World) (x : Int) : IAt B (w.alloc (.cells #[.int .i64 x] 3)) (some ⟨w.heap.size, 0, none⟩) [x].length (fun i => [x].getD i 0) := fun i hi => by
  obtain rfl : i = 0 := by simpa using hi
  exact ⟨w.heap.size, 0, rfl, by simp, Or.inr ⟨_, heap_alloc_new w _, oth_cells (by decide) (by decide)⟩⟩
theorem iat_none (B : Nat) (w : World) : IAt B w none ([] : List Int).length (fun i => ([] : List Int).getD i 0) := fun _ hi => absurd hi (Nat.not_lt_zero _)

theorem cell_alloc2 {w : World} {a : Addr} {v : Value} (h : w.cell? a = some v) (o1 o2 : Obj) : ((w.alloc o1).alloc o2).cell? a = some v :=
  (World.cell?_alloc_lt _ _ _ (by have := lt_of_cell h; simp; omega)).trans ((World.cell?_alloc_lt _ _ _ (lt_of_cell h)).trans h)
/-- A new builder. -/
theorem isB_new (w : World) : IsB w.heap.size w.heap.size [] (w.alloc (.cells #[.pointer none, .slice none 0 0] 41)) :=
  Or.inl ⟨Nat.le_refl _, _, heap_alloc_new w _, World.ownsRow_nil _ _ _ _, by simp [Value.ownBlock]⟩

theorem run_lk1 {P : Program} {mty kt et : TypeId} (hm : P.underlying mty = some (.map kt et)) (hk : P.underlying kt = some (.int .i64)) (w : World) (r c : Nat) (es : Array MapEntry) (k : Int) (j : Nat) (v : Value)
    (hb : w.heap[r]? = some (.map es c)) (hf : Instr.findNow (.int .i64) (.int .i64 k) es.toList 0 = some (some (j, v))) :
    (Instr.lookup mty (.map (some r)) (.int .i64 k) false).run P w = .ok v w := by
  have hc : (Instr.checkKey es.isEmpty 10000 kt (.int .i64 k)).run P w = .ok () w := MapKept.run_checkKey hk (by simp [MapKept.IsKey]) _ 9999
  simp [Instr.lookup, run_underlying hm, MapKept.run_getObj_map hb, hc, MapKept.run_findKey hk hf, Result.andThen]
theorem shape_at {op : Int} (h : 1 ≤ op ∧ op ≤ 18) : ∃ x y z, cnt3 x y z = ((ks op).size : Nat) ∧ ∀ (W : World) (mb : Nat), W.heap[mb]? = some (.map shapesArr 18) → (Instr.lookup 43 (.map (some mb)) (.int .i64 op) false).run Tryz.prog W = .ok (.agg #[.string (nm op), .int .i64 x, .int .i64 y, .int .i64 z]) W := by
  obtain ⟨j, x, y, z, hk, hf⟩ := find_in h
  exact ⟨x, y, z, cnt3_ks hk, fun W mb hm => run_lk1 Tryz.underlying43 Tryz.underlying3 W mb 18 shapesArr op j _ hm hf⟩
theorem numbersOf_ex (op x y z : Int) (w : World) :
    Calls Tryz.prog 13 #[ints4 op x y z] w fun e w' => e = .returned (ints3 x y z) ∧ w' = (w.alloc (.cells #[.int .i64 op, .int .i64 x, .int .i64 y, .int .i64 z] 46)).alloc (.cells #[.int .i64 x, .int .i64 y, .int .i64 z] 52) := by
  go_enter Tryz.func13, Tryz.ntmps13
  go_wp2
  exact bodyPost_ret (v := ints3 x y z) (by simp [results, Tryz.results13, go_sem]) rfl ⟨rfl, rfl⟩
theorem map_al {w : World} {k : Nat} {x : Obj} (h : w.heap[k]? = some x) (o : Obj) : (w.alloc o).heap[k]? = some x := (heap_alloc_old w o (heap_lt h)).trans h
theorem cell_al {w : World} {a : Addr} {v : Value} (h : w.cell? a = some v) (o : Obj) : (w.alloc o).cell? a = some v := (World.cell?_alloc_lt _ _ _ (lt_of_cell h)).trans h
theorem cell_dr {w : World} {a : Addr} {v : Option Value} (h : w.cell? a = v) : w.drew.cell? a = v := h
theorem iat_three {B nb : Nat} {W : World} {v1 v2 v3 : Int} (h : W.heap[nb]? = some (.cells #[.int .i64 v1, .int .i64 v2, .int .i64 v3] 52)) {cn : Nat} (hc : cn ≤ 3) : IAt B W (some ⟨nb, 0, none⟩) ([v1, v2, v3].take cn).length (fun i => ([v1, v2, v3].take cn).getD i 0) := fun i hi => by
  rw [take3_len _ _ _ hc] at hi
  refine ⟨nb, 0, rfl, ?_, Or.inr ⟨_, h, oth_cells (by decide) (by decide)⟩⟩
  have e : ([v1, v2, v3].take cn).getD i 0 = [v1, v2, v3].getD i 0 := by
    simp only [List.getD, List.getElem?_take, if_pos hi]
  show W.cell? ⟨nb, 0 + i, none⟩ = some (.int .i64 (([v1, v2, v3].take cn).getD i 0))
  rw [e, Nat.zero_add, Lib.cell_of_heap h]
  rcases (by omega : i = 0 ∨ i = 1 ∨ i = 2) with rfl | rfl | rfl <;> rfl
theorem map_dr {w : World} {k : Nat} {x : Option Obj} (h : w.heap[k]? = x) : w.drew.heap[k]? = x := h
theorem heap_at (w : World) (o : Obj) {k : Nat} (h : k = w.heap.size) : (w.alloc o).heap[k]? = some o := by rw [h]; exact heap_alloc_new w o
set_option maxRecDepth 100000 in
set_option maxHeartbeats 64000000 in
theorem text_yes (ca : Option Addr) (n cc : Nat) (wa : Option Addr) (wc : Nat) (lk rg : Int) (A : Nat → Option Addr) (L C : Nat → Nat) (X : Nat → Nat → Nat → Int) (words : List Int) (y z : Int) (HR : Hid (chk n L X words.length lk rg = (0, y, z))) (HX : Hid (∀ t i q, t < n → i < L t → I64 (X t i q))) (HWD : Hid (∀ v ∈ words, I64 v)) (w : World)
    (hp : PIn w ca n A L C X) (hi : ∀ i, i < words.length → ∃ b o, wa = some ⟨b, o, none⟩ ∧ w.cell? ⟨b, o + i, none⟩ = some (.int .i64 (words.getD i 0))) (hT : Pow w) (hG : 9 ≤ w.heap.size) :
    Calls Tryz.prog 5 #[prgV ca n cc wa words.length wc lk rg] w fun e w' => e = .returned (.tuple #[.string ⟨(textF n L X words lk rg).toArray⟩, ints3 0 0 0]) ∧ Below w.heap.size w w' := by
  have HM : Hid (May n L X words.length lk rg) := chk_may (by rw [HR.out])
  have hml : words.length ≤ 64 := HM.out.hm
  have hn4 : n ≤ 4 := HM.out.hn
  have HB0 : Below w.heap.size w ((w.alloc (.cells #[.slice ca n cc, .slice wa words.length wc, .int .i64 lk, .int .i64 rg] 25)).alloc (.cells #[.int .i64 0, .int .i64 0, .int .i64 0] 29)) := ((Below.refl _ _).alloc (Nat.le_refl _) _).alloc (by simp) _
  have hp0 := hp.below HB0
  go_enter Tryz.func5, Tryz.ntmps5
  go_wp2_with (first | (go_at_call 10; refine (check_any ca n cc wa _ wc lk rg A L C X 0 y z HR _ hp0).mono ?_; rintro e w1 ⟨rfl, hb1⟩; have p0 : w1.cell? ⟨w.heap.size, 0, none⟩ = some (.slice ca n cc) := (hb1.cell (p := ⟨w.heap.size, 0, none⟩) (by simp; omega)).trans (by go_simp); have p1 : w1.cell? ⟨w.heap.size, 1, none⟩ = some (.slice wa words.length wc) := (hb1.cell (p := ⟨w.heap.size, 1, none⟩) (by simp; omega)).trans (by go_simp); have p2 : w1.cell? ⟨w.heap.size, 2, none⟩ = some (.int .i64 lk) := (hb1.cell (p := ⟨w.heap.size, 2, none⟩) (by simp; omega)).trans (by go_simp); have p3 : w1.cell? ⟨w.heap.size, 3, none⟩ = some (.int .i64 rg) := (hb1.cell (p := ⟨w.heap.size, 3, none⟩) (by simp; omega)).trans (by go_simp); have P1 := cell_alloc2 p1; have hz1 : w.heap.size + 2 ≤ w1.heap.size := (by have := hb1.size; simp at this; omega)))
  have HBX : Below w.heap.size w w1 := HB0.trans (hb1.mono HB0.size)
  have r0 : w1.cell? ⟨w.heap.size + 1, 0, none⟩ = some (.int .i64 0) := (hb1.cell (p := ⟨w.heap.size + 1, 0, none⟩) (by simp)).trans (by go_simp)
  have r1 : w1.cell? ⟨w.heap.size + 1, 1, none⟩ = some (.int .i64 0) := (hb1.cell (p := ⟨w.heap.size + 1, 1, none⟩) (by simp)).trans (by go_simp)
  have r2 : w1.cell? ⟨w.heap.size + 1, 2, none⟩ = some (.int .i64 0) := (hb1.cell (p := ⟨w.heap.size + 1, 2, none⟩) (by simp)).trans (by go_simp)
  have rf : ∀ i, w1.frozen? ⟨w.heap.size + 1, i, none⟩ = false := fun i => by
    rw [hb1.frozen (p := ⟨w.heap.size + 1, i, none⟩) (by simp)]
    have e : w.heap.size + 1 = (w.alloc (.cells #[.slice ca n cc, .slice wa words.length wc, .int .i64 lk, .int .i64 rg] 25)).heap.size := by simp
    rw [e]
    simp only [World.frozen?, heap_alloc_new]
    simp
  obtain ⟨W2, hW2⟩ : ∃ W2, (w1.alloc (.cells #[.int .i64 0, .int .i64 y, .int .i64 z] 29)).alloc (.cells #[.pointer none, .slice none 0 0] 41) = W2 := ⟨_, rfl⟩
  obtain ⟨b, hbE⟩ : ∃ b, w1.heap.size + 1 = b := ⟨_, rfl⟩
  have hbB : Below w1.heap.size w1 W2 := by rw [← hW2]; exact ((Below.refl _ _).alloc (Nat.le_refl _) _).alloc (by simp) _
  have hs2 : W2.heap.size = b + 1 := by rw [← hW2]; simp [hbE]
  have h0 : IsB b b [] W2 := by
    have := isB_new (w1.alloc (.cells #[.int .i64 0, .int .i64 y, .int .i64 z] 29))
    rw [hW2] at this
    simpa [hbE] using this
  have hbW : Below w.heap.size w W2 := HBX.trans (hbB.mono HBX.size)
  replace p0 := (hbB.cell (lt_of_cell p0)).trans p0
  replace p1 := (hbB.cell (lt_of_cell p1)).trans p1
  replace p2 := (hbB.cell (lt_of_cell p2)).trans p2
  replace p3 := (hbB.cell (lt_of_cell p3)).trans p3
  replace r0 := (hbB.cell (lt_of_cell r0)).trans r0
  replace r1 := (hbB.cell (lt_of_cell r1)).trans r1
  replace r2 := (hbB.cell (lt_of_cell r2)).trans r2
  replace rf : ∀ i, W2.frozen? ⟨w.heap.size + 1, i, none⟩ = false := fun i => (hbB.frozen (p := ⟨w.heap.size + 1, i, none⟩) (by show w.heap.size + 1 < _; omega)).trans (rf i)
  have hTW := pow_stays hT hbW hG
  have hbw : w.heap.size + 2 ≤ b := by omega
  have hIW : IAt b W2 wa words.length (fun i => words.getD i 0) := fun i hi' => by
    obtain ⟨k, o, e, hc⟩ := hi i hi'
    have := lt_of_cell hc
    exact ⟨k, o, e, (hbW.cell (lt_of_cell hc)).trans hc, Or.inl (by show k < b; have : k < w.heap.size := this; omega)⟩
  have hA : (lineT [119, 111, 114, 100, 115] words).length ≤ 5 + 64 * 22 + 1 := Nat.le_trans (lineT_len _ _ HWD.out) (by simp; omega)
  have hB : (lineT [108, 111, 99, 107, 115] [lk]).length ≤ 5 + 1 * 22 + 1 := lineT_len _ _ (fun v hv => by simp at hv; subst hv; exact HM.out.hlk)
  have hC : (lineT [114, 101, 103, 115] [rg]).length ≤ 4 + 1 * 22 + 1 := lineT_len _ _ (fun v hv => by simp at hv; subst hv; exact HM.out.hrg)
  rw [hW2, hbE]
  clear hW2 hb1 hp0 HB0 P1 hbB hT hi
  refine (writeLine_any b b (by omega) [] ⟨#[119, 111, 114, 100, 115]⟩ wa wc words W2 h0 (by omega) hTW hIW HWD (show _ + (lineT [119, 111, 114, 100, 115] words).length ≤ _ by simp; omega) (by omega)).mono ?_
  rintro e w2 ⟨rfl, h2, hb2, ht2⟩
  replace h2 : IsB b b (lineT [119, 111, 114, 100, 115] words) w2 := h2
  have hz2 := hb2.size
  have p22 := (hb2.cell (p := ⟨w.heap.size, 2, none⟩) (by show w.heap.size < b; omega)).trans p2
  go_wp2_with fail
  have hn2 : Below w2.heap.size w2 (w2.alloc (.cells #[.int .i64 lk] 3)) := (Below.refl _ _).alloc (Nat.le_refl _) _
  refine (writeLine_any b b (by omega) _ ⟨#[108, 111, 99, 107, 115]⟩ _ 1 [lk] _ (isB_below h2 hn2) (by simp; omega) (pow_stays (pow_stays hTW hb2 (by omega)) hn2 (by omega)) (iat_one _ _ _) (fun v hv => by simp at hv; subst hv; exact HM.out.hlk) (show _ + (lineT [108, 111, 99, 107, 115] [lk]).length ≤ _ by omega) (by simp)).mono ?_
  rintro e w3 ⟨rfl, h3, hb3, ht3⟩
  replace h3 : IsB b b (lineT [119, 111, 114, 100, 115] words ++ lineT [108, 111, 99, 107, 115] [lk]) w3 := h3
  have hB3 : Below b W2 w3 := (hb2.trans (hn2.mono (by omega))).trans hb3
  have hT3 : Typ W2 w3 := (ht2.trans (Typ.of_below hn2)).trans ht3
  have hz3 := hB3.size
  have p33 := (hB3.cell (p := ⟨w.heap.size, 3, none⟩) (by show w.heap.size < b; omega)).trans p3
  go_wp2_with fail
  have hn3 : Below w3.heap.size w3 (w3.alloc (.cells #[.int .i64 rg] 3)) := (Below.refl _ _).alloc (Nat.le_refl _) _
  refine (writeLine_any b b (by omega) _ ⟨#[114, 101, 103, 115]⟩ _ 1 [rg] _ (isB_below h3 hn3) (by simp; omega) (pow_stays (pow_stays hTW hB3 (by omega)) hn3 (by omega)) (iat_one _ _ _) (fun v hv => by simp at hv; subst hv; exact HM.out.hrg) (show _ + (lineT [114, 101, 103, 115] [rg]).length ≤ _ by simp only [List.length_append]; omega) (by simp)).mono ?_
  rintro e w4 ⟨rfl, h4, hb4, ht4⟩
  replace h4 : IsB b b (headT words lk rg) w4 := h4
  have HH : Hid ((headT words lk rg).length ≤ 2000) := by show _ ≤ _; simp only [headT, List.length_append]; omega
  have hB4 : Below b W2 w4 := (hB3.trans (hn3.mono (by omega))).trans hb4
  have hz4 := hB4.size
  have p44 := (hB4.cell (p := ⟨w.heap.size, 0, none⟩) (by show w.heap.size < b; omega)).trans p0
  clear hb2 ht2 hn2 hb3 ht3 hn3 hb4 ht4 hB3 hT3 h2 h3 hA hB hC hIW h0 p22 p33
  go_wp2_with (first | (go_at_call 12; refine (shapes_some _).mono ?_; rintro e w5 ⟨rfl, hmap, hb5⟩; have HMAP := Hid.out (p := Hid _) hmap; clear hmap; have p55 := (hb5.cell (lt_of_cell p44)).trans p44))
  have hs5 := hb5.size
  have hB5 : Below b W2 w5 := hB4.trans (hb5.mono (by omega))
  have h5 := isB_below h4 hb5
  obtain ⟨mb, hmb⟩ : ∃ mb, w4.heap.size + 1 = mb := ⟨_, rfl⟩
  rw [hmb] at HMAP ⊢
  clear hB4 hb5 h4 p44 hz4 hs5 hmb
  go_loopw [34] (fun i wr => ∃ k : Nat, k ≤ n ∧ i = .int .i64 k ∧ IsB b b (headT words lk rg ++ codeT L X k) wr ∧ Below b W2 wr ∧ Typ w5 wr) (fun i _ => n - (intOf i).toNat)
  case atStart => exact ⟨0, Nat.zero_le _, rfl, by simpa [codeT] using h5, hB5, Typ.refl _⟩
  case round =>
    obtain ⟨k, hk, rfl, hIr, hBr, hTr⟩ := hrel
    have hzr := hBr.size
    by_cases hlt : k < n
    · have HBr : Below w.heap.size w wr := hbW.trans (hBr.mono (by omega))
      obtain ⟨cb, co, rfl, hc⟩ := (hp.below HBr).code k hlt
      have hl := HM.out.len k hlt
      have HCL : Hid ((headT words lk rg ++ codeT L X k).length ≤ 130000) := by
        have a := HH.out
        have c := codeT_len HM.out.len HX.out k hk
        show _ ≤ _
        rw [List.length_append]
        omega
      go_wp2_with fail
      refine (writeLine_any b b (by omega) _ ⟨#[116, 104, 114, 101, 97, 100]⟩ none 0 [] wr hIr (by omega) (pow_stays hTW hBr (by omega)) (iat_none _ _) (fun v hv => by cases hv) (show _ + (lineT [116, 104, 114, 101, 97, 100] []).length ≤ _ by have := HCL.out; have e : (lineT [116, 104, 114, 101, 97, 100] []).length = 7 := (by decide); omega) (by simp)).mono ?_
      rintro e w6 ⟨rfl, h6, hb6, ht6⟩
      replace h6 : IsB b b (headT words lk rg ++ codeT L X k ++ lineT [116, 104, 114, 101, 97, 100] []) w6 := h6
      have hB6 : Below b W2 w6 := hBr.trans hb6
      have hT6 : Typ w5 w6 := hTr.trans ht6
      clear hc HBr hBr hTr hIr hb6 ht6 hzr
      go_wp2_with fail
      go_loopw [41] (fun i wi => ∃ j : Nat, j ≤ L k ∧ i = .int .i64 j ∧ IsB b b (headT words lk rg ++ codeT L X k ++ lineT [116, 104, 114, 101, 97, 100] [] ++ bodyT (X k) j) wi ∧ Below b W2 wi ∧ Typ w5 wi) (fun i _ => L k - (intOf i).toNat)
      case atStart => exact ⟨0, Nat.zero_le _, rfl, by simpa [bodyT] using h6, hB6, hT6⟩
      case round =>
        obtain ⟨j, hj, rfl, hIi, hBi, hTi⟩ := hrel
        clear hB6 hT6 h6
        have hzi := hBi.size
        by_cases hjl : j < L k
        · have HBi : Below w.heap.size w wr := hbW.trans (hBi.mono (by omega))
          obtain ⟨ob, oo, hA, x0, x1, x2, x3⟩ := (hp.below HBi).ord k j hlt hjl
          have hmi : wr.heap[mb]? = some (.map shapesArr 18) := (hTi mb _ HMAP.out oth_map).trans HMAP.out
          obtain ⟨kx, ky, kz, hcnt, hlook⟩ := shape_at (HM.out.op k j hlt hjl)
          have HXV : Hid (I64 (X k j 1) ∧ I64 (X k j 2) ∧ I64 (X k j 3)) := ⟨HX.out k j 1 hlt hjl, HX.out k j 2 hlt hjl, HX.out k j 3 hlt hjl⟩
          have HBT : Hid (bodyT (X k) (j + 1) = bodyT (X k) j ++ ordT (X k j 0, X k j 1, X k j 2, X k j 3)) := range_flat j
          have HBL : Hid ((bodyT (X k) j).length ≤ 30000) := by
            have := bodyT_len (X := X k) (L := L k) (fun i q hi => HX.out k i q hlt hi) j hj
            show _ ≤ _
            omega
          obtain ⟨v0, e0⟩ : ∃ v, X k j 0 = v := ⟨_, rfl⟩
          obtain ⟨v1, e1⟩ : ∃ v, X k j 1 = v := ⟨_, rfl⟩
          obtain ⟨v2, e2⟩ : ∃ v, X k j 2 = v := ⟨_, rfl⟩
          obtain ⟨v3, e3⟩ : ∃ v, X k j 3 = v := ⟨_, rfl⟩
          rw [e0] at x0 hcnt hlook HBT
          rw [e1] at x1 HXV HBT
          rw [e2] at x2 HXV HBT
          rw [e3] at x3 HXV HBT
          clear e0 e1 e2 e3
          have HK3 : Hid ((ks v0).size ≤ 3) := ks_le3 v0
          obtain ⟨NV, hNV⟩ : ∃ N, nm v0 = N := ⟨_, rfl⟩
          obtain ⟨cn, hcn⟩ : ∃ c, (ks v0).size = c := ⟨_, rfl⟩
          have HOT : Hid (ordT (v0, v1, v2, v3) = lineT NV.data.toList ([v1, v2, v3].take cn)) := by
            show _ = _
            rw [← hNV, ← hcn]; rfl
          rw [hNV] at hlook
          rw [hcn] at hcnt HK3
          have HCNT : Hid (cnt3 kx ky kz = (cn : Int)) := hcnt
          clear hNV hcn hcnt
          rw [hA]
          go_wp2_with fail
          have hmo : (wr.alloc (.cells #[.int .i64 v0, .int .i64 v1, .int .i64 v2, .int .i64 v3] 46)).heap[mb]? = some (.map shapesArr 18) := map_al hmi _
          have HLK := Hid.out (p := Hid _) hlook
          have l0 := HLK.out _ mb hmo
          have LK := fun (W : World) (h : W.heap[mb]? = some (.map shapesArr 18)) => HLK.out W.drew mb h
          have L0 := LK _ hmo
          have L1 := fun o => LK _ (map_al hmo o)
          have L2 := fun o o' => LK _ (map_al (map_al hmo o) o')
          have L3 := fun o o' q => LK _ (map_al (map_al (map_al hmo o) o') q)
          have L4 := fun o o' q q' => LK _ (map_al (map_al (map_al (map_al hmo o) o') q) q')
          clear hlook LK
          have c0 : (wr.alloc (.cells #[.int .i64 v0, .int .i64 v1, .int .i64 v2, .int .i64 v3] 46)).cell? ⟨wr.heap.size, 0, none⟩ = some (.int .i64 v0) := by simp
          have c1 : (wr.alloc (.cells #[.int .i64 v0, .int .i64 v1, .int .i64 v2, .int .i64 v3] 46)).cell? ⟨wr.heap.size, 1, none⟩ = some (.int .i64 v1) := by simp
          have c2 : (wr.alloc (.cells #[.int .i64 v0, .int .i64 v1, .int .i64 v2, .int .i64 v3] 46)).cell? ⟨wr.heap.size, 2, none⟩ = some (.int .i64 v2) := by simp
          have c3 : (wr.alloc (.cells #[.int .i64 v0, .int .i64 v1, .int .i64 v2, .int .i64 v3] 46)).cell? ⟨wr.heap.size, 3, none⟩ = some (.int .i64 v3) := by simp
          go_cut [11, 12] from 42 to 57 (fun s m wc => ∃ sb nb : Nat, s = .pointer (some ⟨sb, 0, none⟩) ∧ m = .pointer (some ⟨nb, 0, none⟩) ∧ wc.heap[sb]? = some (.cells #[.string NV, .int .i64 kx, .int .i64 ky, .int .i64 kz] 50) ∧ wc.heap[nb]? = some (.cells #[.int .i64 v1, .int .i64 v2, .int .i64 v3] 52) ∧ Below wr.heap.size wr wc)
          case first =>
            clear hBi hTi hIi hzi HBi x0 x1 x2 x3 hmi l0 HXV HBT HBL HK3 HOT HCNT HM HR HX HWD hp p0 p1 p2 p3 r0 r1 r2 rf HMAP p55 hB5 h5 hTW hbW HCL HH hjl hj hl hlt hk hA
            refine wp_region_held_drew (S := (fun w' : World => w'.cell? ⟨wr.heap.size, 0, none⟩ = some (.int .i64 v0) ∧ w'.cell? ⟨wr.heap.size, 1, none⟩ = some (.int .i64 v1) ∧ w'.cell? ⟨wr.heap.size, 2, none⟩ = some (.int .i64 v2) ∧ w'.cell? ⟨wr.heap.size, 3, none⟩ = some (.int .i64 v3) ∧ w'.heap[mb]? = some (.map shapesArr 18))) (by kernel_rfl) (by refine ⟨?_, ?_, ?_, ?_, ?_⟩ <;> repeat (first | exact c0 | exact c1 | exact c2 | exact c3 | exact hmo | refine cell_dr ?_ | refine cell_al ?_ _ | refine map_dr ?_ | refine map_al ?_ _)) (fun hHeld => ?_)
            refine wpAnyH_take (i := 0) (v := .map (some mb)) rfl (by kernel_rfl) (by kernel_rfl) (by kernel_rfl) (fun _ _ _ h => h) (Or.inl ⟨by rfl, by intro w hSw; obtain ⟨h0, h1, h2, h3, hm⟩ := hSw; have hlk := HLK.out w mb hm; first | (go_simp; done) | (go_simp; with_reducible rfl)⟩) (by assumption) ?_
            simp only [Act.put, List.setIfInBounds_toArray, List.set_cons_zero, List.set_cons_succ, List.getElem_toArray, List.getElem_cons_zero]
            refine wpAnyH_take (i := 1) (v := .pointer (some ⟨wr.heap.size, 0, none⟩)) rfl (by kernel_rfl) (by kernel_rfl) (by kernel_rfl) (fun _ _ _ h => h) (Or.inl ⟨by rfl, by intro w hSw; obtain ⟨h0, h1, h2, h3, hm⟩ := hSw; have hlk := HLK.out w mb hm; first | (go_simp; done) | (go_simp; with_reducible rfl)⟩) (by assumption) ?_
            simp only [Act.put, List.setIfInBounds_toArray, List.set_cons_zero, List.set_cons_succ, List.getElem_toArray, List.getElem_cons_succ, List.getElem_cons_zero]
            refine wpAnyH_take (i := 2) (v := .int .i64 v0) rfl (by kernel_rfl) (by kernel_rfl) (by kernel_rfl) (fun _ _ _ h => h) (Or.inl ⟨by rfl, by intro w hSw; obtain ⟨h0, h1, h2, h3, hm⟩ := hSw; have hlk := HLK.out w mb hm; first | (go_simp; done) | (go_simp; with_reducible rfl)⟩) (by assumption) ?_
            simp only [Act.put, List.setIfInBounds_toArray, List.set_cons_zero, List.set_cons_succ, List.getElem_toArray, List.getElem_cons_succ, List.getElem_cons_zero]
            refine wpAnyH_take (i := 3) (v := .agg #[.string NV, .int .i64 kx, .int .i64 ky, .int .i64 kz]) rfl (by kernel_rfl) (by kernel_rfl) (by kernel_rfl) (fun _ _ _ h => h) (Or.inl ⟨by rfl, by intro w hSw; obtain ⟨h0, h1, h2, h3, hm⟩ := hSw; have hlk := HLK.out w mb hm; first | (go_simp; done) | (go_simp; with_reducible rfl)⟩) (by assumption) ?_
            simp only [Act.put, List.setIfInBounds_toArray, List.set_cons_zero, List.set_cons_succ, List.getElem_toArray, List.getElem_cons_succ, List.getElem_cons_zero]
            refine wpAnyH_take (i := 4) (v := .agg #[.int .i64 v0, .int .i64 v1, .int .i64 v2, .int .i64 v3]) rfl (by kernel_rfl) (by kernel_rfl) (by kernel_rfl) (fun _ _ _ h => h) (Or.inl ⟨by rfl, by intro w hSw; obtain ⟨h0, h1, h2, h3, hm⟩ := hSw; have hlk := HLK.out w mb hm; first | (go_simp; done) | (go_simp; with_reducible rfl)⟩) (by assumption) ?_
            simp only [Act.put, List.setIfInBounds_toArray, List.set_cons_zero, List.set_cons_succ, List.getElem_toArray, List.getElem_cons_succ, List.getElem_cons_zero]
            clear L0 L1 L2 L3 L4
            refine wpAnyH_ready (rs := [5, 6, 7]) (by kernel_rfl) (by simp) (AllReadyH.cons rfl (fun K hK => ?_) (AllReadyH.cons rfl (fun K hK => ?_) (AllReadyH.cons rfl (fun K hK => ?_) AllReadyH.nil)))
            · go_simp
              go_at_call 13
              refine (numbersOf_ex v0 v1 v2 v3 _).mono ?_
              rintro e w7 ⟨rfl, rfl⟩
              go_wp2_with fail
              refine hK.out _ _ (by refine ⟨?_, ?_, ?_, ?_, ?_⟩ <;> repeat (first | exact c0 | exact c1 | exact c2 | exact c3 | exact hmo | refine cell_dr ?_ | refine cell_al ?_ _ | refine map_dr ?_ | refine map_al ?_ _)) (fun hHeld => ?_)
              clear hK K
              try simp only [Act.put, List.setIfInBounds_toArray, List.set_cons_zero, List.set_cons_succ, List.getElem_toArray, List.getElem_cons_succ, List.getElem_cons_zero]
              refine wpAnyH_ready (rs := [6, 7]) (by kernel_rfl) (by simp) (AllReadyH.cons rfl (fun K hK => ?_) (AllReadyH.cons rfl (fun K hK => ?_) AllReadyH.nil))
              · go_simp
                refine hK.out _ _ (by refine ⟨?_, ?_, ?_, ?_, ?_⟩ <;> repeat (first | exact c0 | exact c1 | exact c2 | exact c3 | exact hmo | refine cell_dr ?_ | refine cell_al ?_ _ | refine map_dr ?_ | refine map_al ?_ _)) (fun hHeld => ?_)
                clear hK K
                try simp only [Act.put, List.setIfInBounds_toArray, List.set_cons_zero, List.set_cons_succ, List.getElem_toArray, List.getElem_cons_succ, List.getElem_cons_zero]
                refine wpAnyH_ready (rs := [7]) (by kernel_rfl) (by simp) (AllReadyH.cons rfl (fun K hK => ?_) AllReadyH.nil)
                · go_simp
                  refine hK.out _ _ (by refine ⟨?_, ?_, ?_, ?_, ?_⟩ <;> repeat (first | exact c0 | exact c1 | exact c2 | exact c3 | exact hmo | refine cell_dr ?_ | refine cell_al ?_ _ | refine map_dr ?_ | refine map_al ?_ _)) (fun hHeld => ?_)
                  clear hK K
                  try simp only [Act.put, List.setIfInBounds_toArray, List.set_cons_zero, List.set_cons_succ, List.getElem_toArray, List.getElem_cons_succ, List.getElem_cons_zero]
                  refine wpAnyH_ready (rs := [8]) (by kernel_rfl) (by simp) (AllReadyH.cons rfl (fun K hK => ?_) AllReadyH.nil)
                  go_simp
                  refine hK.out _ _ (by refine ⟨?_, ?_, ?_, ?_, ?_⟩ <;> repeat (first | exact c0 | exact c1 | exact c2 | exact c3 | exact hmo | refine cell_dr ?_ | refine cell_al ?_ _ | refine map_dr ?_ | refine map_al ?_ _)) (fun hHeld => ?_)
                  clear hK K
                  try simp only [Act.put, List.setIfInBounds_toArray, List.set_cons_zero, List.set_cons_succ, List.getElem_toArray, List.getElem_cons_succ, List.getElem_cons_zero]
                  refine wpAnyH_ready (rs := [9]) (by kernel_rfl) (by simp) (AllReadyH.cons rfl (fun K hK => ?_) AllReadyH.nil)
                  go_simp
                  refine hK.out _ _ (by refine ⟨?_, ?_, ?_, ?_, ?_⟩ <;> repeat (first | exact c0 | exact c1 | exact c2 | exact c3 | exact hmo | refine cell_dr ?_ | refine cell_al ?_ _ | refine map_dr ?_ | refine map_al ?_ _)) (fun hHeld => ?_)
                  clear hK K
                  try simp only [Act.put, List.setIfInBounds_toArray, List.set_cons_zero, List.set_cons_succ, List.getElem_toArray, List.getElem_cons_succ, List.getElem_cons_zero]
                  refine wpAnyH_done (by kernel_rfl) ?_ _
                  go_wp2_with fail
                  go_meet
                  case rel =>
                    exact ⟨_, _, rfl, rfl, by repeat (first | (refine heap_at _ _ ?_; simp; done) | refine map_dr ?_ | refine map_al ?_ _), by repeat (first | (refine heap_at _ _ ?_; simp; done) | refine map_dr ?_ | refine map_al ?_ _), ((((((Below.refl wr.heap.size wr).alloc (Nat.le_refl _) _).alloc (by simp) _).alloc (by simp; omega) _).alloc (by simp; omega) _).alloc (by simp; omega) _).drew⟩
              · go_simp
                refine hK.out _ _ (by refine ⟨?_, ?_, ?_, ?_, ?_⟩ <;> repeat (first | exact c0 | exact c1 | exact c2 | exact c3 | exact hmo | refine cell_dr ?_ | refine cell_al ?_ _ | refine map_dr ?_ | refine map_al ?_ _)) (fun hHeld => ?_)
                clear hK K
                try simp only [Act.put, List.setIfInBounds_toArray, List.set_cons_zero, List.set_cons_succ, List.getElem_toArray, List.getElem_cons_succ, List.getElem_cons_zero]
                refine wpAnyH_ready (rs := [6]) (by kernel_rfl) (by simp) (AllReadyH.cons rfl (fun K hK => ?_) AllReadyH.nil)
                · go_simp
                  refine hK.out _ _ (by refine ⟨?_, ?_, ?_, ?_, ?_⟩ <;> repeat (first | exact c0 | exact c1 | exact c2 | exact c3 | exact hmo | refine cell_dr ?_ | refine cell_al ?_ _ | refine map_dr ?_ | refine map_al ?_ _)) (fun hHeld => ?_)
                  clear hK K
                  try simp only [Act.put, List.setIfInBounds_toArray, List.set_cons_zero, List.set_cons_succ, List.getElem_toArray, List.getElem_cons_succ, List.getElem_cons_zero]
                  refine wpAnyH_ready (rs := [8]) (by kernel_rfl) (by simp) (AllReadyH.cons rfl (fun K hK => ?_) AllReadyH.nil)
                  go_simp
                  refine hK.out _ _ (by refine ⟨?_, ?_, ?_, ?_, ?_⟩ <;> repeat (first | exact c0 | exact c1 | exact c2 | exact c3 | exact hmo | refine cell_dr ?_ | refine cell_al ?_ _ | refine map_dr ?_ | refine map_al ?_ _)) (fun hHeld => ?_)
                  clear hK K
                  try simp only [Act.put, List.setIfInBounds_toArray, List.set_cons_zero, List.set_cons_succ, List.getElem_toArray, List.getElem_cons_succ, List.getElem_cons_zero]
                  refine wpAnyH_ready (rs := [9]) (by kernel_rfl) (by simp) (AllReadyH.cons rfl (fun K hK => ?_) AllReadyH.nil)
                  go_simp
                  refine hK.out _ _ (by refine ⟨?_, ?_, ?_, ?_, ?_⟩ <;> repeat (first | exact c0 | exact c1 | exact c2 | exact c3 | exact hmo | refine cell_dr ?_ | refine cell_al ?_ _ | refine map_dr ?_ | refine map_al ?_ _)) (fun hHeld => ?_)
                  clear hK K
                  try simp only [Act.put, List.setIfInBounds_toArray, List.set_cons_zero, List.set_cons_succ, List.getElem_toArray, List.getElem_cons_succ, List.getElem_cons_zero]
                  refine wpAnyH_done (by kernel_rfl) ?_ _
                  go_wp2_with fail
                  go_meet
                  case rel =>
                    exact ⟨_, _, rfl, rfl, by repeat (first | (refine heap_at _ _ ?_; simp; done) | refine map_dr ?_ | refine map_al ?_ _), by repeat (first | (refine heap_at _ _ ?_; simp; done) | refine map_dr ?_ | refine map_al ?_ _), ((((((Below.refl wr.heap.size wr).alloc (Nat.le_refl _) _).alloc (by simp) _).alloc (by simp; omega) _).alloc (by simp; omega) _).alloc (by simp; omega) _).drew⟩
            · go_simp
              refine hK.out _ _ (by refine ⟨?_, ?_, ?_, ?_, ?_⟩ <;> repeat (first | exact c0 | exact c1 | exact c2 | exact c3 | exact hmo | refine cell_dr ?_ | refine cell_al ?_ _ | refine map_dr ?_ | refine map_al ?_ _)) (fun hHeld => ?_)
              clear hK K
              try simp only [Act.put, List.setIfInBounds_toArray, List.set_cons_zero, List.set_cons_succ, List.getElem_toArray, List.getElem_cons_succ, List.getElem_cons_zero]
              refine wpAnyH_ready (rs := [5, 7]) (by kernel_rfl) (by simp) (AllReadyH.cons rfl (fun K hK => ?_) (AllReadyH.cons rfl (fun K hK => ?_) AllReadyH.nil))
              · go_simp
                go_at_call 13
                refine (numbersOf_ex v0 v1 v2 v3 _).mono ?_
                rintro e w7 ⟨rfl, rfl⟩
                go_wp2_with fail
                refine hK.out _ _ (by refine ⟨?_, ?_, ?_, ?_, ?_⟩ <;> repeat (first | exact c0 | exact c1 | exact c2 | exact c3 | exact hmo | refine cell_dr ?_ | refine cell_al ?_ _ | refine map_dr ?_ | refine map_al ?_ _)) (fun hHeld => ?_)
                clear hK K
                try simp only [Act.put, List.setIfInBounds_toArray, List.set_cons_zero, List.set_cons_succ, List.getElem_toArray, List.getElem_cons_succ, List.getElem_cons_zero]
                refine wpAnyH_ready (rs := [7]) (by kernel_rfl) (by simp) (AllReadyH.cons rfl (fun K hK => ?_) AllReadyH.nil)
                · go_simp
                  refine hK.out _ _ (by refine ⟨?_, ?_, ?_, ?_, ?_⟩ <;> repeat (first | exact c0 | exact c1 | exact c2 | exact c3 | exact hmo | refine cell_dr ?_ | refine cell_al ?_ _ | refine map_dr ?_ | refine map_al ?_ _)) (fun hHeld => ?_)
                  clear hK K
                  try simp only [Act.put, List.setIfInBounds_toArray, List.set_cons_zero, List.set_cons_succ, List.getElem_toArray, List.getElem_cons_succ, List.getElem_cons_zero]
                  refine wpAnyH_ready (rs := [8]) (by kernel_rfl) (by simp) (AllReadyH.cons rfl (fun K hK => ?_) AllReadyH.nil)
                  go_simp
                  refine hK.out _ _ (by refine ⟨?_, ?_, ?_, ?_, ?_⟩ <;> repeat (first | exact c0 | exact c1 | exact c2 | exact c3 | exact hmo | refine cell_dr ?_ | refine cell_al ?_ _ | refine map_dr ?_ | refine map_al ?_ _)) (fun hHeld => ?_)
                  clear hK K
                  try simp only [Act.put, List.setIfInBounds_toArray, List.set_cons_zero, List.set_cons_succ, List.getElem_toArray, List.getElem_cons_succ, List.getElem_cons_zero]
                  refine wpAnyH_ready (rs := [9]) (by kernel_rfl) (by simp) (AllReadyH.cons rfl (fun K hK => ?_) AllReadyH.nil)
                  go_simp
                  refine hK.out _ _ (by refine ⟨?_, ?_, ?_, ?_, ?_⟩ <;> repeat (first | exact c0 | exact c1 | exact c2 | exact c3 | exact hmo | refine cell_dr ?_ | refine cell_al ?_ _ | refine map_dr ?_ | refine map_al ?_ _)) (fun hHeld => ?_)
                  clear hK K
                  try simp only [Act.put, List.setIfInBounds_toArray, List.set_cons_zero, List.set_cons_succ, List.getElem_toArray, List.getElem_cons_succ, List.getElem_cons_zero]
                  refine wpAnyH_done (by kernel_rfl) ?_ _
                  go_wp2_with fail
                  go_meet
                  case rel =>
                    exact ⟨_, _, rfl, rfl, by repeat (first | (refine heap_at _ _ ?_; simp; done) | refine map_dr ?_ | refine map_al ?_ _), by repeat (first | (refine heap_at _ _ ?_; simp; done) | refine map_dr ?_ | refine map_al ?_ _), ((((((Below.refl wr.heap.size wr).alloc (Nat.le_refl _) _).alloc (by simp) _).alloc (by simp; omega) _).alloc (by simp; omega) _).alloc (by simp; omega) _).drew⟩
              · go_simp
                refine hK.out _ _ (by refine ⟨?_, ?_, ?_, ?_, ?_⟩ <;> repeat (first | exact c0 | exact c1 | exact c2 | exact c3 | exact hmo | refine cell_dr ?_ | refine cell_al ?_ _ | refine map_dr ?_ | refine map_al ?_ _)) (fun hHeld => ?_)
                clear hK K
                try simp only [Act.put, List.setIfInBounds_toArray, List.set_cons_zero, List.set_cons_succ, List.getElem_toArray, List.getElem_cons_succ, List.getElem_cons_zero]
                refine wpAnyH_ready (rs := [5]) (by kernel_rfl) (by simp) (AllReadyH.cons rfl (fun K hK => ?_) AllReadyH.nil)
                · go_simp
                  go_at_call 13
                  refine (numbersOf_ex v0 v1 v2 v3 _).mono ?_
                  rintro e w7 ⟨rfl, rfl⟩
                  go_wp2_with fail
                  refine hK.out _ _ (by refine ⟨?_, ?_, ?_, ?_, ?_⟩ <;> repeat (first | exact c0 | exact c1 | exact c2 | exact c3 | exact hmo | refine cell_dr ?_ | refine cell_al ?_ _ | refine map_dr ?_ | refine map_al ?_ _)) (fun hHeld => ?_)
                  clear hK K
                  try simp only [Act.put, List.setIfInBounds_toArray, List.set_cons_zero, List.set_cons_succ, List.getElem_toArray, List.getElem_cons_succ, List.getElem_cons_zero]
                  refine wpAnyH_ready (rs := [8]) (by kernel_rfl) (by simp) (AllReadyH.cons rfl (fun K hK => ?_) AllReadyH.nil)
                  go_simp
                  refine hK.out _ _ (by refine ⟨?_, ?_, ?_, ?_, ?_⟩ <;> repeat (first | exact c0 | exact c1 | exact c2 | exact c3 | exact hmo | refine cell_dr ?_ | refine cell_al ?_ _ | refine map_dr ?_ | refine map_al ?_ _)) (fun hHeld => ?_)
                  clear hK K
                  try simp only [Act.put, List.setIfInBounds_toArray, List.set_cons_zero, List.set_cons_succ, List.getElem_toArray, List.getElem_cons_succ, List.getElem_cons_zero]
                  refine wpAnyH_ready (rs := [9]) (by kernel_rfl) (by simp) (AllReadyH.cons rfl (fun K hK => ?_) AllReadyH.nil)
                  go_simp
                  refine hK.out _ _ (by refine ⟨?_, ?_, ?_, ?_, ?_⟩ <;> repeat (first | exact c0 | exact c1 | exact c2 | exact c3 | exact hmo | refine cell_dr ?_ | refine cell_al ?_ _ | refine map_dr ?_ | refine map_al ?_ _)) (fun hHeld => ?_)
                  clear hK K
                  try simp only [Act.put, List.setIfInBounds_toArray, List.set_cons_zero, List.set_cons_succ, List.getElem_toArray, List.getElem_cons_succ, List.getElem_cons_zero]
                  refine wpAnyH_done (by kernel_rfl) ?_ _
                  go_wp2_with fail
                  go_meet
                  case rel =>
                    exact ⟨_, _, rfl, rfl, by repeat (first | (refine heap_at _ _ ?_; simp; done) | refine map_dr ?_ | refine map_al ?_ _), by repeat (first | (refine heap_at _ _ ?_; simp; done) | refine map_dr ?_ | refine map_al ?_ _), ((((((Below.refl wr.heap.size wr).alloc (Nat.le_refl _) _).alloc (by simp) _).alloc (by simp; omega) _).alloc (by simp; omega) _).alloc (by simp; omega) _).drew⟩
            · go_simp
              refine hK.out _ _ (by refine ⟨?_, ?_, ?_, ?_, ?_⟩ <;> repeat (first | exact c0 | exact c1 | exact c2 | exact c3 | exact hmo | refine cell_dr ?_ | refine cell_al ?_ _ | refine map_dr ?_ | refine map_al ?_ _)) (fun hHeld => ?_)
              clear hK K
              try simp only [Act.put, List.setIfInBounds_toArray, List.set_cons_zero, List.set_cons_succ, List.getElem_toArray, List.getElem_cons_succ, List.getElem_cons_zero]
              refine wpAnyH_ready (rs := [5, 6]) (by kernel_rfl) (by simp) (AllReadyH.cons rfl (fun K hK => ?_) (AllReadyH.cons rfl (fun K hK => ?_) AllReadyH.nil))
              · go_simp
                go_at_call 13
                refine (numbersOf_ex v0 v1 v2 v3 _).mono ?_
                rintro e w7 ⟨rfl, rfl⟩
                go_wp2_with fail
                refine hK.out _ _ (by refine ⟨?_, ?_, ?_, ?_, ?_⟩ <;> repeat (first | exact c0 | exact c1 | exact c2 | exact c3 | exact hmo | refine cell_dr ?_ | refine cell_al ?_ _ | refine map_dr ?_ | refine map_al ?_ _)) (fun hHeld => ?_)
                clear hK K
                try simp only [Act.put, List.setIfInBounds_toArray, List.set_cons_zero, List.set_cons_succ, List.getElem_toArray, List.getElem_cons_succ, List.getElem_cons_zero]
                refine wpAnyH_ready (rs := [6]) (by kernel_rfl) (by simp) (AllReadyH.cons rfl (fun K hK => ?_) AllReadyH.nil)
                · go_simp
                  refine hK.out _ _ (by refine ⟨?_, ?_, ?_, ?_, ?_⟩ <;> repeat (first | exact c0 | exact c1 | exact c2 | exact c3 | exact hmo | refine cell_dr ?_ | refine cell_al ?_ _ | refine map_dr ?_ | refine map_al ?_ _)) (fun hHeld => ?_)
                  clear hK K
                  try simp only [Act.put, List.setIfInBounds_toArray, List.set_cons_zero, List.set_cons_succ, List.getElem_toArray, List.getElem_cons_succ, List.getElem_cons_zero]
                  refine wpAnyH_ready (rs := [8]) (by kernel_rfl) (by simp) (AllReadyH.cons rfl (fun K hK => ?_) AllReadyH.nil)
                  go_simp
                  refine hK.out _ _ (by refine ⟨?_, ?_, ?_, ?_, ?_⟩ <;> repeat (first | exact c0 | exact c1 | exact c2 | exact c3 | exact hmo | refine cell_dr ?_ | refine cell_al ?_ _ | refine map_dr ?_ | refine map_al ?_ _)) (fun hHeld => ?_)
                  clear hK K
                  try simp only [Act.put, List.setIfInBounds_toArray, List.set_cons_zero, List.set_cons_succ, List.getElem_toArray, List.getElem_cons_succ, List.getElem_cons_zero]
                  refine wpAnyH_ready (rs := [9]) (by kernel_rfl) (by simp) (AllReadyH.cons rfl (fun K hK => ?_) AllReadyH.nil)
                  go_simp
                  refine hK.out _ _ (by refine ⟨?_, ?_, ?_, ?_, ?_⟩ <;> repeat (first | exact c0 | exact c1 | exact c2 | exact c3 | exact hmo | refine cell_dr ?_ | refine cell_al ?_ _ | refine map_dr ?_ | refine map_al ?_ _)) (fun hHeld => ?_)
                  clear hK K
                  try simp only [Act.put, List.setIfInBounds_toArray, List.set_cons_zero, List.set_cons_succ, List.getElem_toArray, List.getElem_cons_succ, List.getElem_cons_zero]
                  refine wpAnyH_done (by kernel_rfl) ?_ _
                  go_wp2_with fail
                  go_meet
                  case rel =>
                    exact ⟨_, _, rfl, rfl, by repeat (first | (refine heap_at _ _ ?_; simp; done) | refine map_dr ?_ | refine map_al ?_ _), by repeat (first | (refine heap_at _ _ ?_; simp; done) | refine map_dr ?_ | refine map_al ?_ _), ((((((Below.refl wr.heap.size wr).alloc (Nat.le_refl _) _).alloc (by simp) _).alloc (by simp; omega) _).alloc (by simp; omega) _).alloc (by simp; omega) _).drew⟩
              · go_simp
                refine hK.out _ _ (by refine ⟨?_, ?_, ?_, ?_, ?_⟩ <;> repeat (first | exact c0 | exact c1 | exact c2 | exact c3 | exact hmo | refine cell_dr ?_ | refine cell_al ?_ _ | refine map_dr ?_ | refine map_al ?_ _)) (fun hHeld => ?_)
                clear hK K
                try simp only [Act.put, List.setIfInBounds_toArray, List.set_cons_zero, List.set_cons_succ, List.getElem_toArray, List.getElem_cons_succ, List.getElem_cons_zero]
                refine wpAnyH_ready (rs := [5]) (by kernel_rfl) (by simp) (AllReadyH.cons rfl (fun K hK => ?_) AllReadyH.nil)
                · go_simp
                  go_at_call 13
                  refine (numbersOf_ex v0 v1 v2 v3 _).mono ?_
                  rintro e w7 ⟨rfl, rfl⟩
                  go_wp2_with fail
                  refine hK.out _ _ (by refine ⟨?_, ?_, ?_, ?_, ?_⟩ <;> repeat (first | exact c0 | exact c1 | exact c2 | exact c3 | exact hmo | refine cell_dr ?_ | refine cell_al ?_ _ | refine map_dr ?_ | refine map_al ?_ _)) (fun hHeld => ?_)
                  clear hK K
                  try simp only [Act.put, List.setIfInBounds_toArray, List.set_cons_zero, List.set_cons_succ, List.getElem_toArray, List.getElem_cons_succ, List.getElem_cons_zero]
                  refine wpAnyH_ready (rs := [8]) (by kernel_rfl) (by simp) (AllReadyH.cons rfl (fun K hK => ?_) AllReadyH.nil)
                  go_simp
                  refine hK.out _ _ (by refine ⟨?_, ?_, ?_, ?_, ?_⟩ <;> repeat (first | exact c0 | exact c1 | exact c2 | exact c3 | exact hmo | refine cell_dr ?_ | refine cell_al ?_ _ | refine map_dr ?_ | refine map_al ?_ _)) (fun hHeld => ?_)
                  clear hK K
                  try simp only [Act.put, List.setIfInBounds_toArray, List.set_cons_zero, List.set_cons_succ, List.getElem_toArray, List.getElem_cons_succ, List.getElem_cons_zero]
                  refine wpAnyH_ready (rs := [9]) (by kernel_rfl) (by simp) (AllReadyH.cons rfl (fun K hK => ?_) AllReadyH.nil)
                  go_simp
                  refine hK.out _ _ (by refine ⟨?_, ?_, ?_, ?_, ?_⟩ <;> repeat (first | exact c0 | exact c1 | exact c2 | exact c3 | exact hmo | refine cell_dr ?_ | refine cell_al ?_ _ | refine map_dr ?_ | refine map_al ?_ _)) (fun hHeld => ?_)
                  clear hK K
                  try simp only [Act.put, List.setIfInBounds_toArray, List.set_cons_zero, List.set_cons_succ, List.getElem_toArray, List.getElem_cons_succ, List.getElem_cons_zero]
                  refine wpAnyH_done (by kernel_rfl) ?_ _
                  go_wp2_with fail
                  go_meet
                  case rel =>
                    exact ⟨_, _, rfl, rfl, by repeat (first | (refine heap_at _ _ ?_; simp; done) | refine map_dr ?_ | refine map_al ?_ _), by repeat (first | (refine heap_at _ _ ?_; simp; done) | refine map_dr ?_ | refine map_al ?_ _), ((((((Below.refl wr.heap.size wr).alloc (Nat.le_refl _) _).alloc (by simp) _).alloc (by simp; omega) _).alloc (by simp; omega) _).alloc (by simp; omega) _).drew⟩
          case rest =>
            obtain ⟨sb, nb, rfl, rfl, hsb, hnb, hbc⟩ := hcut
            clear hmo L0 L1 L2 L3 L4 l0 c0 c1 c2 c3 x0 x1 x2 x3 HLK
            have hlc := hbc.size
            have hIc := isB_below hIi hbc
            have hTc : Typ w5 wc := hTi.trans (Typ.of_below hbc)
            have hBc : Below b W2 wc := hBi.trans (hbc.mono (by omega))
            have hPc := pow_stays hTW hBc (by omega)
            have q0 : wc.cell? ⟨sb, 0, none⟩ = some (.string NV) := by rw [Lib.cell_of_heap hsb]; rfl
            have q1 : wc.cell? ⟨sb, 1, none⟩ = some (.int .i64 kx) := by rw [Lib.cell_of_heap hsb]; rfl
            have q2 : wc.cell? ⟨sb, 2, none⟩ = some (.int .i64 ky) := by rw [Lib.cell_of_heap hsb]; rfl
            have q3 : wc.cell? ⟨sb, 3, none⟩ = some (.int .i64 kz) := by rw [Lib.cell_of_heap hsb]; rfl
            have hsl : sb < wc.heap.size := heap_lt hsb
            have hnl : nb < wc.heap.size := heap_lt hnb
            have hcn3 : (cn : Int) ≤ 3 := by have := HK3.out; omega
            have hcn0 : (0 : Int) ≤ (cn : Int) := by omega
            have HLL : Hid ((headT words lk rg ++ codeT L X k ++ lineT [116, 104, 114, 101, 97, 100] [] ++ bodyT (X k) j).length + (lineT NV.data.toList ([v1, v2, v3].take cn)).length ≤ 1000000) := by
              have a := HCL.out
              have d := HBL.out
              have o := ordT_len (v0, v1, v2, v3) HXV.out
              rw [HOT.out] at o
              have e : (lineT [116, 104, 114, 101, 97, 100] []).length = 7 := by decide
              show _ ≤ _
              rw [List.length_append, List.length_append, e]
              omega
            have HWL : ∀ W, IsB b b (headT words lk rg ++ codeT L X k ++ lineT [116, 104, 114, 101, 97, 100] [] ++ bodyT (X k) j) W → b ≤ W.heap.size → Pow W → W.heap[nb]? = some (.cells #[.int .i64 v1, .int .i64 v2, .int .i64 v3] 52) → Calls Tryz.prog 11 #[.pointer (some ⟨b, 0, none⟩), .string NV, .slice (some ⟨nb, 0, none⟩) cn 3] W fun e w' => e = .returned (.tuple #[]) ∧ IsB b b (headT words lk rg ++ codeT L X k ++ lineT [116, 104, 114, 101, 97, 100] [] ++ bodyT (X k) j ++ lineT NV.data.toList ([v1, v2, v3].take cn)) w' ∧ Below b W w' ∧ Typ W w' := fun W h1 h2 h3 h4 => by
              have := writeLine_any b b (by omega) _ NV (some ⟨nb, 0, none⟩) 3 ([v1, v2, v3].take cn) W h1 h2 h3 (iat_three h4 HK3.out) (fun v hv => by
                have := List.mem_of_mem_take hv
                simp at this
                rcases this with rfl | rfl | rfl
                · exact HXV.out.1
                · exact HXV.out.2.1
                · exact HXV.out.2.2) HLL.out (by rw [take3_len _ _ _ HK3.out]; omega)
              rw [take3_len _ _ _ HK3.out] at this
              exact this
            clear HXV HBL HLL
            go_wp2_with fail
            go_region_held3 (fun w' => w'.cell? ⟨sb, 0, none⟩ = some (.string NV) ∧ w'.cell? ⟨sb, 1, none⟩ = some (.int .i64 kx) ∧ w'.cell? ⟨sb, 2, none⟩ = some (.int .i64 ky) ∧ w'.cell? ⟨sb, 3, none⟩ = some (.int .i64 kz)) (refine ⟨?_, ?_, ?_, ?_⟩ <;> (first | assumption | (refine cell_dr ?_; assumption))) (first | (go_at_call 14; refine (count_any NV kx ky kz cn HCNT _).mono ?_; rintro e w8 ⟨rfl, hb8⟩; have k0 : w8.cell? ⟨sb, 0, none⟩ = some (.string NV) := (hb8.cell (p := ⟨sb, 0, none⟩) hsl).trans q0; have k1 : w8.cell? ⟨sb, 1, none⟩ = some (.int .i64 kx) := (hb8.cell (p := ⟨sb, 1, none⟩) hsl).trans q1; have k2 : w8.cell? ⟨sb, 2, none⟩ = some (.int .i64 ky) := (hb8.cell (p := ⟨sb, 2, none⟩) hsl).trans q2; have k3 : w8.cell? ⟨sb, 3, none⟩ = some (.int .i64 kz) := (hb8.cell (p := ⟨sb, 3, none⟩) hsl).trans q3; have hb8' : Below wc.heap.size wc w8 := (Below.refl wc.heap.size wc).drew.trans hb8; have hl8 := hb8'.size; have h8 := isB_below hIc hb8'; have hP8 := pow_stays hPc hb8' (by omega); have hn8 := (hb8'.block nb hnl).trans hnb; have hs8 := (hb8'.block sb hsl).trans hsb) | (go_at_call 11; refine (HWL w8 h8 (by omega) hP8 hn8).mono ?_; rintro e w9 ⟨rfl, h9, hb9, ht9⟩; have e9 := ht9 sb _ hs8 (oth_cells (by decide) (by decide)); have m0 := (World.cell?_of_block (w := w8) (a := ⟨sb, 0, none⟩) e9).trans k0; have m1 := (World.cell?_of_block (w := w8) (a := ⟨sb, 1, none⟩) e9).trans k1; have m2 := (World.cell?_of_block (w := w8) (a := ⟨sb, 2, none⟩) e9).trans k2; have m3 := (World.cell?_of_block (w := w8) (a := ⟨sb, 3, none⟩) e9).trans k3))
            go_wp2_with fail
            go_roundw
            case rel =>
              refine ⟨j + 1, by omega, by go_num, ?_, (hBc.trans (hb8'.mono (by omega))).trans hb9, (hTc.trans (Typ.of_below hb8')).trans ht9⟩
              rw [HBT.out, HOT.out, ← List.append_assoc]
              exact h9
            case measure => simp [intOf]; omega
        · have hjL : j = L k := by omega
          subst hjL
          go_wp2_with fail
          go_roundw
          case rel =>
            refine ⟨k + 1, by omega, by go_num, ?_, hBi, hTi⟩
            have e : codeT L X (k + 1) = codeT L X k ++ thrT (L k) (X k) := range_flat k
            rw [e]
            simpa [thrT] using hIi
          case measure => simp [intOf]; omega
    · have hkn : k = n := by omega
      subst hkn
      have r0' := (hBr.cell (p := ⟨w.heap.size + 1, 0, none⟩) (by show w.heap.size + 1 < b; omega)).trans r0
      have r1' := (hBr.cell (p := ⟨w.heap.size + 1, 1, none⟩) (by show w.heap.size + 1 < b; omega)).trans r1
      have r2' := (hBr.cell (p := ⟨w.heap.size + 1, 2, none⟩) (by show w.heap.size + 1 < b; omega)).trans r2
      have rf' := fun i => (hBr.frozen (p := ⟨w.heap.size + 1, i, none⟩) (by show w.heap.size + 1 < b; omega)).trans (rf i)
      clear r0 r1 r2 rf
      go_wp2_with (first | (go_at_call 15; refine (Tryz.Builder_String_any b b _ _ hIr (by omega)).mono ?_; rintro e w9 ⟨rfl, hb9⟩; have s0 := (hb9.cell (p := ⟨w.heap.size + 1, 0, none⟩) (by show w.heap.size + 1 < b; omega)).trans r0'; have s1 := (hb9.cell (p := ⟨w.heap.size + 1, 1, none⟩) (by show w.heap.size + 1 < b; omega)).trans r1'; have s2 := (hb9.cell (p := ⟨w.heap.size + 1, 2, none⟩) (by show w.heap.size + 1 < b; omega)).trans r2'; have sf := fun i => (hb9.frozen (p := ⟨w.heap.size + 1, i, none⟩) (by show w.heap.size + 1 < b; omega)).trans (rf' i)))
      refine bodyPost_ret (v := .tuple #[.string ⟨(textF k L X words lk rg).toArray⟩, ints3 0 0 0]) (by simp [results, Tryz.results5, go_sem, s0, s1, s2, textF]) rfl ⟨rfl, ?_⟩
      have h9 : Below w.heap.size w w9 := (hbW.trans (hBr.mono (by omega))).trans (hb9.mono (by omega))
      exact ((h9.setCell (Nat.le_succ _) _).setCell (Nat.le_succ _) _).setCell (Nat.le_succ _) _

end Go.Proofs.YthbebnegmenejaaGreatDoor
