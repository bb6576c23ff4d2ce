/-
  Orders that nobody needs, taken away by the document.
-/
import Derived.Test.YtkailbdjilkneaaDoorOPut
import Derived.Test.YtkailbdjilkneaaDoorZFP
import Derived.Test.YtkailbdjilkneaaDoorLivI
import Derived.Test.YtkailbdjilkneaaDoorOptA
import Derived.Test.YtkailbdjilkneaaDoorOptDb
import Derived.Deep.RegionHeld3
import Derived.BigQuiet
namespace Go.Proofs.YtkailbdjilkneaaDoor
open Go.RowKit

theorem own_high {W : World} {x : I4} {o : Obj} : OwnC (((W.alloc o).alloc (ordO x))) W.heap.size (.slice (some ⟨W.heap.size + 1, 0, none⟩) 1 1) [x] ∧ Below W.heap.size W ((W.alloc o).alloc (ordO x)) := by
  have h := own_one (W.alloc o) x
  rw [World.size_alloc] at h
  exact ⟨own_low h.1 (by omega), ((Below.refl _ _).alloc (Nat.le_refl _) _).trans (h.2.mono (by omega))⟩

theorem size_drewN2 (w : World) (o o' : Obj) (k : Nat) : (((w.alloc o).alloc o').drewN k).heap.size = w.heap.size + 1 + 1 := by
  show ((w.alloc o).alloc o').heap.size = _
  simp
attribute [local go_sem ↓] appS_eq in
set_option maxRecDepth 100000 in
set_option maxHeartbeats 3200000 in
theorem rdead_any (w : World) (ca : Option Addr) (n cc : Nat) (wa : Option Addr) (words : List Int) (wc lk rg : Nat) (A : Nat → Option Addr) (L C : Nat → Nat) (X : Nat → Nat → Nat → Int) (hp : PIn w ca n A L C X) (hw : SIs w wa words) (hc : COk n L X words.length lk rg) :
    Calls Tryd.prog 15 #[prgV ca n cc wa words.length wc lk rg] w (fun e w' => ∃ D : Nat → Nat → Bool, (∀ t i, t < n → i < L t → (D t i = true ↔ deadO (X t) (L t) i)) ∧ NewQ w n words lk rg (bLess D X) L e w') := by
  obtain ⟨D, hD⟩ : ∃ D : Nat → Nat → Bool, ∀ t i, D t i = true ↔ deadO (X t) (L t) i := by
    classical exact ⟨fun t i => decide (deadO (X t) (L t) i), fun t i => by simp⟩
  obtain ⟨b, hb⟩ : ∃ b : Nat → Nat → List I4, b = bLess D X := ⟨_, rfl⟩
  obtain ⟨PB, hPB⟩ : ∃ o : Obj, o = .cells #[.slice ca n cc, .slice wa words.length wc, .int .i64 lk, .int .i64 rg] 25 := ⟨_, rfl⟩
  obtain ⟨RB, hRB⟩ : ∃ o : Obj, o = .cells #[nilV, nilV, .int .i64 0, .int .i64 0] 25 := ⟨_, rfl⟩
  obtain ⟨g1, cap1, w1, hrun1, hq1, hR1⟩ := new_start w PB RB wa words wc lk rg hw hc.m64 b L
  have hbS : Below w.heap.size w ((w.alloc PB).alloc RB) := ((Below.refl _ _).alloc (Nat.le_refl _) _).alloc (by simp) _
  have hpS : ((w.alloc PB).alloc RB).heap[w.heap.size]? = some PB := box_later (heap_alloc_new _ _) _
  have hrS : ((w.alloc PB).alloc RB).heap[w.heap.size + 1]? = some RB := by have := heap_alloc_new (w.alloc PB) RB; simpa using this
  obtain ⟨S, hS⟩ : ∃ V, (w.alloc PB).alloc RB = V := ⟨_, rfl⟩
  have hSs : S.heap.size = w.heap.size + 1 + 1 := by rw [← hS]; simp
  rw [hS] at hbS hpS hrS hR1
  have HAT : Hid (∀ V, Below S.heap.size S V → Below w.heap.size w V ∧ V.heap[w.heap.size]? = some (.cells #[.slice ca n cc, .slice wa words.length wc, .int .i64 lk, .int .i64 rg] 25) ∧ V.heap[w.heap.size + 1]? = some (.cells #[nilV, nilV, .int .i64 0, .int .i64 0] 25)) := fun V hV => by
    rw [hPB] at hpS
    rw [hRB] at hrS
    exact ⟨hbS.trans (hV.mono hbS.size), (hV.block _ (box_lt hpS)).trans hpS, (hV.block _ (box_lt hrS)).trans hrS⟩
  have HB : Hid (b = bLess D X) := hb
  have HR1 := Hid.out (p := Hid _) hR1
  have HPR : Hid (PIn w ca n A L C X ∧ COk n L X words.length lk rg) := ⟨hp, hc⟩
  have hn4 := hc.n4
  have HWY := Hid.out (p := Hid _) hD
  refine Calls.mono (R := NewQ w n words lk rg b L) ?_ fun e w' h => ⟨D, fun t i _ _ => HWY.out t i, by rw [← hb]; exact h⟩
  have c1 := box_cell (i := 1) hq1 rfl
  have cf : ∀ i, w1.frozen? ⟨w.heap.size + 1 + 1, i, none⟩ = false := fun i => box_free hq1
  obtain ⟨mw, hmw⟩ : ∃ k, words.length = k := ⟨_, rfl⟩
  have HML : Hid (words.length = mw) := hmw
  rw [hmw] at HAT HR1
  rw [hPB, hRB, hmw] at hrun1
  simp only [nilV] at hrun1 c1
  rw [hmw]
  clear hD hb hPB hRB hbS hpS hrS hS hR1 hp hw hc hq1 hmw
  go_enter Tryd.func15, Tryd.ntmps15
  go_wp2
  obtain ⟨W, hW⟩ : ∃ V, w1.setCell ⟨w.heap.size + 1 + 1, 1, none⟩ (.slice (some ⟨g1, 0, none⟩) mw cap1) = V := ⟨_, rfl⟩
  rw [hW] at HR1
  rw [hW]
  clear hW hrun1 c1 cf
  obtain ⟨qb, hqb⟩ : ∃ q, w.heap.size + 1 + 1 = q := ⟨_, rfl⟩
  have HQB : Hid (w.heap.size + 1 + 1 = qb) := hqb
  rw [hqb] at HR1
  rw [hqb]
  clear hqb
  go_loopw [4] (fun i wr => ∃ (k : Nat) (va : Option Addr) (vc : Nat) (tv : List Value), k ≤ n ∧ i = .int .i64 k ∧ Hid (RwI S qb (.slice (some ⟨g1, 0, none⟩) mw cap1) words lk rg b L k wr (.slice va k vc) tv)) (fun i _ => n - (intOf i).toNat)
  case atStart => exact ⟨0, none, 0, [], Nat.zero_le _, rfl, HR1⟩
  case round =>
    obtain ⟨k, va, vc, tv, hk, rfl, HL⟩ := hrel
    clear HR1
    obtain ⟨hwr, hpb, hrb⟩ := HAT.out wr HL.out.low
    have p0 := box_cell (i := 0) hpb rfl
    by_cases hlt : k < n
    · obtain ⟨cb, co, rfl, hcell⟩ := (HPR.out.1.below hwr).code k hlt
      have HRW := Hid.out (p := Hid _) hwr
      obtain ⟨l, hl⟩ : ∃ l, L k = l := ⟨_, rfl⟩
      have hl4 : l ≤ 1000 := by rw [← hl]; exact HPR.out.2.L4 k hlt
      have HLK : Hid (L k = l) := hl
      rw [hl] at hcell
      obtain ⟨ak, hak⟩ : ∃ a, A k = a := ⟨_, rfl⟩
      rw [hak] at hcell
      have hrg200 : rg ≤ 200 := HPR.out.2.rg2
      have HOK : Hid (∀ j, j < l → ordE rg words.length lk l (X k j 0) (X k j 1) (X k j 2) (X k j 3) = 0) := fun j hj => by
        have := HPR.out.2.ord k j hlt (by rw [hl]; exact hj)
        rw [hl] at this
        exact this
      have hordW : ∀ V, Below w.heap.size w V → ∀ j, j < l → ∃ ab ao, ak = some ⟨ab, ao, none⟩ ∧ V.cell? ⟨ab, ao + j * 4, none⟩ = some (.int .i64 (X k j 0)) ∧ V.cell? ⟨ab, ao + j * 4 + 1, none⟩ = some (.int .i64 (X k j 1)) ∧ V.cell? ⟨ab, ao + j * 4 + 2, none⟩ = some (.int .i64 (X k j 2)) ∧ V.cell? ⟨ab, ao + j * 4 + 3, none⟩ = some (.int .i64 (X k j 3)) := fun V hV j hj => by
        obtain ⟨ab, ao, e1, c⟩ := (HPR.out.1.below hV).ord k j hlt (by rw [hl]; exact hj)
        exact ⟨ab, ao, by rw [← hak, e1], c⟩
      have p3 := box_cell (i := 3) hpb rfl
      have HST : Hid (Calls Tryd.prog 41 #[.slice ak l (C k), .int .i64 rg] wr fun e w' => ∃ g, e = .returned (.slice (some ⟨g, 0, none⟩) (l + 1) (l + 1)) ∧ Hid (Below wr.heap.size wr w' ∧ ∃ (G : Nat → Nat) (B : Nat → Nat → Bool), (∀ i q, i ≤ l → q < rg → (B i q = true ↔ Lv (X k) l q i)) ∧ ∀ V, Below w'.heap.size w' V → ∀ j, j < l → ∃ ab ao, ak = some ⟨ab, ao, none⟩ ∧ V.cell? ⟨ab, ao + j * 4, none⟩ = some (.int .i64 (X k j 0)) ∧ V.cell? ⟨ab, ao + j * 4 + 1, none⟩ = some (.int .i64 (X k j 1)) ∧ V.cell? ⟨ab, ao + j * 4 + 2, none⟩ = some (.int .i64 (X k j 2)) ∧ V.cell? ⟨ab, ao + j * 4 + 3, none⟩ = some (.int .i64 (X k j 3)) ∧ V.cell? ⟨g, j + 1, none⟩ = some (.slice (some ⟨G (j + 1), 0, none⟩) rg rg) ∧ ∀ q, q < rg → V.cell? ⟨G (j + 1), q, none⟩ = some (.bool (B (j + 1) q)))) := by
        refine Calls.mono (rsets_any wr ak l (C k) (X k) rg words.length lk hl4 hrg200 (fun i hi => ?_) (fun i hi => HOK.out i hi)) ?_
        · exact hordW wr hwr i hi
        · rintro e w' ⟨g, G, P, rfl, hG, hB⟩
          have hb := hG.low
          refine ⟨g, rfl, hb, G, fun i q => (P i).getD q false, hB, fun V hV j hj => ?_⟩
          have hV' : Below wr.heap.size wr V := hb.trans (hV.mono hb.size)
          obtain ⟨ab, ao, e, c0, c1, c2, c3⟩ := hordW V (hwr.trans (hV'.mono hwr.size)) j hj
          exact ⟨ab, ao, e, c0, c1, c2, c3, (hG.below hV).at (i := j + 1) (by omega), fun q hq => (hG.below hV).cell (i := j + 1) (by omega) hq⟩
      clear hordW hpb hrb hwr hl hak
      go_wp2_with fail
      refine Calls.mono HST.out ?_
      rintro e w5 ⟨gm, rfl, H5⟩
      obtain ⟨hb5, G, B, hBL, hIN⟩ := H5.out
      have HIN := Hid.out (p := Hid _) hIN
      have HBL := Hid.out (p := Hid _) hBL
      have HB5 := Hid.out (p := Hid _) hb5
      clear HST H5 hcell p0 p3 hb5 hIN hBL
      go_wp2
      obtain ⟨T, rfl⟩ : ∃ V, V = w5 := ⟨_, rfl⟩
      go_loopw [7, 8] (fun bv iv wi => ∃ (j : Nat) (ba : Option Addr) (bc : Nat) (tw : List Value), j ≤ l ∧ iv = .int .i64 j ∧ bv = .slice ba j bc ∧ Hid (BeI T (b k) j wi (.slice ba j bc) tw)) (fun _ iv _ => l - (intOf iv).toNat)
      case atStart => exact ⟨0, none, 0, [], Nat.zero_le _, rfl, rfl, BeI.start _ _⟩
      case round =>
        obtain ⟨j, ba, bc, tw, hj, rfl, rfl, HI⟩ := hrel
        by_cases hjl : j < l
        · obtain ⟨ab, ao, rfl, c0, c1, c2, c3, d1, d2⟩ := HIN.out wr HI.out.low j hjl
          have hjI : (j : Int) < (l : Int) := by omega
          have hjJ : (j : Int) + 1 < (l : Int) + 1 := by omega
          have hod := HOK.out j hjl
          have hdd : D k j = true ↔ deadO (X k) (L k) j := HWY.out k j
          rw [HLK.out] at hdd
          have hbj0 : b k j = bDrop (D k j) (ordAt X k j) := by rw [HB.out]; rfl
          obtain ⟨x0, e0⟩ : ∃ x, X k j 0 = x := ⟨_, rfl⟩
          obtain ⟨x1, e1⟩ : ∃ x, X k j 1 = x := ⟨_, rfl⟩
          obtain ⟨x2, e2⟩ : ∃ x, X k j 2 = x := ⟨_, rfl⟩
          obtain ⟨x3, e3⟩ : ∃ x, X k j 3 = x := ⟨_, rfl⟩
          have hord : ordAt X k j = (x0, x1, x2, x3) := by unfold ordAt; rw [e0, e1, e2, e3]
          have hdx : deadO (X k) l j ↔ (1 ≤ x0 ∧ x0 ≤ 8) ∧ ∀ r : Nat, x1 = (r : Int) → ¬ Lv (X k) l r (j + 1) := by unfold deadO; rw [e0, e1]
          rw [e0] at c0; rw [e1] at c1; rw [e2] at c2; rw [e3] at c3
          rw [hord] at hbj0
          rw [e0, e1, e2, e3] at hod
          clear e0 e1 e2 e3 hord
          have HRK : Hid (∀ V, Calls Tryd.prog 38 #[.int .i64 x0] V fun e w' => e = .returned (.bool (decide (1 ≤ x0) && decide (x0 ≤ 7))) ∧ w' = V) := fun V => rreck_any V x0
          obtain ⟨ho3, hb3⟩ := own_high (W := wr) (x := (x0, x1, x2, x3)) (o := ordO (x0, x1, x2, x3))
          have i0 : ((wr.alloc (ordO (x0, x1, x2, x3))).alloc (ordO (x0, x1, x2, x3))).cell? ⟨wr.heap.size, 0, none⟩ = some (.int .i64 x0) := cell_up (box_cell (heap_alloc_new _ _) rfl) _
          have i1 : ((wr.alloc (ordO (x0, x1, x2, x3))).alloc (ordO (x0, x1, x2, x3))).cell? ⟨wr.heap.size, 1, none⟩ = some (.int .i64 x1) := cell_up (box_cell (heap_alloc_new _ _) rfl) _
          simp only [ordO] at ho3 hb3 i0 i1
          go_wp2_with fail
          refine Calls.mono (HRK.out _) ?_
          rintro e w6 ⟨rfl, rfl⟩
          clear HRK
          by_cases h8 : 1 ≤ x0 ∧ x0 ≤ 8
          · obtain ⟨hq0, hq1⟩ := ok_low hod h8
            obtain ⟨q, rfl⟩ : ∃ q : Nat, x1 = q := ⟨x1.toNat, by omega⟩
            have hqr : q < rg := by omega
            have hqI : (q : Int) < (rg : Int) := by omega
            have d3 := d2 q hqr
            have hbl := HBL.out (j + 1) q (by omega) hqr
            obtain ⟨sb, hsb⟩ : ∃ x, B (j + 1) q = x := ⟨_, rfl⟩
            rw [hsb] at d3 hbl
            have hdk : D k j = !sb := by
              rw [Bool.eq_iff_iff, hdd, hdx]
              constructor
              · rintro ⟨_, h⟩
                cases sb with
                | false => rfl
                | true => exact absurd (hbl.1 rfl) (h q rfl)
              · intro h
                refine ⟨h8, fun r hr hl => ?_⟩
                obtain rfl : q = r := by omega
                rw [hbl.2 hl] at h
                cases h
            rw [hdk] at hbj0
            have d1u := fun o o' => cell_up (cell_up d1 o) o'
            have d3u := fun o o' => cell_up (cell_up d3 o) o'
            clear hdk hdx hdd hbl hsb hod d2 hq0 hq1 c0 c1 c2 c3
            by_cases h7 : x0 ≤ 7
            · have hrb : (decide (1 ≤ x0) && decide (x0 ≤ 7)) = true := by simp [h8.1, h7]
              rw [hrb]
              clear h8 h7 hrb
              cases sb with
              | true =>
                have hbj : b k j = [(x0, (q : Int), x2, x3)] := by rw [hbj0]; rfl
                clear hbj0
                go_wp2_with fail
                go_quiet (fail)
                obtain ⟨g4, cap4, w4, hrun4, hI4⟩ := HI.out.push (V := (((wr.alloc (ordO (x0, (q : Int), x2, x3))).alloc (ordO (x0, (q : Int), x2, x3)))).drewN nq) (below_drewN hb3) (v := .slice (some ⟨wr.heap.size + 1, 0, none⟩) 1 1) (by rw [hbj]; exact ho3.below (below_drewN (Below.refl _ _))) (by omega)
                have HI4 := Hid.out (p := Hid _) hI4
                clear ho3 hb3 hI4 hbj
                rw [size_drewN2] at hrun4
                simp only [ordO] at hrun4
                go_wp2_with fail
                go_roundw
                case rel => exact ⟨j + 1, _, _, _, by omega, by go_num, rfl, HI4⟩
                case measure => simp [intOf]; omega
              | false =>
                have hbj : b k j = [] := by rw [hbj0]; rfl
                clear hbj0
                go_wp2_with fail
                go_quiet (fail)
                obtain ⟨g4, cap4, w4, hrun4, hI4⟩ := HI.out.push (V := (((wr.alloc (ordO (x0, (q : Int), x2, x3))).alloc (ordO (x0, (q : Int), x2, x3)))).drewN nq) (below_drewN hb3) (v := nilV) (by rw [hbj]; exact World.ownsRow_nil _ _ _ _) (by omega)
                have HI4 := Hid.out (p := Hid _) hI4
                clear ho3 hb3 hI4 hbj
                rw [size_drewN2] at hrun4
                simp only [ordO, nilV] at hrun4
                go_wp2_with fail
                go_roundw
                case rel => exact ⟨j + 1, _, _, _, by omega, by go_num, rfl, HI4⟩
                case measure => simp [intOf]; omega
            · obtain rfl : x0 = 8 := by omega
              have hrb : (decide ((1 : Int) ≤ 8) && decide ((8 : Int) ≤ 7)) = false := by decide
              rw [hrb]
              clear h8 h7 hrb
              cases sb with
              | true =>
                have hbj : b k j = [(8, (q : Int), x2, x3)] := by rw [hbj0]; rfl
                clear hbj0
                go_wp2_with fail
                go_quiet (fail)
                obtain ⟨g4, cap4, w4, hrun4, hI4⟩ := HI.out.push (V := (((wr.alloc (ordO (8, (q : Int), x2, x3))).alloc (ordO (8, (q : Int), x2, x3)))).drewN nq) (below_drewN hb3) (v := .slice (some ⟨wr.heap.size + 1, 0, none⟩) 1 1) (by rw [hbj]; exact ho3.below (below_drewN (Below.refl _ _))) (by omega)
                have HI4 := Hid.out (p := Hid _) hI4
                clear ho3 hb3 hI4 hbj
                rw [size_drewN2] at hrun4
                simp only [ordO] at hrun4
                go_wp2_with fail
                go_roundw
                case rel => exact ⟨j + 1, _, _, _, by omega, by go_num, rfl, HI4⟩
                case measure => simp [intOf]; omega
              | false =>
                have hbj : b k j = [] := by rw [hbj0]; rfl
                clear hbj0
                go_wp2_with fail
                go_quiet (fail)
                obtain ⟨g4, cap4, w4, hrun4, hI4⟩ := HI.out.push (V := (((wr.alloc (ordO (8, (q : Int), x2, x3))).alloc (ordO (8, (q : Int), x2, x3)))).drewN nq) (below_drewN hb3) (v := nilV) (by rw [hbj]; exact World.ownsRow_nil _ _ _ _) (by omega)
                have HI4 := Hid.out (p := Hid _) hI4
                clear ho3 hb3 hI4 hbj
                rw [size_drewN2] at hrun4
                simp only [ordO, nilV] at hrun4
                go_wp2_with fail
                go_roundw
                case rel => exact ⟨j + 1, _, _, _, by omega, by go_num, rfl, HI4⟩
                case measure => simp [intOf]; omega
          · have hdk : D k j = false := by
              rw [Bool.eq_false_iff]
              intro h
              exact h8 (hdx.1 (hdd.1 h)).1
            rw [hdk] at hbj0
            have hbj : b k j = [(x0, x1, x2, x3)] := by rw [hbj0]; rfl
            have hrb : (decide (1 ≤ x0) && decide (x0 ≤ 7)) = false := by
              rw [Bool.eq_false_iff]
              intro h
              simp only [Bool.and_eq_true, decide_eq_true_eq] at h
              omega
            rw [hrb]
            have h8' : (x0 == 8) = false := by simp; omega
            clear hdk hdx hdd hod d1 d2 c0 c1 c2 c3 hbj0 h8 hrb
            go_wp2_with fail
            go_quiet (fail)
            obtain ⟨g4, cap4, w4, hrun4, hI4⟩ := HI.out.push (V := (((wr.alloc (ordO (x0, x1, x2, x3))).alloc (ordO (x0, x1, x2, x3)))).drewN nq) (below_drewN hb3) (v := .slice (some ⟨wr.heap.size + 1, 0, none⟩) 1 1) (by rw [hbj]; exact ho3.below (below_drewN (Below.refl _ _))) (by omega)
            have HI4 := Hid.out (p := Hid _) hI4
            clear ho3 hb3 hI4 hbj
            rw [size_drewN2] at hrun4
            simp only [ordO] at hrun4
            go_wp2_with fail
            go_roundw
            case rel => exact ⟨j + 1, _, _, _, by omega, by go_num, rfl, HI4⟩
            case measure => simp [intOf]; omega
        · have hjl' : j = l := by omega
          subst hjl'
          have hword : Hid (Calls Tryd.prog 40 #[.slice ba j bc, .slice ak j (C k)] wr fun e w' => ∃ v, e = .returned v ∧ OwnC w' wr.heap.size v (codeR (b k) (L k)) ∧ Below wr.heap.size wr w') := by
            rw [HLK.out]
            refine put6_gen wr ba bc ak j (C k) (b k) (X k) hl4 HI.out.be (fun i hi => ?_) (fun i hi => ?_) (fun i x hi hx => ?_)
            · obtain ⟨ab, ao, e, c0, _⟩ := HIN.out wr HI.out.low i hi
              exact ⟨ab, ao, e, c0⟩
            · rw [HB.out]
              show (bDrop _ _).length ≤ 2
              unfold bDrop
              split <;> simp
            · rw [HB.out] at hx
              have hx' := bLess_in _ _ _ _ _ hx
              have h1 := new_led HPR.out.2 hlt (by rw [HLK.out]; exact hi) hx'
              rw [HLK.out] at h1
              rcases hx' with rfl | rfl
              · exact ⟨fun e => ⟨Or.inl e, h1.2.1 e⟩, fun e => ⟨e, h1.2.2 e⟩⟩
              · exact ⟨fun e => by simp [fenceI] at e, fun e => by simp [fenceI] at e⟩
          go_wp2_with fail
          refine Calls.mono hword.out ?_
          rintro e w7 ⟨v7, rfl, ho7, hb7⟩
          obtain ⟨a7, c7, rfl⟩ := fam_form ho7
          have hb5' := HB5.out.trans (HI.out.low.mono HB5.out.size)
          have hb7' := hb5'.trans (hb7.mono hb5'.size)
          obtain ⟨g8, cap8, w8, hrun8, hbx8, hb8, hR8⟩ := HL.out.push hb7' hb5'.size ho7 (by omega)
          have hbx7 := (hb7'.block qb (box_lt HL.out.box)).trans HL.out.box
          have y0 := box_cell (i := 0) hbx7 rfl
          have y8 := box_cell (i := 0) hbx8 rfl
          have yf8 : w8.frozen? ⟨qb, 0, none⟩ = false := box_free hbx8
          have HR8 := Hid.out (p := Hid _) hR8
          obtain ⟨l7, hl7⟩ : ∃ x, (codeR (b k) (L k)).length = x := ⟨_, rfl⟩
          rw [hl7] at hrun8 HR8
          rw [hl7]
          clear hl7 ho7 hb7 hb7' hb5' hbx8 hb8 hR8 hbx7 hword
          go_wp2_with fail
          go_roundw
          case rel => exact ⟨k + 1, _, _, _, by omega, by go_num, HR8⟩
          case measure => simp [intOf]; omega
    · have hkn : k = n := by omega
      subst hkn
      have y0 := box_cell (i := 0) HL.out.box rfl
      have y1 := box_cell (i := 1) HL.out.box rfl
      have y2 := box_cell (i := 2) HL.out.box rfl
      have y3 := box_cell (i := 3) HL.out.box rfl
      have z0 := box_cell (i := 0) hrb rfl
      have z1 := box_cell (i := 1) hrb rfl
      have z2 := box_cell (i := 2) hrb rfl
      have z3 := box_cell (i := 3) hrb rfl
      have zf : ∀ i, wr.frozen? ⟨w.heap.size + 1, i, none⟩ = false := fun i => box_free hrb
      have hsz : w.heap.size + 1 < wr.heap.size := box_lt hrb
      have hlt1 : w.heap.size + 1 < S.heap.size := by omega
      have HWW := Hid.out (p := Hid _) hwr
      clear hrb hpb hwr HAT HPR HB
      go_wp2
      refine bodyPost_ret (v := .agg #[.slice va k vc, .slice (some ⟨g1, 0, none⟩) mw cap1, .int .i64 lk, .int .i64 rg]) (by simp [results, Tryd.results15, go_sem, z0, z1, z2, z3]) rfl ?_
      have h1 := HL.out
      have hset : ∀ {e : TypeId} {size : Nat} {v : Value} {n : Nat} {xs : List Value}, wr.ownsRow S.heap.size e size v n xs → ((((wr.setCell ⟨w.heap.size + 1, 0, none⟩ (.slice va k vc)).setCell ⟨w.heap.size + 1, 1, none⟩ (.slice (some ⟨g1, 0, none⟩) mw cap1)).setCell ⟨w.heap.size + 1, 2, none⟩ (.int .i64 lk)).setCell ⟨w.heap.size + 1, 3, none⟩ (.int .i64 rg)).ownsRow w.heap.size e size v n xs := fun h => own_low (ownsRow_setCell_below (ownsRow_setCell_below (ownsRow_setCell_below (ownsRow_setCell_below h hlt1 _) hlt1 _) hlt1 _) hlt1 _) (by omega)
      have hw1 : w.heap.size ≤ w.heap.size + 1 := by omega
      refine ⟨va, vc, some ⟨g1, 0, none⟩, cap1, tv, by rw [HML.out], hset h1.code, fun t ht => hset (h1.thr t ht).1, ?_, (((HWW.out.setCell hw1 _).setCell hw1 _).setCell hw1 _).setCell hw1 _⟩
      have := hset h1.words
      rw [HML.out] at this ⊢
      exact this

end Go.Proofs.YtkailbdjilkneaaDoor
