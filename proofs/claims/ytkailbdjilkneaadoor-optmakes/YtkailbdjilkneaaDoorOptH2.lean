/-
  Numbers that always are what they are, by the document.
-/
import Derived.Test.YtkailbdjilkneaaDoorOptH1
import Derived.Test.YtkailbdjilkneaaDoorOptG1
import Derived.Test.YtkailbdjilkneaaDoorFenN
namespace Go.Proofs.YtkailbdjilkneaaDoor
open Go.RowKit

attribute [local go_sem ↓] appS_eq in
set_option maxRecDepth 100000 in
set_option maxHeartbeats 6400000 in
theorem rconst_any (w : World) (ca : Option Addr) (n cc : Nat) (wa : Option Addr) (words : List Int) (wc0 lk rg : Nat) (A : Nat → Option Addr) (L C : Nat → Nat) (X : Nat → Nat → Nat → Int) (hp : PIn w ca n A L C X) (hw : SIs w wa words) (hc : COk n L X words.length lk rg) :
    Calls Tryd.prog 14 #[prgV ca n cc wa words.length wc0 lk rg] w (fun e w' => ∃ E : Nat → Nat → Nat → Vl, (∀ t, t < n → LsV (X t) (L t) rg (E t)) ∧ NewQ w n words lk rg (bCon X E) L e w') := by
  obtain ⟨D, hD⟩ : ∃ D : Nat → Nat → Nat → Vl, ∀ t, t < n → LsV (X t) (L t) rg (D t) := by
    have h1 : ∀ t, ∃ E : Nat → Nat → Vl, t < n → LsV (X t) (L t) rg E := fun t => by
      by_cases ht : t < n
      · obtain ⟨E, h⟩ := ls_ex (X := X t) (l := L t) (rg := rg) (hc.ord t · ht)
        exact ⟨E, fun _ => h⟩
      · exact ⟨fun _ _ => .no, fun h => absurd h ht⟩
    exact ⟨fun t => Classical.choose (h1 t), fun t ht => Classical.choose_spec (h1 t) ht⟩
  obtain ⟨b, hb⟩ : ∃ b : Nat → Nat → List I4, b = bCon X D := ⟨_, rfl⟩
  obtain ⟨PB, hPB⟩ : ∃ o : Obj, o = .cells #[.slice ca n cc, .slice wa words.length wc0, .int .i64 lk, .int .i64 rg] 25 := ⟨_, rfl⟩
  obtain ⟨RB, hRB⟩ : ∃ o : Obj, o = .cells #[nilV, nilV, .int .i64 0, .int .i64 0] 25 := ⟨_, rfl⟩
  obtain ⟨g1, cap1, w1, hrun1, hq1, hR1⟩ := new_start w PB RB wa words wc0 lk rg hw hc.m64 b L
  have hbS : Below w.heap.size w ((w.alloc PB).alloc RB) := ((Below.refl _ _).alloc (Nat.le_refl _) _).alloc (by simp) _
  have hpS : ((w.alloc PB).alloc RB).heap[w.heap.size]? = some PB := box_later (heap_alloc_new _ _) _
  have hrS : ((w.alloc PB).alloc RB).heap[w.heap.size + 1]? = some RB := by have := heap_alloc_new (w.alloc PB) RB; simpa using this
  obtain ⟨S, hS⟩ : ∃ V, (w.alloc PB).alloc RB = V := ⟨_, rfl⟩
  have hSs : S.heap.size = w.heap.size + 1 + 1 := by rw [← hS]; simp
  rw [hS] at hbS hpS hrS hR1
  have HAT : Hid (∀ V, Below S.heap.size S V → Below w.heap.size w V ∧ V.heap[w.heap.size]? = some (.cells #[.slice ca n cc, .slice wa words.length wc0, .int .i64 lk, .int .i64 rg] 25) ∧ V.heap[w.heap.size + 1]? = some (.cells #[nilV, nilV, .int .i64 0, .int .i64 0] 25)) := fun V hV => by
    rw [hPB] at hpS
    rw [hRB] at hrS
    exact ⟨hbS.trans (hV.mono hbS.size), (hV.block _ (box_lt hpS)).trans hpS, (hV.block _ (box_lt hrS)).trans hrS⟩
  have HB : Hid (b = bCon X D) := hb
  have HR1 := Hid.out (p := Hid _) hR1
  have HPR : Hid (PIn w ca n A L C X ∧ COk n L X words.length lk rg) := ⟨hp, hc⟩
  have hn4 := hc.n4
  have HWY := Hid.out (p := Hid _) hD
  refine Calls.mono (R := NewQ w n words lk rg b L) ?_ fun e w' h => ⟨D, HWY.out, by rw [← hb]; exact h⟩
  have c1 := box_cell (i := 1) hq1 rfl
  have cf : ∀ i, w1.frozen? ⟨w.heap.size + 1 + 1, i, none⟩ = false := fun i => box_free hq1
  obtain ⟨mw, hmw⟩ : ∃ k, words.length = k := ⟨_, rfl⟩
  have HML : Hid (words.length = mw) := hmw
  rw [hmw] at HAT HR1
  rw [hPB, hRB, hmw] at hrun1
  simp only [nilV] at hrun1 c1
  rw [hmw]
  clear hD hb hPB hRB hbS hpS hrS hS hR1 hp hw hc hq1 hmw
  go_enter Tryd.func14, Tryd.ntmps14
  go_wp2
  obtain ⟨W, hW⟩ : ∃ V, w1.setCell ⟨w.heap.size + 1 + 1, 1, none⟩ (.slice (some ⟨g1, 0, none⟩) mw cap1) = V := ⟨_, rfl⟩
  rw [hW] at HR1
  rw [hW]
  clear hW hrun1 c1 cf
  obtain ⟨qb, hqb⟩ : ∃ q, w.heap.size + 1 + 1 = q := ⟨_, rfl⟩
  have HQB : Hid (w.heap.size + 1 + 1 = qb) := hqb
  rw [hqb] at HR1
  rw [hqb]
  clear hqb
  go_loopg [4] (n + 1) (fun gk i wr => ∃ (k : Nat) (va : Option Addr) (vc : Nat) (tv : List Value), k + gk = n + 1 ∧ k ≤ n ∧ i = .int .i64 k ∧ Hid (RwI S qb (.slice (some ⟨g1, 0, none⟩) mw cap1) words lk rg b L k wr (.slice va k vc) tv))
  case atStart => exact ⟨0, none, 0, [], by omega, Nat.zero_le _, rfl, HR1⟩
  case round =>
    obtain ⟨k, va, vc, tv, hgk, hk, rfl, HL⟩ := hrel
    have HGK := Hid.out (p := Hid _) hgk
    clear hgk
    clear HR1
    obtain ⟨hwr, hpb, hrb⟩ := HAT.out wr HL.out.low
    have p0 := box_cell (i := 0) hpb rfl
    by_cases hlt : k < n
    · obtain ⟨cb, co, rfl, hcell⟩ := (HPR.out.1.below hwr).code k hlt
      have HRW := Hid.out (p := Hid _) hwr
      obtain ⟨l, hl⟩ : ∃ l, L k = l := ⟨_, rfl⟩
      have hl4 : l ≤ 1000 := by rw [← hl]; exact HPR.out.2.L4 k hlt
      have HLK : Hid (L k = l) := hl
      rw [hl] at hcell
      obtain ⟨ak, hak⟩ : ∃ a, A k = a := ⟨_, rfl⟩
      rw [hak] at hcell
      have hrg200 : rg ≤ 200 := HPR.out.2.rg2
      have HOK : Hid (∀ j, j < l → ordE rg words.length lk l (X k j 0) (X k j 1) (X k j 2) (X k j 3) = 0) := fun j hj => by
        have := HPR.out.2.ord k j hlt (by rw [hl]; exact hj)
        rw [hl] at this
        exact this
      have hordW : ∀ V, Below w.heap.size w V → ∀ j, j < l → ∃ ab ao, ak = some ⟨ab, ao, none⟩ ∧ V.cell? ⟨ab, ao + j * 4, none⟩ = some (.int .i64 (X k j 0)) ∧ V.cell? ⟨ab, ao + j * 4 + 1, none⟩ = some (.int .i64 (X k j 1)) ∧ V.cell? ⟨ab, ao + j * 4 + 2, none⟩ = some (.int .i64 (X k j 2)) ∧ V.cell? ⟨ab, ao + j * 4 + 3, none⟩ = some (.int .i64 (X k j 3)) := fun V hV j hj => by
        obtain ⟨ab, ao, e1, c⟩ := (HPR.out.1.below hV).ord k j hlt (by rw [hl]; exact hj)
        exact ⟨ab, ao, by rw [← hak, e1], c⟩
      have p3 := box_cell (i := 3) hpb rfl
      have hrg0 : 0 < rg := HPR.out.2.rg0
      have HLT : Hid (LsV (X k) l rg (D k)) := by
        have := HWY.out k hlt
        rw [hl] at this
        exact this
      have HST : Hid (Calls Tryd.prog 37 #[.slice ak l (C k), .int .i64 rg] wr fun e w' => ∃ lb, e = .returned (.pointer (some ⟨lb, 0, none⟩)) ∧ Hid (Below wr.heap.size wr w' ∧ ∃ gg ga ac GA G E ag, (∀ i, i ≤ l → (G i = true → ∀ r, r < rg → E i r ≠ .no) ∧ (G i = false → ∀ r, r < rg → E i r = .no)) ∧ (∀ j, j < l → b k j = bConX (X k) j (E j)) ∧ ∀ V, Below w'.heap.size w' V → LkV wr V lb gg ga ac l rg GA G E ag ∧ ∀ j, j < l → ∃ ab ao, ak = some ⟨ab, ao, none⟩ ∧ V.cell? ⟨ab, ao + j * 4, none⟩ = some (.int .i64 (X k j 0)) ∧ V.cell? ⟨ab, ao + j * 4 + 1, none⟩ = some (.int .i64 (X k j 1)) ∧ V.cell? ⟨ab, ao + j * 4 + 2, none⟩ = some (.int .i64 (X k j 2)) ∧ V.cell? ⟨ab, ao + j * 4 + 3, none⟩ = some (.int .i64 (X k j 3)))) := by
        refine Calls.mono (rlook_any wr ak l (C k) (X k) rg words.length lk hl4 hrg0 hrg200 (fun i hi => ?_) (fun i hi => HOK.out i hi)) ?_
        · exact hordW wr hwr i hi
        · rintro e w' ⟨lb, gg, ga, ac, GA, G, E, ag, rfl, hK, hS, hG⟩
          have hb := hK.low
          refine ⟨lb, rfl, hb, gg, ga, ac, GA, G, E, ag, hG, fun j hj => ?_, fun V hV => ⟨hK.below hV, fun j hj => ?_⟩⟩
          · rw [HB.out]
            exact bConX_congr hrg0 (HOK.out j hj) fun r hr => HLT.out.same hS (by omega) hr
          · have hV' : Below wr.heap.size wr V := hb.trans (hV.mono hb.size)
            obtain ⟨ab, ao, e, c0, c1, c2, c3⟩ := hordW V (hwr.trans (hV'.mono hwr.size)) j hj
            exact ⟨ab, ao, e, c0, c1, c2, c3⟩
      clear hordW hpb hrb hwr hl hak
      go_wp2_with fail
      refine Calls.mono HST.out ?_
      rintro e w5 ⟨lb, rfl, H5⟩
      obtain ⟨hb5, gg, ga, ac, GA, G, E, ag, hG, hbE, hIN⟩ := H5.out
      have HIN := Hid.out (p := Hid _) hIN
      have HG := Hid.out (p := Hid _) hG
      have HBE := Hid.out (p := Hid _) hbE
      have HB5 := Hid.out (p := Hid _) hb5
      obtain ⟨w50, hw50⟩ : ∃ V, V = wr := ⟨_, rfl⟩
      clear HST H5 hcell p0 p3 hb5 hIN hG hbE
      go_wp2
      obtain ⟨T, rfl⟩ : ∃ V, V = w5 := ⟨_, rfl⟩
      go_loopg [7, 8] (l + 1) (fun gk bv iv wi => ∃ (j : Nat) (ba : Option Addr) (bc : Nat) (tw : List Value), j + gk = l + 1 ∧ j ≤ l ∧ iv = .int .i64 j ∧ bv = .slice ba j bc ∧ Hid (BeI T (b k) j wi (.slice ba j bc) tw))
      case atStart => exact ⟨0, none, 0, [], by omega, Nat.zero_le _, rfl, rfl, BeI.start _ _⟩
      case round =>
        obtain ⟨j, ba, bc, tw, hgj, hj, rfl, rfl, HI⟩ := hrel
        have HGJ := Hid.out (p := Hid _) hgj
        clear hgj
        by_cases hjl : j < l
        · obtain ⟨hLk, hq⟩ := HIN.out wr HI.out.low
          obtain ⟨ab, ao, rfl, c0, c1, c2, c3⟩ := hq j hjl
          have hjI : (j : Int) < (l : Int) := by omega
          have hjJ : (j : Int) < (l : Int) + 1 := by omega
          have hod := HOK.out j hjl
          have hbE := HBE.out j hjl
          have HLK2 := Hid.out (p := Hid _) hLk
          have HLC : Hid (∀ V, Below wr.heap.size wr V → V.cell? ⟨lb, 0, none⟩ = some (.slice (some ⟨gg, 0, none⟩) (l + 1) (l + 1)) ∧ V.cell? ⟨lb, 1, none⟩ = some (.slice (some ⟨ga, 0, none⟩) (l + 1) ac) ∧ V.cell? ⟨gg, j, none⟩ = some (.bool (G j)) ∧ V.cell? ⟨ga, j, none⟩ = some (.slice (some ⟨GA j, 0, none⟩) rg rg) ∧ VR V (GA j) (E j) rg) := fun V hV => by
            have h := HLK2.out.below hV
            exact ⟨box_cell (i := 0) h.box rfl, box_cell (i := 1) h.box rfl, (h.go (by omega)).1, h.at (by omega), h.row j (by omega)⟩
          have hgl := HG.out j (by omega)
          obtain ⟨gv, hgv⟩ : ∃ x, G j = x := ⟨_, rfl⟩
          obtain ⟨gz, hgz⟩ : ∃ x, GA j = x := ⟨_, rfl⟩
          rw [hgv, hgz] at HLC
          rw [hgv] at hgl
          have HNO : Hid (gv = false → b k j = []) := fun h => by
            rw [hbE]
            exact bc_no (hgl.2 h 0 hrg0)
          have HYS : Hid (gv = true → E j 0 ≠ .no) := fun h => hgl.1 h 0 hrg0
          have HBJ := Hid.out (p := Hid _) hbE
          have HOD := Hid.out (p := Hid _) hod
          obtain ⟨x0, e0⟩ : ∃ x, X k j 0 = x := ⟨_, rfl⟩
          obtain ⟨x1, e1⟩ : ∃ x, X k j 1 = x := ⟨_, rfl⟩
          obtain ⟨x2, e2⟩ : ∃ x, X k j 2 = x := ⟨_, rfl⟩
          obtain ⟨x3, e3⟩ : ∃ x, X k j 3 = x := ⟨_, rfl⟩
          have HXX := Hid.out (p := Hid _) (And.intro e0 (And.intro e1 (And.intro e2 e3)))
          rw [e0] at c0; rw [e1] at c1; rw [e2] at c2; rw [e3] at c3
          have HRK : Hid (∀ V, Calls Tryd.prog 38 #[.int .i64 x0] V fun e w' => e = .returned (.bool (decide (1 ≤ x0) && decide (x0 ≤ 7))) ∧ w' = V) := fun V => rreck_any V x0
          clear hLk hq hod hbE hgl hgv hgz e0 e1 e2 e3
          obtain ⟨ho3, hb3⟩ := own_high (W := wr) (x := (x0, x1, x2, x3)) (o := ordO (x0, x1, x2, x3))
          have hix : ((wr.alloc (ordO (x0, x1, x2, x3))).alloc (ordO (x0, x1, x2, x3))).heap[wr.heap.size]? = some (.cells #[.int .i64 x0, .int .i64 x1, .int .i64 x2, .int .i64 x3] 44) := box_later (heap_alloc_new _ _) _
          have hvs : ((wr.alloc (ordO (x0, x1, x2, x3))).alloc (ordO (x0, x1, x2, x3))).heap.size = wr.heap.size + 1 + 1 := by simp
          have i0 : ((wr.alloc (ordO (x0, x1, x2, x3))).alloc (ordO (x0, x1, x2, x3))).cell? ⟨wr.heap.size, 0, none⟩ = some (.int .i64 x0) := box_cell (i := 0) hix rfl
          simp only [ordO] at i0
          go_wp2_with fail
          refine Calls.mono (HRK.out _) ?_
          rintro e w6 ⟨rfl, rfl⟩
          clear HRK c0 c1 c2 c3
          obtain ⟨V0, hV0⟩ : ∃ V, (wr.alloc (ordO (x0, x1, x2, x3))).alloc (ordO (x0, x1, x2, x3)) = V := ⟨_, rfl⟩
          rw [hV0] at hix hvs ho3 hb3
          simp only [ordO] at hV0
          rw [hV0] at i0
          rw [hV0]
          obtain ⟨y0, y1, y2, y3, hvr⟩ := HLC.out V0 hb3
          have i1 : V0.cell? ⟨wr.heap.size, 1, none⟩ = some (.int .i64 x1) := box_cell (i := 1) hix rfl
          have i2 : V0.cell? ⟨wr.heap.size, 2, none⟩ = some (.int .i64 x2) := box_cell (i := 2) hix rfl
          have i3 : V0.cell? ⟨wr.heap.size, 3, none⟩ = some (.int .i64 x3) := box_cell (i := 3) hix rfl
          have HV := Hid.out (p := Hid _) (And.intro ho3 (And.intro hb3 (And.intro hix (And.intro hvs hvr))))
          clear hV0 ho3 hb3 hix hvs hvr
          by_cases h7 : 1 ≤ x0 ∧ x0 ≤ 7
          · have hrb : (decide (1 ≤ x0) && decide (x0 ≤ 7)) = true := by simp [h7.1, h7.2]
            rw [hrb]
            have H7 : Hid (1 ≤ X k j 0 ∧ X k j 0 ≤ 7) := by rw [HXX.out.1]; exact h7
            have h15 : (x0 == 15) = false := by simp; omega
            clear h7 hrb
            cases gv with
            | false =>
              have hbj := HNO.out rfl
              go_wp2_with fail
              go_quiet (fail)
              obtain ⟨g4, cap4, w4, hrun4, hI4⟩ := HI.out.push (V := V0.drewN nq) (below_drewN HV.out.2.1) (v := nilV) (by rw [hbj]; exact World.ownsRow_nil _ _ _ _) (by omega)
              have HI4 := Hid.out (p := Hid _) hI4
              clear hI4 hbj
              have hsz : (V0.drewN nq).heap.size = V0.heap.size := rfl
              rw [hsz] at hrun4
              clear hsz
              try simp only [nilV] at hrun4
              go_wp2_with fail
              go_roundg (l - j)
              case measure => have := HGJ.out; omega
              case rel => exact ⟨j + 1, _, _, _, by omega, by omega, by go_num, rfl, HI4.out⟩
            | true =>
              have HYT : Hid (E j 0 ≠ .no) := HYS.out rfl
              have HSC : Hid (∀ V, Below V0.heap.size V0 V → V.cell? ⟨wr.heap.size, 0, none⟩ = some (.int .i64 x0) ∧ V.cell? ⟨wr.heap.size, 1, none⟩ = some (.int .i64 x1) ∧ V.cell? ⟨wr.heap.size, 2, none⟩ = some (.int .i64 x2) ∧ V.cell? ⟨wr.heap.size, 3, none⟩ = some (.int .i64 x3) ∧ V.cell? ⟨lb, 1, none⟩ = some (.slice (some ⟨ga, 0, none⟩) (l + 1) ac) ∧ V.cell? ⟨ga, j, none⟩ = some (.slice (some ⟨gz, 0, none⟩) rg rg) ∧ VR V gz (E j) rg) := fun V hV => by
                have hi := (hV.block _ (box_lt HV.out.2.2.1)).trans HV.out.2.2.1
                obtain ⟨-, z1, -, z3, hvr⟩ := HLC.out V (HV.out.2.1.trans (hV.mono HV.out.2.1.size))
                exact ⟨box_cell hi rfl, box_cell hi rfl, box_cell hi rfl, box_cell hi rfl, z1, z3, hvr⟩
              have HRE : Hid (∀ V, Below V0.heap.size V0 V → Calls Tryd.prog 39 #[.agg #[.int .i64 x0, .int .i64 x1, .int .i64 x2, .int .i64 x3], .slice (some ⟨gz, 0, none⟩) rg rg] V fun e w' => ∃ c : Vl, e = .returned (.agg #[.int .i64 (c.st : Int), .int .i64 c.nb]) ∧ Hid (c = mkV (X k j 0) (X k j 2) (X k j 3) (E j)) ∧ Below V.heap.size V w') := fun V hV => by
                have h := rresult_any V _ _ _ _ gz rg rg (E j) HOD.out H7.out (HSC.out V hV).2.2.2.2.2.2 rfl
                rw [HXX.out.1, HXX.out.2.1, HXX.out.2.2.1, HXX.out.2.2.2] at h
                refine h.mono fun e w' ⟨h1, h2⟩ => ⟨_, h1, ?_, h2⟩
                show mkV x0 x2 x3 (E j) = _
                rw [HXX.out.1, HXX.out.2.2.1, HXX.out.2.2.2]
              have HC1 : Hid (Calls Tryd.prog 39 #[.agg #[.int .i64 x0, .int .i64 x1, .int .i64 x2, .int .i64 x3], .slice (some ⟨gz, 0, none⟩) rg rg] V0.drew fun e w' => ∃ c : Vl, e = .returned (.agg #[.int .i64 (c.st : Int), .int .i64 c.nb]) ∧ Hid (c = mkV (X k j 0) (X k j 2) (X k j 3) (E j) ∧ Below V0.heap.size V0 w') ∧ (w'.cell? ⟨wr.heap.size, 0, none⟩ = some (.int .i64 x0) ∧ w'.cell? ⟨wr.heap.size, 1, none⟩ = some (.int .i64 x1) ∧ w'.cell? ⟨wr.heap.size, 2, none⟩ = some (.int .i64 x2) ∧ w'.cell? ⟨wr.heap.size, 3, none⟩ = some (.int .i64 x3) ∧ w'.cell? ⟨lb, 1, none⟩ = some (.slice (some ⟨ga, 0, none⟩) (l + 1) ac) ∧ w'.cell? ⟨ga, j, none⟩ = some (.slice (some ⟨gz, 0, none⟩) rg rg))) := by
                refine Calls.mono (HRE.out _ (Below.refl _ _).drew) ?_
                rintro e2 w5 ⟨c, h1, h2, h3⟩
                have hb := below_d h3
                obtain ⟨z0, z1, z2, z3, z4, z5, -⟩ := HSC.out _ hb
                exact ⟨c, h1, ⟨h2.out, hb⟩, z0, z1, z2, z3, z4, z5⟩
              have HC2 : Hid (Calls Tryd.prog 39 #[.agg #[.int .i64 x0, .int .i64 x1, .int .i64 x2, .int .i64 x3], .slice (some ⟨gz, 0, none⟩) rg rg] (V0.alloc (.cells #[.int .i64 0, .int .i64 0] 78)).drew fun e w' => ∃ c : Vl, e = .returned (.agg #[.int .i64 (c.st : Int), .int .i64 c.nb]) ∧ Hid (c = mkV (X k j 0) (X k j 2) (X k j 3) (E j) ∧ Below V0.heap.size V0 w' ∧ w'.heap[V0.heap.size]? = some (.cells #[.int .i64 0, .int .i64 0] 78)) ∧ (w'.cell? ⟨wr.heap.size, 0, none⟩ = some (.int .i64 x0) ∧ w'.cell? ⟨wr.heap.size, 1, none⟩ = some (.int .i64 x1) ∧ w'.cell? ⟨wr.heap.size, 2, none⟩ = some (.int .i64 x2) ∧ w'.cell? ⟨wr.heap.size, 3, none⟩ = some (.int .i64 x3) ∧ w'.cell? ⟨lb, 1, none⟩ = some (.slice (some ⟨ga, 0, none⟩) (l + 1) ac) ∧ w'.cell? ⟨ga, j, none⟩ = some (.slice (some ⟨gz, 0, none⟩) rg rg)) ∧ (w'.cell? ⟨V0.heap.size, 0, none⟩ = some (.int .i64 0) ∧ w'.cell? ⟨V0.heap.size, 1, none⟩ = some (.int .i64 0)) ∧ (∀ i, w'.frozen? ⟨V0.heap.size, i, none⟩ = false)) := by
                refine Calls.mono (HRE.out _ ((Below.refl _ _).alloc (Nat.le_refl _) _).drew) ?_
                rintro e2 w5 ⟨c, h1, h2, h3⟩
                have hb := below_o h3
                have hbx := (h3.block V0.heap.size (box_lt (drewO V0 _))).trans (drewO V0 _)
                obtain ⟨z0, z1, z2, z3, z4, z5, -⟩ := HSC.out _ hb
                exact ⟨c, h1, ⟨h2.out, hb, hbx⟩, ⟨z0, z1, z2, z3, z4, z5⟩, ⟨box_cell hbx rfl, box_cell hbx rfl⟩, fun i => box_free hbx⟩
              have hn1 : wr.heap.size ≠ V0.heap.size := by have := HV.out.2.2.2.1; omega
              have hn2 : lb ≠ V0.heap.size := by have := lt_of_cell y0; simp only at this; omega
              have hn3 : ga ≠ V0.heap.size := by have := lt_of_cell y3; simp only at this; omega
              go_upto_region 16 with fail
              go_cut [12] from 40 to 138 (fun vb wx => ∃ q, vb = .pointer (some ⟨q, 0, none⟩) ∧ Hid (Below V0.heap.size V0 wx ∧ wx.heap[q]? = some (.cells #[.int .i64 ((mkV (X k j 0) (X k j 2) (X k j 3) (E j)).st : Int), .int .i64 (mkV (X k j 0) (X k j 2) (X k j 3) (E j)).nb] 78)))
              case first =>
                go_region_held3 (fun w' => w'.cell? ⟨wr.heap.size, 0, none⟩ = some (.int .i64 x0) ∧ w'.cell? ⟨wr.heap.size, 1, none⟩ = some (.int .i64 x1) ∧ w'.cell? ⟨wr.heap.size, 2, none⟩ = some (.int .i64 x2) ∧ w'.cell? ⟨wr.heap.size, 3, none⟩ = some (.int .i64 x3) ∧ w'.cell? ⟨lb, 1, none⟩ = some (.slice (some ⟨ga, 0, none⟩) (l + 1) ac) ∧ w'.cell? ⟨ga, j, none⟩ = some (.slice (some ⟨gz, 0, none⟩) rg rg)) (refine ⟨?_, ?_, ?_, ?_, ?_, ?_⟩ <;> (repeat (first | (with_reducible assumption) | (with_reducible refine cell_drw ?_) | (with_reducible refine cell_up ?_ _) | (with_reducible refine cell_farO ?_ (by assumption))))) ((go_at_call 39; first | (with_reducible refine Calls.mono HC1.out ?_; rintro e w1 ⟨c, rfl, H1, j0, j1, j2, j3, j4, j5⟩) | (with_reducible refine Calls.mono HC2.out ?_; rintro e w1 ⟨c, rfl, H1, ⟨j0, j1, j2, j3, j4, j5⟩, ⟨q0, q1⟩, qf⟩)))
                · go_wp2_with fail
                  go_meet
                  case rel =>
                    refine ⟨_, rfl, H1.out.2.alloc H1.out.2.size _, ?_⟩
                    rw [← H1.out.1]
                    exact heap_alloc_new _ _
                · go_wp2_with fail
                  go_meet
                  case rel =>
                    refine ⟨_, rfl, (H1.out.2.1.setCell (p := ⟨V0.heap.size, 0, none⟩) (Nat.le_refl _) _).setCell (p := ⟨V0.heap.size, 1, none⟩) (Nat.le_refl _) _, ?_⟩
                    rw [← H1.out.1]
                    exact heap_set_same (i := 1) (heap_set_same (i := 0) H1.out.2.2)
              case rest =>
                obtain ⟨q, rfl, HQ⟩ := hcut
                have hbw : Below wr.heap.size wr wc := HV.out.2.1.trans (HQ.out.1.mono HV.out.2.1.size)
                obtain ⟨-, i1, -, -, -, -, -⟩ := HSC.out wc HQ.out.1
                obtain ⟨y0, -, y2, -, -⟩ := HLC.out wc hbw
                have i0 : wc.cell? ⟨wr.heap.size, 0, none⟩ = some (.int .i64 x0) := (HSC.out wc HQ.out.1).1
                have HBW := Hid.out (p := Hid _) hbw
                have v0 := box_cell (i := 0) HQ.out.2 rfl
                have v1 := box_cell (i := 1) HQ.out.2 rfl
                have HLT2 : Hid (wr.heap.size + 1 + 1 ≤ wc.heap.size) := by have := HV.out.2.2.2.1; have := HQ.out.1.size; show _ ≤ _; omega
                have HBO : Hid (Below wc.heap.size wc wc) := Below.refl _ _
                clear hbw HC1 HC2 HRE hn1 hn2 hn3
                obtain ⟨c, hc⟩ : ∃ c, mkV (X k j 0) (X k j 2) (X k j 3) (E j) = c := ⟨_, rfl⟩
                rw [hc] at v0 v1
                have HC := Hid.out (p := Hid _) hc
                clear hc
                cases c with
                | num z =>
                  have v0' : wc.cell? ⟨q, 0, none⟩ = some (.int .i64 1) := v0
                  have v1' : wc.cell? ⟨q, 1, none⟩ = some (.int .i64 z) := v1
                  have hbj : b k j = [(1, x1, z, 0)] := by
                    rw [HBJ.out, bc_num (X := X k) (i := j) (l := l) (rg := rg) (m := words.length) (lk := lk) HYT.out HOD.out H7.out HC.out, HXX.out.2.1]
                  have i0u := fun o => cell_up i0 o
                  have y0u := fun o => cell_up y0 o
                  have y2u := fun o => cell_up y2 o
                  clear v0 v1
                  go_wp2_with fail
                  go_quiet (fail)
                  have ho9 := own_one wc (1, x1, z, 0)
                  obtain ⟨g4, cap4, w4, hrun4, hI4⟩ := HI.out.push (V := (wc.alloc (ordO (1, x1, z, 0))).drewN nq) (below_drewN (HBW.out.trans (ho9.2.mono HBW.out.size))) (v := .slice (some ⟨wc.heap.size, 0, none⟩) 1 1) (by rw [hbj]; exact owns_below2 (own_low ho9.1 HBW.out.size) (below_drewN (Below.refl _ _))) (by omega)
                  have HI4 := Hid.out (p := Hid _) hI4
                  clear hI4 hbj
                  have hsz : ((wc.alloc (ordO (1, x1, z, 0))).drewN nq).heap.size = wc.heap.size + 1 := by show (wc.alloc _).heap.size = _; simp
                  rw [hsz] at hrun4
                  clear hsz
                  simp only [ordO] at hrun4
                  go_wp2_with fail
                  go_roundg (l - j)
                  case measure => have := HGJ.out; omega
                  case rel => exact ⟨j + 1, _, _, _, by omega, by omega, by go_num, rfl, HI4.out⟩
                | any =>
                  have v0' : wc.cell? ⟨q, 0, none⟩ = some (.int .i64 2) := v0
                  have hbj : b k j = [(x0, x1, x2, x3)] := by
                    rw [HBJ.out, bc_keep (X := X k) (i := j) HYT.out (by have := H7.out; omega) (fun _ n => by rw [HC.out]; intro e; cases e), HXX.out.1, HXX.out.2.1, HXX.out.2.2.1, HXX.out.2.2.2]
                  clear v0 v1
                  go_wp2_with fail
                  go_quiet (fail)
                  obtain ⟨g4, cap4, w4, hrun4, hI4⟩ := HI.out.push (V := wc.drewN nq) (below_drewN HBW.out) (v := .slice (some ⟨wr.heap.size + 1, 0, none⟩) 1 1) (by rw [hbj]; exact (HV.out.1.below HQ.out.1).below (below_drewN (Below.refl _ _))) (by omega)
                  have HI4 := Hid.out (p := Hid _) hI4
                  clear hI4 hbj
                  have hsz : (wc.drewN nq).heap.size = wc.heap.size := rfl
                  rw [hsz] at hrun4
                  clear hsz
                  try simp only [nilV] at hrun4
                  go_wp2_with fail
                  go_roundg (l - j)
                  case measure => have := HGJ.out; omega
                  case rel => exact ⟨j + 1, _, _, _, by omega, by omega, by go_num, rfl, HI4.out⟩
                | no =>
                  have v0' : wc.cell? ⟨q, 0, none⟩ = some (.int .i64 0) := v0
                  have hbj : b k j = [(x0, x1, x2, x3)] := by
                    rw [HBJ.out, bc_keep (X := X k) (i := j) HYT.out (by have := H7.out; omega) (fun _ n => by rw [HC.out]; intro e; cases e), HXX.out.1, HXX.out.2.1, HXX.out.2.2.1, HXX.out.2.2.2]
                  clear v0 v1
                  go_wp2_with fail
                  go_quiet (fail)
                  obtain ⟨g4, cap4, w4, hrun4, hI4⟩ := HI.out.push (V := wc.drewN nq) (below_drewN HBW.out) (v := .slice (some ⟨wr.heap.size + 1, 0, none⟩) 1 1) (by rw [hbj]; exact (HV.out.1.below HQ.out.1).below (below_drewN (Below.refl _ _))) (by omega)
                  have HI4 := Hid.out (p := Hid _) hI4
                  clear hI4 hbj
                  have hsz : (wc.drewN nq).heap.size = wc.heap.size := rfl
                  rw [hsz] at hrun4
                  clear hsz
                  try simp only [nilV] at hrun4
                  go_wp2_with fail
                  go_roundg (l - j)
                  case measure => have := HGJ.out; omega
                  case rel => exact ⟨j + 1, _, _, _, by omega, by omega, by go_num, rfl, HI4.out⟩
          · have hrb : (decide (1 ≤ x0) && decide (x0 ≤ 7)) = false := by
              rw [Bool.eq_false_iff]
              intro h
              simp only [Bool.and_eq_true, decide_eq_true_eq] at h
              omega
            rw [hrb]
            have H7 : Hid (¬ (1 ≤ X k j 0 ∧ X k j 0 ≤ 7)) := by rw [HXX.out.1]; exact h7
            clear h7 hrb
            by_cases h15 : x0 = 15
            · subst h15
              cases gv with
              | false =>
                have hbj := HNO.out rfl
                go_wp2_with fail
                go_quiet (fail)
                obtain ⟨g4, cap4, w4, hrun4, hI4⟩ := HI.out.push (V := V0.drewN nq) (below_drewN HV.out.2.1) (v := nilV) (by rw [hbj]; exact World.ownsRow_nil _ _ _ _) (by omega)
                have HI4 := Hid.out (p := Hid _) hI4
                clear hI4 hbj
                have hsz : (V0.drewN nq).heap.size = V0.heap.size := rfl
                rw [hsz] at hrun4
                clear hsz
                try simp only [nilV] at hrun4
                go_wp2_with fail
                go_roundg (l - j)
                case measure => have := HGJ.out; omega
                case rel => exact ⟨j + 1, _, _, _, by omega, by omega, by go_num, rfl, HI4.out⟩
              | true =>
                have HYT : Hid (E j 0 ≠ .no) := HYS.out rfl
                have hz := HOD.out
                rw [HXX.out.1, HXX.out.2.1] at hz
                obtain ⟨hq0, hq1⟩ := (ok_zero hz).1
                obtain ⟨q, hqq⟩ : ∃ q : Nat, x1 = q := ⟨x1.toNat, by omega⟩
                have hqr : q < rg := by omega
                have hqI : (q : Int) < (rg : Int) := by omega
                have HQ1 : Hid ((X k j 1).toNat = q) := by show _ = _; rw [HXX.out.2.1]; omega
                have v0 := HV.out.2.2.2.2.st hqr
                have v1 := HV.out.2.2.2.2.nb hqr
                obtain ⟨c, hc⟩ : ∃ c, E j q = c := ⟨_, rfl⟩
                rw [hc] at v0 v1
                have HC := Hid.out (p := Hid _) hc
                subst hqq
                clear hz hq0 hq1 hc
                cases c with
                | num z =>
                  have v0' : V0.cell? ⟨gz, q * 2, none⟩ = some (.int .i64 1) := v0
                  have v1' : V0.cell? ⟨gz, q * 2 + 1, none⟩ = some (.int .i64 z) := v1
                  clear v0 v1
                  by_cases hz0 : z = 0
                  · subst hz0
                    have hbj : b k j = [(14, x2, 0, 0)] := by
                      rw [HBJ.out, bc_jump (X := X k) (i := j) HYT.out HXX.out.1 (by rw [HQ1.out]; exact HC.out), HXX.out.2.2.1]
                    go_wp2_with fail
                    go_quiet (fail)
                    obtain ⟨V1, hV1⟩ : ∃ V, V0.drewN nq = V := ⟨_, rfl⟩
                    have hB1 : Below V0.heap.size V0 V1 := by rw [← hV1]; exact below_drewN (Below.refl _ _)
                    rw [hV1]
                    have k2 := (hB1.cell (lt_of_cell i2)).trans i2
                    have k1 := fun o => cell_up ((hB1.cell (lt_of_cell i1)).trans i1) o
                    have m0 := fun o => cell_up ((hB1.cell (lt_of_cell y0)).trans y0) o
                    have m1 := fun o => cell_up ((hB1.cell (lt_of_cell y1)).trans y1) o
                    have m2 := fun o => cell_up ((hB1.cell (lt_of_cell y2)).trans y2) o
                    have m3 := fun o => cell_up ((hB1.cell (lt_of_cell y3)).trans y3) o
                    have n1 := fun o => cell_up ((hB1.cell (lt_of_cell v1')).trans v1') o
                    have HBW : Hid (Below wr.heap.size wr V1) := HV.out.2.1.trans (hB1.mono HV.out.2.1.size)
                    clear hV1 hB1 i0 i1 i2 i3 y0 y1 y2 y3 v0' v1'
                    go_wp2_with fail
                    go_quiet (fail)
                    have ho9 := own_one V1 (14, x2, 0, 0)
                    obtain ⟨g4, cap4, w4, hrun4, hI4⟩ := HI.out.push (V := (V1.alloc (ordO (14, x2, 0, 0))).drewN nq) (below_drewN (HBW.out.trans (ho9.2.mono HBW.out.size))) (v := .slice (some ⟨V1.heap.size, 0, none⟩) 1 1) (by rw [hbj]; exact owns_below2 (own_low ho9.1 HBW.out.size) (below_drewN (Below.refl _ _))) (by omega)
                    have HI4 := Hid.out (p := Hid _) hI4
                    clear hI4 hbj
                    have hsz : ((V1.alloc (ordO (14, x2, 0, 0))).drewN nq).heap.size = V1.heap.size + 1 := by show (V1.alloc _).heap.size = _; simp
                    rw [hsz] at hrun4
                    clear hsz
                    simp only [ordO] at hrun4
                    go_wp2_with fail
                    go_roundg (l - j)
                    case measure => have := HGJ.out; omega
                    case rel => exact ⟨j + 1, _, _, _, by omega, by omega, by go_num, rfl, HI4.out⟩
                  · have hzz : (z != 0) = true := by simpa using hz0
                    have hbj : b k j = [] := by
                      rw [HBJ.out, bc_gone (X := X k) (i := j) HYT.out HXX.out.1 (by rw [HQ1.out]; exact HC.out) hz0]
                    go_wp2_with fail
                    go_quiet (fail)
                    obtain ⟨V1, hV1⟩ : ∃ V, V0.drewN nq = V := ⟨_, rfl⟩
                    have hB1 : Below V0.heap.size V0 V1 := by rw [← hV1]; exact below_drewN (Below.refl _ _)
                    rw [hV1]
                    have k2 := (hB1.cell (lt_of_cell i2)).trans i2
                    have k1 := fun o => cell_up ((hB1.cell (lt_of_cell i1)).trans i1) o
                    have m0 := fun o => cell_up ((hB1.cell (lt_of_cell y0)).trans y0) o
                    have m1 := fun o => cell_up ((hB1.cell (lt_of_cell y1)).trans y1) o
                    have m2 := fun o => cell_up ((hB1.cell (lt_of_cell y2)).trans y2) o
                    have m3 := fun o => cell_up ((hB1.cell (lt_of_cell y3)).trans y3) o
                    have n1 := fun o => cell_up ((hB1.cell (lt_of_cell v1')).trans v1') o
                    have HBW : Hid (Below wr.heap.size wr V1) := HV.out.2.1.trans (hB1.mono HV.out.2.1.size)
                    clear hV1 hB1 i0 i1 i2 i3 y0 y1 y2 y3 v0' v1'
                    go_wp2_with fail
                    go_quiet (fail)
                    have ho9 := own_one V1 (14, x2, 0, 0)
                    obtain ⟨g4, cap4, w4, hrun4, hI4⟩ := HI.out.push (V := (V1.alloc (ordO (14, x2, 0, 0))).drewN nq) (below_drewN (HBW.out.trans (ho9.2.mono HBW.out.size))) (v := nilV) (by rw [hbj]; exact World.ownsRow_nil _ _ _ _) (by omega)
                    have HI4 := Hid.out (p := Hid _) hI4
                    clear hI4 hbj
                    have hsz : ((V1.alloc (ordO (14, x2, 0, 0))).drewN nq).heap.size = V1.heap.size + 1 := by show (V1.alloc _).heap.size = _; simp
                    rw [hsz] at hrun4
                    clear hsz
                    simp only [ordO, nilV] at hrun4
                    go_wp2_with fail
                    go_roundg (l - j)
                    case measure => have := HGJ.out; omega
                    case rel => exact ⟨j + 1, _, _, _, by omega, by omega, by go_num, rfl, HI4.out⟩
                | any =>
                  have v0' : V0.cell? ⟨gz, q * 2, none⟩ = some (.int .i64 2) := v0
                  have hbj : b k j = [(15, (q : Int), x2, x3)] := by
                    rw [HBJ.out, bc_zero (X := X k) (i := j) HYT.out HXX.out.1 (fun n => by rw [HQ1.out, HC.out]; intro e; cases e), HXX.out.2.1, HXX.out.2.2.1, HXX.out.2.2.2]
                  clear v0 v1
                  go_wp2_with fail
                  go_quiet (fail)
                  obtain ⟨g4, cap4, w4, hrun4, hI4⟩ := HI.out.push (V := V0.drewN nq) (below_drewN HV.out.2.1) (v := .slice (some ⟨wr.heap.size + 1, 0, none⟩) 1 1) (by rw [hbj]; exact HV.out.1.below (below_drewN (Below.refl _ _))) (by omega)
                  have HI4 := Hid.out (p := Hid _) hI4
                  clear hI4 hbj
                  have hsz : (V0.drewN nq).heap.size = V0.heap.size := rfl
                  rw [hsz] at hrun4
                  clear hsz
                  try simp only [nilV] at hrun4
                  go_wp2_with fail
                  go_roundg (l - j)
                  case measure => have := HGJ.out; omega
                  case rel => exact ⟨j + 1, _, _, _, by omega, by omega, by go_num, rfl, HI4.out⟩
                | no =>
                  have v0' : V0.cell? ⟨gz, q * 2, none⟩ = some (.int .i64 0) := v0
                  have hbj : b k j = [(15, (q : Int), x2, x3)] := by
                    rw [HBJ.out, bc_zero (X := X k) (i := j) HYT.out HXX.out.1 (fun n => by rw [HQ1.out, HC.out]; intro e; cases e), HXX.out.2.1, HXX.out.2.2.1, HXX.out.2.2.2]
                  clear v0 v1
                  go_wp2_with fail
                  go_quiet (fail)
                  obtain ⟨g4, cap4, w4, hrun4, hI4⟩ := HI.out.push (V := V0.drewN nq) (below_drewN HV.out.2.1) (v := .slice (some ⟨wr.heap.size + 1, 0, none⟩) 1 1) (by rw [hbj]; exact HV.out.1.below (below_drewN (Below.refl _ _))) (by omega)
                  have HI4 := Hid.out (p := Hid _) hI4
                  clear hI4 hbj
                  have hsz : (V0.drewN nq).heap.size = V0.heap.size := rfl
                  rw [hsz] at hrun4
                  clear hsz
                  try simp only [nilV] at hrun4
                  go_wp2_with fail
                  go_roundg (l - j)
                  case measure => have := HGJ.out; omega
                  case rel => exact ⟨j + 1, _, _, _, by omega, by omega, by go_num, rfl, HI4.out⟩
            · have h15' : (x0 == 15) = false := by simpa using h15
              have H15 : Hid (X k j 0 ≠ 15) := by show _ ≠ _; rw [HXX.out.1]; exact h15
              clear h15
              cases gv with
              | false =>
                have hbj := HNO.out rfl
                go_wp2_with fail
                go_quiet (fail)
                obtain ⟨g4, cap4, w4, hrun4, hI4⟩ := HI.out.push (V := V0.drewN nq) (below_drewN HV.out.2.1) (v := nilV) (by rw [hbj]; exact World.ownsRow_nil _ _ _ _) (by omega)
                have HI4 := Hid.out (p := Hid _) hI4
                clear hI4 hbj
                have hsz : (V0.drewN nq).heap.size = V0.heap.size := rfl
                rw [hsz] at hrun4
                clear hsz
                try simp only [nilV] at hrun4
                go_wp2_with fail
                go_roundg (l - j)
                case measure => have := HGJ.out; omega
                case rel => exact ⟨j + 1, _, _, _, by omega, by omega, by go_num, rfl, HI4.out⟩
              | true =>
                have HYT : Hid (E j 0 ≠ .no) := HYS.out rfl
                have hbj : b k j = [(x0, x1, x2, x3)] := by
                  rw [HBJ.out, bc_keep (X := X k) (i := j) HYT.out H15.out (fun h => absurd h H7.out), HXX.out.1, HXX.out.2.1, HXX.out.2.2.1, HXX.out.2.2.2]
                go_wp2_with fail
                go_quiet (fail)
                obtain ⟨g4, cap4, w4, hrun4, hI4⟩ := HI.out.push (V := V0.drewN nq) (below_drewN HV.out.2.1) (v := .slice (some ⟨wr.heap.size + 1, 0, none⟩) 1 1) (by rw [hbj]; exact HV.out.1.below (below_drewN (Below.refl _ _))) (by omega)
                have HI4 := Hid.out (p := Hid _) hI4
                clear hI4 hbj
                have hsz : (V0.drewN nq).heap.size = V0.heap.size := rfl
                rw [hsz] at hrun4
                clear hsz
                try simp only [nilV] at hrun4
                go_wp2_with fail
                go_roundg (l - j)
                case measure => have := HGJ.out; omega
                case rel => exact ⟨j + 1, _, _, _, by omega, by omega, by go_num, rfl, HI4.out⟩
        · have hjl' : j = l := by omega
          subst hjl'
          have hword : Hid (Calls Tryd.prog 40 #[.slice ba j bc, .slice ak j (C k)] wr fun e w' => ∃ v, e = .returned v ∧ OwnC w' wr.heap.size v (codeR (b k) (L k)) ∧ Below wr.heap.size wr w') := by
            rw [HLK.out]
            refine put6_gen wr ba bc ak j (C k) (b k) (X k) hl4 HI.out.be (fun i hi => ?_) (fun i hi => ?_) (fun i x hi hx => ?_)
            · obtain ⟨ab, ao, e, c0, _⟩ := (HIN.out wr HI.out.low).2 i hi
              exact ⟨ab, ao, e, c0⟩
            · rw [HB.out]
              exact Nat.le_trans (bConX_len _ _ _) (by omega)
            · rw [HB.out] at hx
              exact bc_put (HOK.out i hi) hx
          go_wp2_with fail
          refine Calls.mono hword.out ?_
          rintro e w7 ⟨v7, rfl, ho7, hb7⟩
          obtain ⟨a7, c7, rfl⟩ := fam_form ho7
          have hb5' := HB5.out.trans (HI.out.low.mono HB5.out.size)
          have hb7' := hb5'.trans (hb7.mono hb5'.size)
          obtain ⟨g8, cap8, w8, hrun8, hbx8, hb8, hR8⟩ := HL.out.push hb7' hb5'.size ho7 (by omega)
          have hbx7 := (hb7'.block qb (box_lt HL.out.box)).trans HL.out.box
          have y0 := box_cell (i := 0) hbx7 rfl
          have y8 := box_cell (i := 0) hbx8 rfl
          have yf8 : w8.frozen? ⟨qb, 0, none⟩ = false := box_free hbx8
          have HR8 := Hid.out (p := Hid _) hR8
          obtain ⟨l7, hl7⟩ : ∃ x, (codeR (b k) (L k)).length = x := ⟨_, rfl⟩
          rw [hl7] at hrun8 HR8
          rw [hl7]
          clear hl7 ho7 hb7 hb7' hb5' hbx8 hb8 hR8 hbx7 hword
          go_wp2_with fail
          go_roundg (n - k)
          case measure => have := HGK.out; omega
          case rel => exact ⟨k + 1, _, _, _, by omega, by omega, by go_num, HR8⟩
    · have hkn : k = n := by omega
      subst hkn
      have y0 := box_cell (i := 0) HL.out.box rfl
      have y1 := box_cell (i := 1) HL.out.box rfl
      have y2 := box_cell (i := 2) HL.out.box rfl
      have y3 := box_cell (i := 3) HL.out.box rfl
      have z0 := box_cell (i := 0) hrb rfl
      have z1 := box_cell (i := 1) hrb rfl
      have z2 := box_cell (i := 2) hrb rfl
      have z3 := box_cell (i := 3) hrb rfl
      have zf : ∀ i, wr.frozen? ⟨w.heap.size + 1, i, none⟩ = false := fun i => box_free hrb
      have hsz : w.heap.size + 1 < wr.heap.size := box_lt hrb
      have hlt1 : w.heap.size + 1 < S.heap.size := by omega
      have HWW := Hid.out (p := Hid _) hwr
      clear hrb hpb hwr HAT HPR HB
      go_wp2
      refine bodyPost_ret (v := .agg #[.slice va k vc, .slice (some ⟨g1, 0, none⟩) mw cap1, .int .i64 lk, .int .i64 rg]) (by simp [results, Tryd.results14, go_sem, z0, z1, z2, z3]) rfl ?_
      have h1 := HL.out
      have hset : ∀ {e : TypeId} {size : Nat} {v : Value} {n : Nat} {xs : List Value}, wr.ownsRow S.heap.size e size v n xs → ((((wr.setCell ⟨w.heap.size + 1, 0, none⟩ (.slice va k vc)).setCell ⟨w.heap.size + 1, 1, none⟩ (.slice (some ⟨g1, 0, none⟩) mw cap1)).setCell ⟨w.heap.size + 1, 2, none⟩ (.int .i64 lk)).setCell ⟨w.heap.size + 1, 3, none⟩ (.int .i64 rg)).ownsRow w.heap.size e size v n xs := fun h => own_low (ownsRow_setCell_below (ownsRow_setCell_below (ownsRow_setCell_below (ownsRow_setCell_below h hlt1 _) hlt1 _) hlt1 _) hlt1 _) (by omega)
      have hw1 : w.heap.size ≤ w.heap.size + 1 := by omega
      refine ⟨va, vc, some ⟨g1, 0, none⟩, cap1, tv, by rw [HML.out], hset h1.code, fun t ht => hset (h1.thr t ht).1, ?_, (((HWW.out.setCell hw1 _).setCell hw1 _).setCell hw1 _).setCell hw1 _⟩
      have := hset h1.words
      rw [HML.out] at this ⊢
      exact this

end Go.Proofs.YtkailbdjilkneaaDoor
