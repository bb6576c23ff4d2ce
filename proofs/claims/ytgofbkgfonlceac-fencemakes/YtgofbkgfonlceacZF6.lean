/-
  Fences that are put, by the document.
-/
import Derived.Test.YtgofbkgfonlceacZF5
import Derived.Deep.RegionHeld3
namespace Go.Proofs.Ytgofbkgfonlceac
open Go.RowKit

abbrev ordO (x : I4) : Obj := .cells #[.int .i64 x.1, .int .i64 x.2.1, .int .i64 x.2.2.1, .int .i64 x.2.2.2] 52
theorem own_one (W : World) (x : I4) : OwnC (W.alloc (ordO x)) W.heap.size (.slice (some ⟨W.heap.size, 0, none⟩) 1 1) [x] ∧ Below W.heap.size W (W.alloc (ordO x)) :=
  ⟨⟨rfl, .inr ⟨W.heap.size, 1, _, rfl, Nat.le_refl _, heap_alloc_new _ _, Nat.le_refl _, by decide, rfl, rfl⟩⟩, (Below.refl _ _).alloc (Nat.le_refl _) _⟩
theorem own_two (W : World) (x : I4) : ∃ g cap w3, (AppS #[47, 47] 47 #[.slice (some ⟨W.heap.size, 0, none⟩) 1 1, .slice (some ⟨W.heap.size + 1, 0, none⟩) 1 1]).run Try.prog ((W.alloc (ordO x)).alloc (.cells #[.int .i64 12, .int .i64 0, .int .i64 0, .int .i64 0] 52)) = .ok (.slice (some ⟨g, 0, none⟩) 2 cap) w3 ∧ OwnC w3 W.heap.size (.slice (some ⟨g, 0, none⟩) 2 cap) [x, fenceI] ∧ Below W.heap.size W w3 := by
  obtain ⟨h1, h2⟩ := own_one W x
  obtain ⟨g, cap, w3, r1, r2, r3, r4⟩ := app_row (T := 47) Try.underlying47 infoO rfl (by omega) h1 (Below.refl _ _) (by simp) 1 #[.int .i64 12, .int .i64 0, .int .i64 0, .int .i64 0] rfl (by simp [Value.oneCell']) (by omega) (by simp) (by omega)
  rw [World.size_alloc] at r1
  exact ⟨g, cap, w3, r1, r2, (h2.alloc (by simp) _).grown r3 (by simp; omega) (fun q hq => (h1.lt q hq).1)⟩

attribute [local go_sem ↓] appS_eq in
set_option maxRecDepth 100000 in
set_option maxHeartbeats 3200000 in
theorem with_any (w : World) (ca : Option Addr) (n cc : Nat) (wa : Option Addr) (words : List Int) (wc lk rg : Nat) (hv : Value) (B : Nat → Nat → Bool) (A : Nat → Option Addr) (L C : Nat → Nat) (X : Nat → Nat → Nat → Int) (hp : PIn w ca n A L C X) (hw : SIs w wa words) (hc : COk n L X words.length lk rg) (hws : WsIn w hv n L B) :
    Calls Try.prog 14 #[prgV ca n cc wa words.length wc lk rg, hv] w (NewQ w n words lk rg (fun t i => bWith (B t i) (ordAt X t i)) L) := by
  obtain ⟨b, hb⟩ : ∃ b : Nat → Nat → List I4, b = fun t i => bWith (B t i) (ordAt X t i) := ⟨_, rfl⟩
  obtain ⟨PB, hPB⟩ : ∃ o : Obj, o = .cells #[.slice ca n cc, .slice wa words.length wc, .int .i64 lk, .int .i64 rg] 25 := ⟨_, rfl⟩
  obtain ⟨RB, hRB⟩ : ∃ o : Obj, o = .cells #[nilV, nilV, .int .i64 0, .int .i64 0] 25 := ⟨_, rfl⟩
  obtain ⟨g1, cap1, w1, hrun1, hq1, hR1⟩ := new_start w PB RB wa words wc lk rg hw hc.m64 b L
  have hbS : Below w.heap.size w ((w.alloc PB).alloc RB) := ((Below.refl _ _).alloc (Nat.le_refl _) _).alloc (by simp) _
  have hpS : ((w.alloc PB).alloc RB).heap[w.heap.size]? = some PB := box_later (heap_alloc_new _ _) _
  have hrS : ((w.alloc PB).alloc RB).heap[w.heap.size + 1]? = some RB := by have := heap_alloc_new (w.alloc PB) RB; simpa using this
  obtain ⟨S, hS⟩ : ∃ V, (w.alloc PB).alloc RB = V := ⟨_, rfl⟩
  have hSs : S.heap.size = w.heap.size + 1 + 1 := by rw [← hS]; simp
  rw [hS] at hbS hpS hrS hR1
  have HAT : Hid (∀ V, Below S.heap.size S V → Below w.heap.size w V ∧ V.heap[w.heap.size]? = some (.cells #[.slice ca n cc, .slice wa words.length wc, .int .i64 lk, .int .i64 rg] 25) ∧ V.heap[w.heap.size + 1]? = some (.cells #[nilV, nilV, .int .i64 0, .int .i64 0] 25)) := fun V hV => by
    rw [hPB] at hpS
    rw [hRB] at hrS
    exact ⟨hbS.trans (hV.mono hbS.size), (hV.block _ (box_lt hpS)).trans hpS, (hV.block _ (box_lt hrS)).trans hrS⟩
  have HB : Hid (b = fun t i => bWith (B t i) (ordAt X t i)) := hb
  have HR1 := Hid.out (p := Hid _) hR1
  have HPR : Hid (PIn w ca n A L C X ∧ COk n L X words.length lk rg ∧ WsIn w hv n L B) := ⟨hp, hc, hws⟩
  have hn4 := hc.n4
  rw [← hb]
  have c1 := box_cell (i := 1) hq1 rfl
  have cf : ∀ i, w1.frozen? ⟨w.heap.size + 1 + 1, i, none⟩ = false := fun i => box_free hq1
  obtain ⟨mw, hmw⟩ : ∃ k, words.length = k := ⟨_, rfl⟩
  have HML : Hid (words.length = mw) := hmw
  rw [hmw] at HAT HR1
  rw [hPB, hRB, hmw] at hrun1
  simp only [nilV] at hrun1 c1
  rw [hmw]
  clear hb hPB hRB hbS hpS hrS hS hR1 hp hw hc hws hq1 hmw
  go_enter Try.func14, Try.ntmps14
  go_wp2
  obtain ⟨W, hW⟩ : ∃ V, w1.setCell ⟨w.heap.size + 1 + 1, 1, none⟩ (.slice (some ⟨g1, 0, none⟩) mw cap1) = V := ⟨_, rfl⟩
  rw [hW] at HR1
  rw [hW]
  clear hW hrun1 c1 cf
  obtain ⟨qb, hqb⟩ : ∃ q, w.heap.size + 1 + 1 = q := ⟨_, rfl⟩
  have HQB : Hid (w.heap.size + 1 + 1 = qb) := hqb
  rw [hqb] at HR1
  rw [hqb]
  clear hqb
  go_loopw [6] (fun i wr => ∃ (k : Nat) (va : Option Addr) (vc : Nat) (tv : List Value), k ≤ n ∧ i = .int .i64 k ∧ Hid (RwI S qb (.slice (some ⟨g1, 0, none⟩) mw cap1) words lk rg b L k wr (.slice va k vc) tv)) (fun i _ => n - (intOf i).toNat)
  case atStart => exact ⟨0, none, 0, [], Nat.zero_le _, rfl, HR1⟩
  case round =>
    obtain ⟨k, va, vc, tv, hk, rfl, HL⟩ := hrel
    clear HR1
    obtain ⟨hwr, hpb, hrb⟩ := HAT.out wr HL.out.low
    have p0 := box_cell (i := 0) hpb rfl
    by_cases hlt : k < n
    · obtain ⟨cb, co, rfl, hcell⟩ := (HPR.out.1.below hwr).code k hlt
      have HRW := Hid.out (p := Hid _) hwr
      obtain ⟨l, hl⟩ : ∃ l, L k = l := ⟨_, rfl⟩
      have hl4 : l ≤ 400 := by rw [← hl]; exact HPR.out.2.1.L4 k hlt
      have HLK : Hid (L k = l) := hl
      rw [hl] at hcell
      obtain ⟨ak, hak⟩ : ∃ a, A k = a := ⟨_, rfl⟩
      rw [hak] at hcell
      have HIN : Hid (∀ V, Below wr.heap.size wr V → V.cell? ⟨w.heap.size, 0, none⟩ = some (.slice (some ⟨cb, co, none⟩) n cc) ∧ V.cell? ⟨cb, co + k, none⟩ = some (.slice ak l (C k)) ∧ ∀ j, j < l → ∃ ab ao gg c gt c', ak = some ⟨ab, ao, none⟩ ∧ V.cell? ⟨ab, ao + j * 4, none⟩ = some (.int .i64 (X k j 0)) ∧ V.cell? ⟨ab, ao + j * 4 + 1, none⟩ = some (.int .i64 (X k j 1)) ∧ V.cell? ⟨ab, ao + j * 4 + 2, none⟩ = some (.int .i64 (X k j 2)) ∧ V.cell? ⟨ab, ao + j * 4 + 3, none⟩ = some (.int .i64 (X k j 3)) ∧ hv = .slice (some ⟨gg, 0, none⟩) n c ∧ V.cell? ⟨gg, k, none⟩ = some (.slice (some ⟨gt, 0, none⟩) l c') ∧ V.cell? ⟨gt, j, none⟩ = some (.bool (B k j))) := fun V hV => by
        have hwV : Below w.heap.size w V := hwr.trans (hV.mono hwr.size)
        refine ⟨(hV.cell (lt_of_cell p0)).trans p0, (hV.cell (lt_of_cell hcell)).trans hcell, fun j hj => ?_⟩
        obtain ⟨ab, ao, e1, c0, c1, c2, c3⟩ := (HPR.out.1.below hwV).ord k j hlt (by rw [hl]; exact hj)
        obtain ⟨gg, c, gt, c', e2, d1, d2⟩ := (HPR.out.2.2.below hwV) k hlt
        rw [hl] at d1 d2
        exact ⟨ab, ao, gg, c, gt, c', by rw [← hak, e1], c0, c1, c2, c3, e2, d1, d2 j hj⟩
      clear hpb hrb hwr hl hak hcell
      go_wp2
      clear p0
      obtain ⟨T, rfl⟩ : ∃ V, V = wr := ⟨_, rfl⟩
      go_loopw [7, 8] (fun bv iv wi => ∃ (j : Nat) (ba : Option Addr) (bc : Nat) (tw : List Value), j ≤ l ∧ iv = .int .i64 j ∧ bv = .slice ba j bc ∧ Hid (BeI T (b k) j wi (.slice ba j bc) tw)) (fun _ iv _ => l - (intOf iv).toNat)
      case atStart => exact ⟨0, none, 0, [], Nat.zero_le _, rfl, rfl, BeI.start _ _⟩
      case round =>
        obtain ⟨j, ba, bc, tw, hj, rfl, rfl, HI⟩ := hrel
        obtain ⟨p0, hcell, hq⟩ := HIN.out wr HI.out.low
        by_cases hjl : j < l
        · obtain ⟨ab, ao, gg, c, gt, c', rfl, c0, c1, c2, c3, rfl, d1, d2⟩ := hq j hjl
          clear hq
          obtain ⟨x0, e0⟩ : ∃ x, X k j 0 = x := ⟨_, rfl⟩
          obtain ⟨x1, e1⟩ : ∃ x, X k j 1 = x := ⟨_, rfl⟩
          obtain ⟨x2, e2⟩ : ∃ x, X k j 2 = x := ⟨_, rfl⟩
          obtain ⟨x3, e3⟩ : ∃ x, X k j 3 = x := ⟨_, rfl⟩
          have hord : ordAt X k j = (x0, x1, x2, x3) := by unfold ordAt; rw [e0, e1, e2, e3]
          rw [e0] at c0; rw [e1] at c1; rw [e2] at c2; rw [e3] at c3
          have hbj : b k j = bWith (B k j) (x0, x1, x2, x3) := by rw [HB.out]; show bWith (B k j) (ordAt X k j) = _; rw [hord]
          clear e0 e1 e2 e3 hord
          obtain ⟨bq, hbq⟩ : ∃ x, B k j = x := ⟨_, rfl⟩
          rw [hbq] at d2 hbj
          clear hbq
          have hlt2 : gg < wr.heap.size := lt_of_cell d1
          have d1u := fun o => cell_up d1 o
          have d2u := fun o => cell_up d2 o
          cases bq with
          | true =>
            obtain ⟨g3, cap3, w3, hrun3, ho3, hb3⟩ := own_two wr (x0, x1, x2, x3)
            obtain ⟨g4, cap4, w4, hrun4, hI4⟩ := HI.out.push hb3 (v := .slice (some ⟨g3, 0, none⟩) 2 cap3) (by rw [hbj]; exact ho3) (by omega)
            have HI4 := Hid.out (p := Hid _) hI4
            clear ho3 hb3 hI4 hbj
            simp only [ordO] at hrun3
            go_wp2_with fail
            go_roundw
            case rel => exact ⟨j + 1, _, _, _, by omega, by go_num, rfl, HI4⟩
            case measure => simp [intOf]; omega
          | false =>
            obtain ⟨ho3, hb3⟩ := own_one wr (x0, x1, x2, x3)
            obtain ⟨g4, cap4, w4, hrun4, hI4⟩ := HI.out.push hb3 (v := .slice (some ⟨wr.heap.size, 0, none⟩) 1 1) (by rw [hbj]; exact ho3) (by omega)
            have HI4 := Hid.out (p := Hid _) hI4
            clear ho3 hb3 hI4 hbj
            simp only [ordO, World.size_alloc] at hrun4
            go_wp2_with fail
            go_roundw
            case rel => exact ⟨j + 1, _, _, _, by omega, by go_num, rfl, HI4⟩
            case measure => simp [intOf]; omega
        · have hjl' : j = l := by omega
          subst hjl'
          clear hq
          have hword : Hid (Calls Try.prog 30 #[.slice ba j bc, .slice ak j (C k)] wr fun e w' => ∃ v, e = .returned v ∧ OwnC w' wr.heap.size v (codeR (b k) (L k)) ∧ Below wr.heap.size wr w') := by
            rw [HLK.out]
            refine put6_any wr ba bc ak j (C k) (b k) (X k) hl4 HI.out.be (fun i hi => ?_) (fun i hi => ?_) (fun i x hi hx => ?_)
            · obtain ⟨_, _, hq⟩ := HIN.out wr HI.out.low
              obtain ⟨ab, ao, _, _, _, _, e, c0, _⟩ := hq i hi
              exact ⟨ab, ao, e, c0⟩
            · rw [HB.out]
              show (bWith _ _).length ≤ 2
              unfold bWith
              split <;> simp
            · rw [HB.out] at hx
              have hx' := bWith_in hx
              have h1 := new_led HPR.out.2.1 hlt (by rw [HLK.out]; exact hi) hx'
              rw [HLK.out] at h1
              rcases hx' with rfl | rfl
              · exact ⟨fun e => ⟨e, h1.2.1 e⟩, fun e => ⟨e, h1.2.2 e⟩⟩
              · exact ⟨fun e => by simp [fenceI] at e, fun e => by simp [fenceI] at e⟩
          go_wp2_with fail
          refine Calls.mono hword.out ?_
          rintro e w7 ⟨v7, rfl, ho7, hb7⟩
          obtain ⟨a7, c7, rfl⟩ := fam_form ho7
          have hb7' : Below T.heap.size T w7 := HI.out.low.trans (hb7.mono HI.out.low.size)
          obtain ⟨g8, cap8, w8, hrun8, hbx8, hb8, hR8⟩ := HL.out.push hb7' HI.out.low.size ho7 (by omega)
          have hbx7 := (hb7'.block qb (box_lt HL.out.box)).trans HL.out.box
          have y0 := box_cell (i := 0) hbx7 rfl
          have y8 := box_cell (i := 0) hbx8 rfl
          have yf8 : w8.frozen? ⟨qb, 0, none⟩ = false := box_free hbx8
          have HR8 := Hid.out (p := Hid _) hR8
          obtain ⟨l7, hl7⟩ : ∃ x, (codeR (b k) (L k)).length = x := ⟨_, rfl⟩
          rw [hl7] at hrun8 HR8
          rw [hl7]
          clear hl7 ho7 hb7 hb7' hbx8 hb8 hR8 hbx7 hword p0 hcell
          go_wp2_with fail
          go_roundw
          case rel => exact ⟨k + 1, _, _, _, by omega, by go_num, HR8⟩
          case measure => simp [intOf]; omega
    · have hkn : k = n := by omega
      subst hkn
      have y0 := box_cell (i := 0) HL.out.box rfl
      have y1 := box_cell (i := 1) HL.out.box rfl
      have y2 := box_cell (i := 2) HL.out.box rfl
      have y3 := box_cell (i := 3) HL.out.box rfl
      have z0 := box_cell (i := 0) hrb rfl
      have z1 := box_cell (i := 1) hrb rfl
      have z2 := box_cell (i := 2) hrb rfl
      have z3 := box_cell (i := 3) hrb rfl
      have zf : ∀ i, wr.frozen? ⟨w.heap.size + 1, i, none⟩ = false := fun i => box_free hrb
      have hsz : w.heap.size + 1 < wr.heap.size := box_lt hrb
      have hlt1 : w.heap.size + 1 < S.heap.size := by omega
      have HWW := Hid.out (p := Hid _) hwr
      clear hrb hpb hwr HAT HPR HB
      go_wp2
      refine bodyPost_ret (v := .agg #[.slice va k vc, .slice (some ⟨g1, 0, none⟩) mw cap1, .int .i64 lk, .int .i64 rg]) (by simp [results, Try.results14, go_sem, z0, z1, z2, z3]) rfl ?_
      have h1 := HL.out
      have hset : ∀ {e : TypeId} {size : Nat} {v : Value} {n : Nat} {xs : List Value}, wr.ownsRow S.heap.size e size v n xs → ((((wr.setCell ⟨w.heap.size + 1, 0, none⟩ (.slice va k vc)).setCell ⟨w.heap.size + 1, 1, none⟩ (.slice (some ⟨g1, 0, none⟩) mw cap1)).setCell ⟨w.heap.size + 1, 2, none⟩ (.int .i64 lk)).setCell ⟨w.heap.size + 1, 3, none⟩ (.int .i64 rg)).ownsRow w.heap.size e size v n xs := fun h => own_low (ownsRow_setCell_below (ownsRow_setCell_below (ownsRow_setCell_below (ownsRow_setCell_below h hlt1 _) hlt1 _) hlt1 _) hlt1 _) (by omega)
      have hw1 : w.heap.size ≤ w.heap.size + 1 := by omega
      refine ⟨va, vc, some ⟨g1, 0, none⟩, cap1, tv, by rw [HML.out], hset h1.code, fun t ht => hset (h1.thr t ht).1, ?_, (((HWW.out.setCell hw1 _).setCell hw1 _).setCell hw1 _).setCell hw1 _⟩
      have := hset h1.words
      rw [HML.out] at this ⊢
      exact this

end Go.Proofs.Ytgofbkgfonlceac
