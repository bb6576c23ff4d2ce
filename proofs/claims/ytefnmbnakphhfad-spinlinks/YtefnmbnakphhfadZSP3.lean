/-
  Words in place of locks, by the document.
-/
import Derived.Test.YtefnmbnakphhfadZSP2
import Derived.Test.YtefnmbnakphhfadZF5
import Derived.Test.YtefnmbnakphhfadZF9
import Derived.Test.YtefnmbnakphhfadRwW
import Derived.Test.YtefnmbnakphhfadSpnA
import Derived.Deep.RegionHeld3
namespace Go.Proofs.Ytefnmbnakphhfad
open Go.RowKit

/-- What an order becomes, as the document first says it. -/
def bDoc (m : Nat) (X : Nat → Nat → Nat → Int) : Nat → Nat → List I4 := fun t i =>
  if X t i 0 = 17 then takeL ((m : Int) + X t i 1) 0 else if X t i 0 = 18 then giveL ((m : Int) + X t i 1) else [ordAt X t i]
theorem doc_fix (m : Nat) (X : Nat → Nat → Nat → Int) (t : Nat) : fixL (bDoc m X t) (X t) = bSpin m X t := by
  funext i
  unfold fixL bDoc bSpin
  by_cases h17 : X t i 0 = 17
  · rw [if_pos h17, if_pos h17, h17]
    rfl
  · have e : ∀ x : I4, fixO i (X t i 0) x = x := fun x => by unfold fixO; rw [if_neg (fun h => h17 h.2)]
    have e2 : ∀ l : List I4, l.map (fixO i (X t i 0)) = l := fun l => by
      rw [show fixO i (X t i 0) = id from funext e, List.map_id]
    rw [e2, if_neg h17, if_neg h17]
theorem doc_len {m : Nat} {X : Nat → Nat → Nat → Int} {t i : Nat} : (bDoc m X t i).length ≤ 4 := by
  unfold bDoc
  split
  · exact Nat.le_refl _
  · split
    · show 2 ≤ 4; omega
    · simp
/-- Orders that are laid at once. -/
theorem own_take (W : World) (wd at' : Int) : OwnC (W.alloc (.cells #[.int .i64 1, .int .i64 6, .int .i64 0, .int .i64 0, .int .i64 1, .int .i64 7, .int .i64 1, .int .i64 0, .int .i64 13, .int .i64 wd, .int .i64 6, .int .i64 7, .int .i64 15, .int .i64 6, .int .i64 at', .int .i64 0] 51)) W.heap.size (.slice (some ⟨W.heap.size, 0, none⟩) 4 4) (takeL wd at') :=
  ⟨rfl, .inr ⟨W.heap.size, 4, _, rfl, Nat.le_refl _, heap_alloc_new _ _, Nat.le_refl _, by decide, rfl, rfl⟩⟩
theorem own_give (W : World) (wd : Int) : OwnC (W.alloc (.cells #[.int .i64 1, .int .i64 6, .int .i64 0, .int .i64 0, .int .i64 9, .int .i64 wd, .int .i64 6, .int .i64 0] 51)) W.heap.size (.slice (some ⟨W.heap.size, 0, none⟩) 2 2) (giveL wd) :=
  ⟨rfl, .inr ⟨W.heap.size, 2, _, rfl, Nat.le_refl _, heap_alloc_new _ _, Nat.le_refl _, by decide, rfl, rfl⟩⟩

attribute [local go_sem ↓] appS_eq in
set_option maxRecDepth 100000 in
set_option maxHeartbeats 3200000 in
theorem rlink_any (w : World) (ca : Option Addr) (n cc : Nat) (wa : Option Addr) (words : List Int) (wc lk rg : Nat) (A : Nat → Option Addr) (L C : Nat → Nat) (X : Nat → Nat → Nat → Int) (hp : PIn w ca n A L C X) (hw : SIs w wa words) (hc : COk n L X words.length lk rg) (hg : rg ≤ 6) :
    Calls Try.prog 8 #[prgV ca n cc wa words.length wc lk rg] w fun e w' => ∃ (q : Value) (r : Int), e = .returned (.tuple #[q, .int .i64 r]) ∧ NewQ w n (words ++ List.replicate lk 0) 0 8 (bSpin words.length X) L (.returned q) w' ∧ ((∃ t : Nat, r = (t : Int) ∧ t < n ∧ 400 < lenR (bSpin words.length X) L t ∧ ∀ i, i < t → lenR (bSpin words.length X) L i ≤ 400) ∨ (r = -1 ∧ ∀ i, i < n → lenR (bSpin words.length X) L i ≤ 400)) := by
  obtain ⟨b, hb⟩ : ∃ b : Nat → Nat → List I4, b = bSpin words.length X := ⟨_, rfl⟩
  obtain ⟨PB, hPB⟩ : ∃ o : Obj, o = .cells #[.slice ca n cc, .slice wa words.length wc, .int .i64 lk, .int .i64 rg] 25 := ⟨_, rfl⟩
  obtain ⟨RB, hRB⟩ : ∃ o : Obj, o = .cells #[nilV, nilV, .int .i64 0, .int .i64 0] 25 := ⟨_, rfl⟩
  obtain ⟨g1, cap1, w1, hrun1, hq1, hR1⟩ := new_start w PB RB wa words wc 0 8 hw hc.m64 b L
  have hbS : Below w.heap.size w ((w.alloc PB).alloc RB) := ((Below.refl _ _).alloc (Nat.le_refl _) _).alloc (by simp) _
  have hpS : ((w.alloc PB).alloc RB).heap[w.heap.size]? = some PB := box_later (heap_alloc_new _ _) _
  have hrS : ((w.alloc PB).alloc RB).heap[w.heap.size + 1]? = some RB := by have := heap_alloc_new (w.alloc PB) RB; simpa using this
  obtain ⟨S, hS⟩ : ∃ V, (w.alloc PB).alloc RB = V := ⟨_, rfl⟩
  have hSs : S.heap.size = w.heap.size + 1 + 1 := by rw [← hS]; simp
  rw [hS] at hbS hpS hrS hR1
  have HAT : Hid (∀ V, Below S.heap.size S V → Below w.heap.size w V ∧ V.heap[w.heap.size]? = some (.cells #[.slice ca n cc, .slice wa words.length wc, .int .i64 lk, .int .i64 rg] 25) ∧ V.heap[w.heap.size + 1]? = some (.cells #[nilV, nilV, .int .i64 0, .int .i64 0] 25)) := fun V hV => by
    rw [hPB] at hpS
    rw [hRB] at hrS
    exact ⟨hbS.trans (hV.mono hbS.size), (hV.block _ (box_lt hpS)).trans hpS, (hV.block _ (box_lt hrS)).trans hrS⟩
  have HR1 := Hid.out (p := Hid _) hR1
  have HPR : Hid (PIn w ca n A L C X ∧ COk n L X words.length lk rg ∧ rg ≤ 6) := ⟨hp, hc, hg⟩
  have hn4 := hc.n4
  have hlk4 := hc.lk4
  have hm64 := hc.m64
  rw [← hb]
  have c1 := box_cell (i := 1) hq1 rfl
  have cf : ∀ i, w1.frozen? ⟨w.heap.size + 1 + 1, i, none⟩ = false := fun i => box_free hq1
  obtain ⟨mw, hmw⟩ : ∃ k, words.length = k := ⟨_, rfl⟩
  have HML : Hid (words.length = mw) := hmw
  have HB : Hid (b = bSpin mw X) := by rw [← hmw]; exact hb
  rw [hmw] at HAT HR1 hm64
  rw [hPB, hRB, hmw] at hrun1
  simp only [nilV] at hrun1 c1
  rw [hmw]
  clear hb hPB hRB hbS hpS hrS hS hR1 hp hw hc hq1 hmw hg
  go_enter Try.func8, Try.ntmps8
  go_wp2
  obtain ⟨W, hW⟩ : ∃ V, w1.setCell ⟨w.heap.size + 1 + 1, 1, none⟩ (.slice (some ⟨g1, 0, none⟩) mw cap1) = V := ⟨_, rfl⟩
  rw [hW] at HR1
  rw [hW]
  clear hW hrun1 c1 cf
  obtain ⟨qb, hqb⟩ : ∃ q, w.heap.size + 1 + 1 = q := ⟨_, rfl⟩
  have HQB : Hid (w.heap.size + 1 + 1 = qb) := hqb
  rw [hqb] at HR1
  rw [hqb]
  clear hqb
  go_loopw [5] (fun i wr => ∃ (k : Nat) (ua : Option Addr) (uc : Nat), k ≤ lk ∧ i = .int .i64 k ∧ Hid (RwI S qb (.slice ua (mw + k) uc) (words ++ List.replicate k 0) 0 8 b L 0 wr nilV [])) (fun i _ => lk - (intOf i).toNat)
  case atStart => exact ⟨0, _, _, Nat.zero_le _, rfl, by show RwI _ _ _ _ _ _ _ _ _ _ _ _; simpa using HR1.out⟩
  case round =>
    obtain ⟨k, ua, uc, hk, rfl, HL⟩ := hrel
    clear HR1
    obtain ⟨hwr, hpb, hrb⟩ := HAT.out wr HL.out.low
    have p2 := box_cell (i := 2) hpb rfl
    have hwl : (words ++ List.replicate k 0).length = mw + k := by rw [List.length_append, List.length_replicate, HML.out]
    by_cases hlt : k < lk
    · obtain ⟨g3, cap3, w3, hrun3, hbx3, hR3⟩ := HL.out.word 0 (by rw [hwl]; omega)
      rw [hwl] at hrun3 hR3
      have x1 := box_cell (i := 1) HL.out.box rfl
      have x3 := box_cell (i := 1) hbx3 rfl
      have xf : w3.frozen? ⟨qb, 1, none⟩ = false := box_free hbx3
      have HR3 : Hid (RwI S qb (.slice (some ⟨g3, 0, none⟩) (mw + (k + 1)) cap3) (words ++ List.replicate (k + 1) 0) 0 8 b L 0 (w3.setCell ⟨qb, 1, none⟩ (.slice (some ⟨g3, 0, none⟩) (mw + k + 1) cap3)) nilV []) := by
        show RwI _ _ _ _ _ _ _ _ _ _ _ _
        rw [List.replicate_succ', ← List.append_assoc, ← Nat.add_assoc]
        exact hR3
      clear hR3 hbx3 hwr hpb hrb hwl
      go_wp2
      go_roundw
      case rel => exact ⟨k + 1, _, _, by omega, by go_num, HR3⟩
      case measure => simp [intOf]; omega
    · have hkn : k = lk := by omega
      subst hkn
      clear hwr hpb hrb
      go_wp2
      clear p2
      obtain ⟨ws, hws⟩ : ∃ l, words ++ List.replicate k 0 = l := ⟨_, rfl⟩
      have HWS := Hid.out (p := Hid _) hws
      rw [hws] at HL hwl
      have HWL := Hid.out (p := Hid _) hwl
      obtain ⟨lk, rfl⟩ : ∃ l, l = k := ⟨_, rfl⟩
      clear hws hwl
      have HR1 := HL
      clear HL
      obtain ⟨W1, rfl⟩ : ∃ V, V = wr := ⟨_, rfl⟩
      go_loopw [6] (fun i wr => ∃ (k : Nat) (va : Option Addr) (vc : Nat) (tv : List Value), k ≤ n ∧ i = .int .i64 k ∧ Hid (RwI S qb (.slice ua (mw + lk) uc) ws 0 8 b L k wr (.slice va k vc) tv)) (fun i _ => n - (intOf i).toNat)
      case atStart => exact ⟨0, none, 0, [], Nat.zero_le _, rfl, HR1⟩
      case round =>
        obtain ⟨k, va, vc, tv, hk, rfl, HL⟩ := hrel
        clear HR1
        obtain ⟨hwr, hpb, hrb⟩ := HAT.out wr HL.out.low
        have p0 := box_cell (i := 0) hpb rfl
        have p1 := box_cell (i := 1) hpb rfl
        by_cases hlt : k < n
        · obtain ⟨cb, co, rfl, hcell⟩ := (HPR.out.1.below hwr).code k hlt
          have HRW := Hid.out (p := Hid _) hwr
          obtain ⟨l, hl⟩ : ∃ l, L k = l := ⟨_, rfl⟩
          have hl4 : l ≤ 1000 := by rw [← hl]; exact HPR.out.2.1.L4 k hlt
          have HLK : Hid (L k = l) := hl
          rw [hl] at hcell
          obtain ⟨ak, hak⟩ : ∃ a, A k = a := ⟨_, rfl⟩
          rw [hak] at hcell
          have HIN : Hid (∀ V, Below wr.heap.size wr V → V.cell? ⟨w.heap.size, 0, none⟩ = some (.slice (some ⟨cb, co, none⟩) n cc) ∧ V.cell? ⟨w.heap.size, 1, none⟩ = some (.slice wa mw wc) ∧ V.cell? ⟨cb, co + k, none⟩ = some (.slice ak l (C k)) ∧ ∀ j, j < l → ∃ ab ao, ak = some ⟨ab, ao, none⟩ ∧ V.cell? ⟨ab, ao + j * 4, none⟩ = some (.int .i64 (X k j 0)) ∧ V.cell? ⟨ab, ao + j * 4 + 1, none⟩ = some (.int .i64 (X k j 1)) ∧ V.cell? ⟨ab, ao + j * 4 + 2, none⟩ = some (.int .i64 (X k j 2)) ∧ V.cell? ⟨ab, ao + j * 4 + 3, none⟩ = some (.int .i64 (X k j 3))) := fun V hV => by
            have hwV : Below w.heap.size w V := hwr.trans (hV.mono hwr.size)
            refine ⟨(hV.cell (lt_of_cell p0)).trans p0, (hV.cell (lt_of_cell p1)).trans p1, (hV.cell (lt_of_cell hcell)).trans hcell, fun j hj => ?_⟩
            obtain ⟨ab, ao, e1, c0, c1, c2, c3⟩ := (HPR.out.1.below hwV).ord k j hlt (by rw [hl]; exact hj)
            exact ⟨ab, ao, by rw [← hak, e1], c0, c1, c2, c3⟩
          clear hpb hrb hwr hl hak hcell p1
          go_wp2
          clear p0
          obtain ⟨T, rfl⟩ : ∃ V, V = wr := ⟨_, rfl⟩
          go_loopw [7, 8] (fun bv iv wi => ∃ (j : Nat) (ba : Option Addr) (bc : Nat) (tw : List Value), j ≤ l ∧ iv = .int .i64 j ∧ bv = .slice ba j bc ∧ Hid (BeI T (bDoc mw X k) j wi (.slice ba j bc) tw)) (fun _ iv _ => l - (intOf iv).toNat)
          case atStart => exact ⟨0, none, 0, [], Nat.zero_le _, rfl, rfl, BeI.start _ _⟩
          case round =>
            obtain ⟨j, ba, bc, tw, hj, rfl, rfl, HI⟩ := hrel
            obtain ⟨p0, p1, hcell, hq⟩ := HIN.out wr HI.out.low
            by_cases hjl : j < l
            · obtain ⟨ab, ao, rfl, c0, c1, c2, c3⟩ := hq j hjl
              clear hq
              obtain ⟨x0, e0⟩ : ∃ x, X k j 0 = x := ⟨_, rfl⟩
              obtain ⟨x1, e1⟩ : ∃ x, X k j 1 = x := ⟨_, rfl⟩
              obtain ⟨x2, e2⟩ : ∃ x, X k j 2 = x := ⟨_, rfl⟩
              obtain ⟨x3, e3⟩ : ∃ x, X k j 3 = x := ⟨_, rfl⟩
              have hord : ordAt X k j = (x0, x1, x2, x3) := by unfold ordAt; rw [e0, e1, e2, e3]
              have hcO := HPR.out.2.1.ord k j hlt (by rw [HLK.out]; exact hjl)
              rw [e0] at c0 hcO; rw [e1] at c1 hcO; rw [e2] at c2; rw [e3] at c3
              have hbj : bDoc mw X k j = if x0 = 17 then takeL ((mw : Int) + x1) 0 else if x0 = 18 then giveL ((mw : Int) + x1) else [(x0, x1, x2, x3)] := by unfold bDoc; rw [e0, e1, hord]
              clear e0 e1 e2 e3 hord
              have d0 := fun o => cell_up c0 o
              have d1 := fun o => cell_up c1 o
              have d2 := fun o => cell_up c2 o
              have d3 := fun o => cell_up c3 o
              have pu0 := fun o => cell_up p0 o
              have pu1 := fun o => cell_up p1 o
              have pu2 := fun o o' => cell_up (cell_up p1 o) o'
              by_cases h17 : x0 = 17
              · subst h17
                have hx1 := ok_lock (Or.inl rfl) hcO
                rw [if_pos rfl] at hbj
                have hb2 : Below wr.heap.size wr ((wr.alloc (ordO (17, x1, x2, x3))).alloc (ordO (17, x1, x2, x3))) := ((Below.refl _ _).alloc (Nat.le_refl _) _).alloc (by simp) _
                have hz2 : ((wr.alloc (ordO (17, x1, x2, x3))).alloc (ordO (17, x1, x2, x3))).heap.size = wr.heap.size + 1 + 1 := by simp
                obtain ⟨V2, hV2⟩ : ∃ V, (wr.alloc (ordO (17, x1, x2, x3))).alloc (ordO (17, x1, x2, x3)) = V := ⟨_, rfl⟩
                rw [hV2] at hb2 hz2
                have ho3 := own_take V2 ((mw : Int) + x1) 0
                obtain ⟨g4, cap4, w4, hrun4, hI4⟩ := HI.out.push (hb2.alloc hb2.size _) (v := .slice (some ⟨V2.heap.size, 0, none⟩) 4 4) (by rw [hbj]; exact own_low ho3 hb2.size) (by omega)
                rw [World.size_alloc, hz2] at hrun4
                rw [← hV2] at hrun4
                simp only [ordO] at hrun4
                have HI4 := Hid.out (p := Hid _) hI4
                clear HPR HL HIN HB HLK HAT ho3 hI4 hbj hb2 hz2 hV2 hcO
                go_wp2_with fail
                go_roundw
                case rel => exact ⟨j + 1, _, _, _, by omega, by go_num, rfl, HI4⟩
                case measure => simp [intOf]; omega
              · by_cases h18 : x0 = 18
                · subst h18
                  have hx1 := ok_lock (Or.inr rfl) hcO
                  rw [if_neg h17, if_pos rfl] at hbj
                  have hb2 : Below wr.heap.size wr ((wr.alloc (ordO (18, x1, x2, x3))).alloc (ordO (18, x1, x2, x3))) := ((Below.refl _ _).alloc (Nat.le_refl _) _).alloc (by simp) _
                  have hz2 : ((wr.alloc (ordO (18, x1, x2, x3))).alloc (ordO (18, x1, x2, x3))).heap.size = wr.heap.size + 1 + 1 := by simp
                  obtain ⟨V2, hV2⟩ : ∃ V, (wr.alloc (ordO (18, x1, x2, x3))).alloc (ordO (18, x1, x2, x3)) = V := ⟨_, rfl⟩
                  rw [hV2] at hb2 hz2
                  have ho3 := own_give V2 ((mw : Int) + x1)
                  obtain ⟨g4, cap4, w4, hrun4, hI4⟩ := HI.out.push (hb2.alloc hb2.size _) (v := .slice (some ⟨V2.heap.size, 0, none⟩) 2 2) (by rw [hbj]; exact own_low ho3 hb2.size) (by omega)
                  rw [World.size_alloc, hz2] at hrun4
                  rw [← hV2] at hrun4
                  simp only [ordO] at hrun4
                  have HI4 := Hid.out (p := Hid _) hI4
                  clear HPR HL HIN HB HLK HAT ho3 hI4 hbj hb2 hz2 hV2 hcO
                  go_wp2_with fail
                  go_roundw
                  case rel => exact ⟨j + 1, _, _, _, by omega, by go_num, rfl, HI4⟩
                  case measure => simp [intOf]; omega
                · have h17' : (x0 == 17) = false := by simpa using h17
                  have h18' : (x0 == 18) = false := by simpa using h18
                  rw [if_neg h17, if_neg h18] at hbj
                  have hb2 : Below wr.heap.size wr (wr.alloc (ordO (x0, x1, x2, x3))) := (Below.refl _ _).alloc (Nat.le_refl _) _
                  obtain ⟨ho3, hb3⟩ := own_one (wr.alloc (ordO (x0, x1, x2, x3))) (x0, x1, x2, x3)
                  obtain ⟨g4, cap4, w4, hrun4, hI4⟩ := HI.out.push (hb2.trans (hb3.mono hb2.size)) (v := .slice (some ⟨(wr.alloc (ordO (x0, x1, x2, x3))).heap.size, 0, none⟩) 1 1) (by rw [hbj]; exact own_low ho3 hb2.size) (by omega)
                  rw [World.size_alloc, World.size_alloc] at hrun4
                  simp only [ordO] at hrun4
                  have HI4 := Hid.out (p := Hid _) hI4
                  clear HPR HL HIN HB HLK HAT ho3 hb3 hI4 hbj hb2 hcO
                  go_wp2_with fail
                  go_roundw
                  case rel => exact ⟨j + 1, _, _, _, by omega, by go_num, rfl, HI4⟩
                  case measure => simp [intOf]; omega
            · have hjl' : j = l := by omega
              subst hjl'
              clear hq p1
              have hword : Hid (Calls Try.prog 25 #[.slice ba j bc, .slice ak j (C k)] wr fun e w' => ∃ v, e = .returned v ∧ OwnC w' wr.heap.size v (codeR (b k) (L k)) ∧ Below wr.heap.size wr w') := by
                rw [HLK.out, HB.out, ← doc_fix]
                refine put7_any wr ba bc ak j (C k) (bDoc mw X k) (X k) hl4 HI.out.be (fun i hi => ?_) (fun i hi => doc_len) (fun i x hi hx => ?_)
                · obtain ⟨_, _, _, hq⟩ := HIN.out wr HI.out.low
                  obtain ⟨ab, ao, e, c0, _⟩ := hq i hi
                  exact ⟨ab, ao, e, c0⟩
                · have hiL : i < L k := by rw [HLK.out]; exact hi
                  unfold bDoc at hx
                  by_cases h17 : X k i 0 = 17
                  · rw [if_pos h17] at hx
                    simp only [takeL, List.mem_cons, List.not_mem_nil, or_false] at hx
                    rcases hx with rfl | rfl | rfl | rfl
                    · exact ⟨fun e => by simp at e, fun e => by simp at e⟩
                    · exact ⟨fun e => by simp at e, fun e => by simp at e⟩
                    · exact ⟨fun e => by simp at e, fun e => by simp at e⟩
                    · exact ⟨fun e => by simp at e, fun _ => Or.inr h17⟩
                  · rw [if_neg h17] at hx
                    by_cases h18 : X k i 0 = 18
                    · rw [if_pos h18] at hx
                      simp only [giveL, List.mem_cons, List.not_mem_nil, or_false] at hx
                      rcases hx with rfl | rfl
                      · exact ⟨fun e => by simp at e, fun e => by simp at e⟩
                      · exact ⟨fun e => by simp at e, fun e => by simp at e⟩
                    · rw [if_neg h18] at hx
                      have hx' : x = ordAt X k i := by simpa using hx
                      subst hx'
                      have h1 := new_led HPR.out.2.1 hlt hiL (Or.inl rfl)
                      rw [HLK.out] at h1
                      exact ⟨fun e => ⟨e, h1.2.1 e⟩, fun e => Or.inl ⟨e, h1.2.2 e⟩⟩
              go_wp2_with fail
              refine Calls.mono hword.out ?_
              rintro e w7 ⟨v7, rfl, ho7, hb7⟩
              obtain ⟨a7, c7, rfl⟩ := fam_form ho7
              have hb7' : Below T.heap.size T w7 := HI.out.low.trans (hb7.mono HI.out.low.size)
              obtain ⟨g8, cap8, w8, hrun8, hbx8, hb8, hR8⟩ := HL.out.push hb7' HI.out.low.size ho7 (by omega)
              have hbx7 := (hb7'.block qb (box_lt HL.out.box)).trans HL.out.box
              have y0 := box_cell (i := 0) hbx7 rfl
              have y8 := box_cell (i := 0) hbx8 rfl
              have yf8 : w8.frozen? ⟨qb, 0, none⟩ = false := box_free hbx8
              have HR8 := Hid.out (p := Hid _) hR8
              obtain ⟨l7, hl7⟩ : ∃ x, (codeR (b k) (L k)).length = x := ⟨_, rfl⟩
              rw [hl7] at hrun8 HR8
              rw [hl7]
              clear hl7 ho7 hb7 hb7' hbx8 hb8 hR8 hbx7 hword p0 hcell
              go_wp2_with fail
              go_roundw
              case rel => exact ⟨k + 1, _, _, _, by omega, by go_num, HR8⟩
              case measure => simp [intOf]; omega
        · have hkn : k = n := by omega
          subst hkn
          have y0 := box_cell (i := 0) HL.out.box rfl
          have y1 := box_cell (i := 1) HL.out.box rfl
          have y2 := box_cell (i := 2) HL.out.box rfl
          have y3 := box_cell (i := 3) HL.out.box rfl
          obtain ⟨ca', cc', A', C', e1, hpin⟩ := new_pin HL.out.code (fun t ht => (HL.out.thr t ht).1) (by omega) (fun t ht => by
            unfold lenR
            rw [code_len, HB.out]
            have h1 := spin_pl mw X t (L t)
            have h2 := HPR.out.2.1.L4 t ht
            omega)
          simp only [Value.slice.injEq, true_and] at e1
          obtain ⟨rfl, rfl⟩ := e1
          have HLG : Hid (Calls Try.prog 26 #[.agg #[.slice va k vc, .slice ua (mw + lk) uc, .int .i64 0, .int .i64 8]] wr fun e w' => ∃ r : Int, e = .returned (.int .i64 r) ∧ ((∃ t : Nat, r = (t : Int) ∧ t < k ∧ 400 < lenR b L t ∧ ∀ i, i < t → lenR b L i ≤ 400) ∨ (r = -1 ∧ ∀ i, i < k → lenR b L i ≤ 400)) ∧ Below wr.heap.size wr w') := long_any wr va k vc ua (mw + lk) uc 0 8 A' (lenR b L) C' (numR b L) hpin hn4
          have HRB : Hid (∀ V, Below S.heap.size S V → V.heap[w.heap.size + 1]? = some (.cells #[nilV, nilV, .int .i64 0, .int .i64 0] 25)) := fun V hV => (HAT.out V hV).2.2
          have HBX : Hid (∀ V, Below wr.heap.size wr V → V.heap[qb]? = some (.cells #[.slice va k vc, .slice ua (mw + lk) uc, .int .i64 0, .int .i64 8] 25)) := fun V hV => (hV.block _ (box_lt HL.out.box)).trans HL.out.box
          have HWW := Hid.out (p := Hid _) hwr
          clear hrb hpb hwr HAT HPR HB hpin
          go_wp2_with fail
          refine Calls.mono HLG.out ?_
          rintro e w9 ⟨r, rfl, hr, hb9⟩
          have hbx9 := HBX.out w9 hb9
          have hrb9 := HRB.out w9 (HL.out.low.trans (hb9.mono HL.out.low.size))
          have v0 := box_cell (i := 0) hbx9 rfl
          have v1 := box_cell (i := 1) hbx9 rfl
          have v2 := box_cell (i := 2) hbx9 rfl
          have v3 := box_cell (i := 3) hbx9 rfl
          have z0 := box_cell (i := 0) hrb9 rfl
          have z1 := box_cell (i := 1) hrb9 rfl
          have z2 := box_cell (i := 2) hrb9 rfl
          have z3 := box_cell (i := 3) hrb9 rfl
          have zf : ∀ i, w9.frozen? ⟨w.heap.size + 1, i, none⟩ = false := fun i => box_free hrb9
          have hsz : w.heap.size + 1 < w9.heap.size := box_lt hrb9
          have hlt1 : w.heap.size + 1 < S.heap.size := by omega
          have hqs : w.heap.size + 1 ≠ qb := by have := HQB.out; omega
          have hqs' : qb ≠ w.heap.size + 1 := fun e => hqs e.symm
          have HFI : Hid (RwI S qb (.slice ua (mw + lk) uc) ws 0 8 b L k w9 (.slice va k vc) tv ∧ Below w.heap.size w w9 ∧ ((∃ t : Nat, r = (t : Int) ∧ t < k ∧ 400 < lenR b L t ∧ ∀ i, i < t → lenR b L i ≤ 400) ∨ (r = -1 ∧ ∀ i, i < k → lenR b L i ≤ 400))) := ⟨HL.out.below hb9, HWW.out.trans (hb9.mono HWW.out.size), hr⟩
          clear hbx9 hrb9 hb9 hr HL HBX HRB HLG HWW y0 y1 y2 y3
          go_wp2
          refine bodyPost_ret (v := .tuple #[.agg #[.slice va k vc, .slice ua (mw + lk) uc, .int .i64 0, .int .i64 8], .int .i64 r]) (by simp [results, Try.results8, go_sem, z0, z1, z2, z3]) rfl ?_
          have h1 := HFI.out.1
          have hset : ∀ {e : TypeId} {size : Nat} {v : Value} {n : Nat} {xs : List Value}, w9.ownsRow S.heap.size e size v n xs → ((((w9.setCell ⟨w.heap.size + 1, 0, none⟩ (.slice va k vc)).setCell ⟨w.heap.size + 1, 1, none⟩ (.slice ua (mw + lk) uc)).setCell ⟨w.heap.size + 1, 2, none⟩ (.int .i64 0)).setCell ⟨w.heap.size + 1, 3, none⟩ (.int .i64 8)).ownsRow w.heap.size e size v n xs := fun h => own_low (ownsRow_setCell_below (ownsRow_setCell_below (ownsRow_setCell_below (ownsRow_setCell_below h hlt1 _) hlt1 _) hlt1 _) hlt1 _) (by omega)
          have hw1 : w.heap.size ≤ w.heap.size + 1 := by omega
          refine ⟨_, r, rfl, ⟨va, vc, ua, uc, tv, ?_, hset h1.code, fun t ht => hset (h1.thr t ht).1, ?_, (((HFI.out.2.1.setCell hw1 _).setCell hw1 _).setCell hw1 _).setCell hw1 _⟩, HFI.out.2.2⟩
          · rw [HWS.out, HWL.out]
          · have := hset h1.words
            rw [HWL.out] at this
            rw [HWS.out, HWL.out]
            exact this

end Go.Proofs.Ytefnmbnakphhfad
