/-
  Outcomes in order, each once; by the laws: the walk.
-/
import Derived.Test.YtefnmbnakphhfadZOnce
import Derived.BigQuiet
namespace Go.Proofs.Ytefnmbnakphhfad
open Go.RowKit

attribute [local go_sem ↓] appS_eq
set_option maxRecDepth 100000 in
set_option maxHeartbeats 3200000 in
theorem once_any (w : World) (a : Option Addr) (es : List En) (c : Nat) (hE : EIn w a es) (hok : ∀ x, x ∈ es → EnOk w x) (hn : es.length ≤ 100000) :
    Calls Try.prog 13 #[.slice a es.length c] w fun e w' => ∃ b d fs, e = .returned (.slice b fs.length d) ∧ EIn w' b fs ∧ (∀ x, x ∈ fs → x ∈ es) ∧ fs.map En.o = onceL (es.map En.o) ∧ fs.length ≤ es.length ∧ Below w.heap.size w w' := by
  have HI : Hid (∀ k, k < es.length → EnOk w (es.getD k default) ∧ es.getD k default ∈ es ∧ onceL ((es.take (k + 1)).map En.o) = insO (es.getD k default).o (onceL ((es.take k).map En.o))) := fun k hk => by
    have hm : es.getD k default ∈ es := by
      rw [List.getD_eq_getElem?_getD, List.getElem?_eq_getElem hk]; exact List.getElem_mem hk
    refine ⟨hok _ hm, hm, ?_⟩
    rw [List.take_add_one, List.getElem?_eq_getElem hk, List.getD_eq_getElem?_getD, List.getElem?_eq_getElem hk]
    simp only [Option.toList_some, Option.getD_some, List.map_append, List.map_cons, List.map_nil]
    exact once_snoc _ _
  have HE : Hid (EIn w a es ∧ ∀ x, x ∈ es → EnOk w x) := ⟨hE, hok⟩
  obtain ⟨m, hm⟩ : ∃ m, es.length = m := ⟨_, rfl⟩
  have HM : Hid (es.length = m) := hm
  rw [hm] at HI hn
  rw [hm]
  clear hE hok hm
  go_enter Try.func13, Try.ntmps13
  go_wp2
  go_loopw [3, 4] (fun out i wr => ∃ (k : Nat) (b : Option Addr) (len d : Nat) (fs : List En), k ≤ m ∧ i = .int .i64 k ∧ out = .slice b len d ∧ len ≤ k ∧ Hid (IsO wr w.heap.size b len d fs ∧ (∀ x, x ∈ fs → x ∈ es) ∧ fs.map En.o = onceL ((es.take k).map En.o)) ∧ Below w.heap.size w wr) (fun _ i _ => m - (intOf i).toNat)
  case atStart => exact ⟨0, none, 0, 0, [], Nat.zero_le _, rfl, rfl, Nat.le_refl _, ⟨IsO.nil _ _, fun x hx => (by cases hx), rfl⟩, Below.refl _ _⟩
  case round =>
    obtain ⟨k, b, len, d, fs, hk, rfl, rfl, hl, HJ, hbr⟩ := hrel
    by_cases hlt : k < m
    · obtain ⟨g, o, rfl, Y0, Y1, Y2⟩ := EIn.below HE.out.1 hbr k (by rw [HM.out]; exact hlt)
      have HX := Hid.out (p := Hid _) (HI.out k hlt)
      obtain ⟨x, hx⟩ : ∃ x, es.getD k default = x := ⟨_, rfl⟩
      rw [hx] at HX Y0 Y1 Y2
      have HXX := Hid.out (p := Hid _) hx
      clear hx HI
      go_wp2
      obtain ⟨S, rfl⟩ : ∃ V, V = wr := ⟨_, rfl⟩
      have HYY : Hid (∀ W, Below S.heap.size S W → W.cell? ⟨g, o + k * 3, none⟩ = some (.int .i64 x.o.st) ∧ W.cell? ⟨g, o + k * 3 + 1, none⟩ = some (.slice x.wa x.o.ws.length x.wc) ∧ W.cell? ⟨g, o + k * 3 + 2, none⟩ = some (.slice x.pa x.o.pr.length x.pc)) := fun W h => ⟨(h.cell (lt_of_cell Y0)).trans Y0, (h.cell (lt_of_cell Y1)).trans Y1, (h.cell (lt_of_cell Y2)).trans Y2⟩
      clear Y0 Y1 Y2
      go_loopw [5] (fun at' wi => ∃ j : Nat, j ≤ len ∧ at' = .int .i64 j ∧ Hid (∀ y, y ∈ (fs.map En.o).take j → aheadO y x.o = true) ∧ Below S.heap.size S wi) (fun at' _ => len - (intOf at').toNat)
      case atStart => exact ⟨0, Nat.zero_le _, rfl, fun y hy => (by cases hy), Below.refl _ _⟩
      case round =>
        obtain ⟨j, hj, rfl, HT, hbi⟩ := hrel
        by_cases hjl : j < len
        · obtain ⟨fb, fo, rfl, F0, F1, F2⟩ := (iso_ein HJ.out.1) j (by rw [HJ.out.1.is]; exact hjl)
          have hjf : j < fs.length := by rw [HJ.out.1.is]; exact hjl
          have HFM : Hid (fs.getD j default ∈ fs ∧ (fs.map En.o).getD j default = (fs.getD j default).o ∧ (fs.map En.o).take (j + 1) = (fs.map En.o).take j ++ [(fs.getD j default).o]) := by
            refine ⟨by rw [List.getD_eq_getElem?_getD, List.getElem?_eq_getElem hjf]; exact List.getElem_mem hjf, map_getD hjf, ?_⟩
            rw [take_next (by rw [List.length_map]; exact hjf), map_getD hjf]
          obtain ⟨y, hy⟩ : ∃ y, fs.getD j default = y := ⟨_, rfl⟩
          rw [hy] at F0 F1 F2 HFM
          clear hy hjf
          have HFF : Hid (∀ W, Below S.heap.size S W → W.cell? ⟨fb, fo + j * 3, none⟩ = some (.int .i64 y.o.st) ∧ W.cell? ⟨fb, fo + j * 3 + 1, none⟩ = some (.slice y.wa y.o.ws.length y.wc) ∧ W.cell? ⟨fb, fo + j * 3 + 2, none⟩ = some (.slice y.pa y.o.pr.length y.pc)) := fun W h => ⟨(h.cell (lt_of_cell F0)).trans F0, (h.cell (lt_of_cell F1)).trans F1, (h.cell (lt_of_cell F2)).trans F2⟩
          obtain ⟨f0, f1, f2⟩ := HFF.out _ hbi
          obtain ⟨y0, y1, y2⟩ := HYY.out _ hbi
          clear F0 F1 F2
          have HA1 : Hid (∀ W, Below S.heap.size S W → Calls Try.prog 29 #[enV y, enV x] W fun en w' => en = .returned (.bool (aheadO y.o x.o)) ∧ Below S.heap.size S w') := fun W hb => by
            have hy := (HE.out.2 y (HJ.out.2.1 y HFM.out.1)).below (hbr.trans (hb.mono hbr.size))
            have hx := HX.out.1.below (hbr.trans (hb.mono hbr.size))
            exact (ahead_any W _ _ _ _ hy.oc hx.oc hy.wl hx.wl hy.pl hx.pl).mono fun _ _ g => ⟨g.1, hb.trans (g.2.mono hb.size)⟩
          have HA2 : Hid (∀ W, Below S.heap.size S W → Calls Try.prog 29 #[enV x, enV y] W fun en w' => en = .returned (.bool (aheadO x.o y.o)) ∧ Below S.heap.size S w') := fun W hb => by
            have hy := (HE.out.2 y (HJ.out.2.1 y HFM.out.1)).below (hbr.trans (hb.mono hbr.size))
            have hx := HX.out.1.below (hbr.trans (hb.mono hbr.size))
            exact (ahead_any W _ _ _ _ hx.oc hy.oc hx.wl hy.wl hx.pl hy.pl).mono fun _ _ g => ⟨g.1, hb.trans (g.2.mono hb.size)⟩
          go_wp2_with fail
          refine region_tail 13 (by kernel_rfl) (by kernel_rfl) ?_
          simp only [List.take_succ_cons, List.take_zero, List.drop_succ_cons, List.drop_zero]
          repeat still_step
          refine wpStill_nil ?_
          go_wp2_with fail
          refine Calls.mono (HA1.out _ hbi.drew) ?_
          rintro e w1 ⟨rfl, hb1⟩
          obtain ⟨A, hA⟩ : ∃ A, aheadO y.o x.o = A := ⟨_, rfl⟩
          have HAE := Hid.out (p := Hid _) hA
          rw [hA]
          clear hA f0 f1 f2 y0 y1 y2 HA1
          cases A with
          | true =>
            have HT2 : Hid (∀ z, z ∈ (fs.map En.o).take (j + 1) → aheadO z x.o = true) := fun z hz => by
              rw [HFM.out.2.2] at hz
              rcases List.mem_append.mp hz with hz | hz
              · exact HT.out z hz
              · rw [List.mem_singleton.mp hz]; exact HAE.out
            go_wp2
            go_roundw
            case rel => exact ⟨j + 1, by omega, by go_num, HT2, hb1⟩
            case measure => simp [intOf]; omega
          | false =>
            have HIA : Hid ((aheadO x.o y.o = false → insO x.o (fs.map En.o) = fs.map En.o) ∧ (aheadO x.o y.o = true → insO x.o (fs.map En.o) = (fs.map En.o).take j ++ [x.o] ++ (fs.map En.o).drop j)) := by
              have hfl : (fs.map En.o).length = len := by rw [List.length_map, HJ.out.1.is]
              have h := ins_at (o := x.o) (l := fs.map En.o) (j := j) (by omega) HT.out (fun _ => by rw [HFM.out.2.1]; exact HAE.out)
              rw [HFM.out.2.1] at h
              exact ⟨h.1 (by omega), fun e => h.2 (fun _ => e)⟩
            obtain ⟨f0, f1, f2⟩ := HFF.out _ hb1
            obtain ⟨y0, y1, y2⟩ := HYY.out _ hb1
            go_wp2_with fail
            refine region_tail 8 (by kernel_rfl) (by kernel_rfl) ?_
            simp only [List.take_succ_cons, List.take_zero, List.drop_succ_cons, List.drop_zero]
            repeat still_step
            refine wpStill_nil ?_
            go_wp2_with fail
            refine Calls.mono (HA2.out _ hb1.drew) ?_
            rintro e w4 ⟨rfl, hb4⟩
            obtain ⟨M, hM⟩ : ∃ A, aheadO x.o y.o = A := ⟨_, rfl⟩
            have HME := Hid.out (p := Hid _) hM
            rw [hM]
            clear hM f0 f1 f2 y0 y1 y2 HA2
            cases M with
            | false =>
              have HR : Hid (IsO w4 w.heap.size (some ⟨fb, fo, none⟩) len d fs ∧ (∀ x, x ∈ fs → x ∈ es) ∧ fs.map En.o = onceL ((es.take (k + 1)).map En.o)) := ⟨HJ.out.1.below hb4, HJ.out.2.1, by rw [HX.out.2.2, ← HJ.out.2.2, HIA.out.1 HME.out]⟩
              have HB4 : Hid (Below w.heap.size w w4) := hbr.trans (hb4.mono hbr.size)
              clear HIA HJ HX HT
              go_wp2
              go_roundw
              case rel => exact ⟨k + 1, _, _, _, _, by omega, by go_num, rfl, by omega, HR, HB4.out⟩
              case measure => simp [intOf]; omega
            | true =>
              have HIN : Hid (insO x.o (fs.map En.o) = (fs.map En.o).take j ++ [x.o] ++ (fs.map En.o).drop j) := HIA.out.2 HME.out
              obtain ⟨b, hbb⟩ : ∃ b : Option Addr, b = some ⟨fb, fo, none⟩ := ⟨_, rfl⟩
              rw [← hbb] at HJ
              rw [← hbb]
              clear hbb HIA HFF HFM
              have hO := HJ.out.1.below hb4
              have hsz : w.heap.size ≤ w4.heap.size := Nat.le_trans hbr.size hb4.size
              have hfl := HJ.out.1.is
              have hcp := iso_cap HJ.out.1
              have tl : (fs.take j).length = j := by rw [List.length_take]; omega
              have dl : (fs.drop j).length = len - j := by rw [List.length_drop]; omega
              obtain ⟨b1, d1, w1, hrun1, HS1⟩ := (IsO.nil w4 w4.heap.size).app (Below.refl _ _) (Nat.le_refl _) (fs.take j) b d (src_take (iso_src hO) j) (by omega) (Below.refl _ _)
              rw [tl, Nat.zero_add] at hrun1 HS1
              rw [List.nil_append] at HS1
              obtain ⟨g2, d2, w2, hrun2, HS2⟩ := HS1.out.1.push (Below.refl _ _) HS1.out.2.size (by omega) x HS1.out.2
              have hb2 : Below w4.heap.size w4 w2 := HS2.out.2
              obtain ⟨b3, d3, w3, hrun3, HS3⟩ := HS2.out.1.app (Below.refl _ _) hb2.size (fs.drop j) _ (d - j) (src_drop (iso_src (hO.below hb2)) j d (by omega) (by omega)) (by omega) hb2
              rw [dl] at hrun3 HS3
              have s1 := slice_upto b len d j (by omega)
              have s3 := slice_from b len d j (by omega)
              obtain ⟨sa, hsa⟩ : ∃ q : Option Addr, (if d = j then b else b.map fun x => x.add (j * 3)) = q := ⟨_, rfl⟩
              obtain ⟨sc, hsc⟩ : ∃ q, d - j = q := ⟨_, rfl⟩
              rw [hsa, hsc] at hrun3
              simp only [hsa, hsc] at s3
              clear hsa hsc
              have x1 := (EIn.below HE.out.1 (hbr.trans ((hb4.trans (HS1.out.2.mono hb4.size)).mono hbr.size))) k (by rw [HM.out]; exact hlt)
              rw [HXX.out] at x1
              obtain ⟨g', o', e', z0, z1, z2⟩ := x1
              simp only [Option.some.injEq, Addr.mk.injEq, and_true] at e'
              obtain ⟨rfl, rfl⟩ := e'
              have zu0 := cell_up z0
              have zu1 := cell_up z1
              have zu2 := cell_up z2
              have hb3 : Below w.heap.size w w3 := hbr.trans ((hb4.trans (HS3.out.2.mono hb4.size)).mono hbr.size)
              have HR : Hid (IsO w3 w.heap.size b3 (j + 1 + (len - j)) d3 (fs.take j ++ [x] ++ fs.drop j) ∧ (∀ y, y ∈ fs.take j ++ [x] ++ fs.drop j → y ∈ es) ∧ (fs.take j ++ [x] ++ fs.drop j).map En.o = onceL ((es.take (k + 1)).map En.o)) := by
                refine ⟨⟨HS3.out.1.is, own_low HS3.out.1.own hsz⟩, fun y hy => ?_, ?_⟩
                · rcases List.mem_append.mp hy with hy | hy
                  · rcases List.mem_append.mp hy with hy | hy
                    · exact HJ.out.2.1 y (List.mem_of_mem_take hy)
                    · rw [List.mem_singleton.mp hy]; exact HX.out.2.1
                  · exact HJ.out.2.1 y (List.mem_of_mem_drop hy)
                · rw [HX.out.2.2, ← HJ.out.2.2, HIN.out, List.map_append, List.map_append, List.map_take, List.map_drop]
                  rfl
              have HB3 := Hid.out (p := Hid _) hb3
              clear hO hsz hfl tl dl HS1 HS2 HS3 hb2 hb3 HJ HX HIN HT hcp
              go_wp2
              go_roundw
              case rel => exact ⟨k + 1, _, _, _, _, by omega, by go_num, rfl, by omega, HR, HB3.out⟩
              case measure => simp [intOf]; omega
        · obtain rfl : j = len := by omega
          have HIN : Hid (insO x.o (fs.map En.o) = (fs.map En.o).take j ++ [x.o] ++ (fs.map En.o).drop j) := by
            have hfl : (fs.map En.o).length = j := by rw [List.length_map, HJ.out.1.is]
            exact (ins_at (o := x.o) (l := fs.map En.o) (j := j) (by omega) HT.out (fun h => absurd h (by omega))).2 (fun h => absurd h (by omega))
          go_wp2_with fail
          go_quiet (fail)
          have hbi9 : Below S.heap.size S (wr.drewN nq) := below_drewN hbi
          obtain ⟨W9, hW9⟩ : ∃ V, wr.drewN nq = V := ⟨_, rfl⟩
          rw [hW9] at hbi9
          rw [hW9]
          clear hW9
          have hO := HJ.out.1.below hbi9
          have hsz : w.heap.size ≤ W9.heap.size := Nat.le_trans hbr.size hbi9.size
          have hfl := HJ.out.1.is
          have hcp := iso_cap HJ.out.1
          have tl : (fs.take j).length = j := by rw [List.length_take]; omega
          have dl : (fs.drop j).length = j - j := by rw [List.length_drop]; omega
          obtain ⟨b1, d1, w1, hrun1, HS1⟩ := (IsO.nil W9 W9.heap.size).app (Below.refl _ _) (Nat.le_refl _) (fs.take j) b d (src_take (iso_src hO) j) (by omega) (Below.refl _ _)
          rw [tl, Nat.zero_add] at hrun1 HS1
          rw [List.nil_append] at HS1
          obtain ⟨g2, d2, w2, hrun2, HS2⟩ := HS1.out.1.push (Below.refl _ _) HS1.out.2.size (by omega) x HS1.out.2
          have hb2 : Below W9.heap.size W9 w2 := HS2.out.2
          obtain ⟨b3, d3, w3, hrun3, HS3⟩ := HS2.out.1.app (Below.refl _ _) hb2.size (fs.drop j) _ (d - j) (src_drop (iso_src (hO.below hb2)) j d (by omega) (by omega)) (by omega) hb2
          rw [dl] at hrun3 HS3
          rw [Nat.sub_self, Nat.add_zero] at hrun3 HS3
          have s1 := slice_upto b j d j (by omega)
          have s3 := slice_from b j d j (by omega)
          obtain ⟨sa, hsa⟩ : ∃ q : Option Addr, (if d = j then b else b.map fun x => x.add (j * 3)) = q := ⟨_, rfl⟩
          obtain ⟨sc, hsc⟩ : ∃ q, d - j = q := ⟨_, rfl⟩
          rw [hsa, hsc] at hrun3
          simp only [hsa, hsc, Nat.sub_self] at s3
          clear hsa hsc
          have x1 := (EIn.below HE.out.1 (hbr.trans ((hbi9.trans (HS1.out.2.mono hbi9.size)).mono hbr.size))) k (by rw [HM.out]; exact hlt)
          rw [HXX.out] at x1
          obtain ⟨g', o', e', z0, z1, z2⟩ := x1
          simp only [Option.some.injEq, Addr.mk.injEq, and_true] at e'
          obtain ⟨rfl, rfl⟩ := e'
          have zu0 := cell_up z0
          have zu1 := cell_up z1
          have zu2 := cell_up z2
          have hb3 : Below w.heap.size w w3 := hbr.trans ((hbi9.trans (HS3.out.2.mono hbi9.size)).mono hbr.size)
          have HR : Hid (IsO w3 w.heap.size b3 (j + 1) d3 (fs.take j ++ [x] ++ fs.drop j) ∧ (∀ y, y ∈ fs.take j ++ [x] ++ fs.drop j → y ∈ es) ∧ (fs.take j ++ [x] ++ fs.drop j).map En.o = onceL ((es.take (k + 1)).map En.o)) := by
            refine ⟨⟨HS3.out.1.is, own_low HS3.out.1.own hsz⟩, fun y hy => ?_, ?_⟩
            · rcases List.mem_append.mp hy with hy | hy
              · rcases List.mem_append.mp hy with hy | hy
                · exact HJ.out.2.1 y (List.mem_of_mem_take hy)
                · rw [List.mem_singleton.mp hy]; exact HX.out.2.1
              · exact HJ.out.2.1 y (List.mem_of_mem_drop hy)
            · rw [HX.out.2.2, ← HJ.out.2.2, HIN.out, List.map_append, List.map_append, List.map_take, List.map_drop]
              rfl
          have HB3 := Hid.out (p := Hid _) hb3
          clear hO hsz hfl tl dl HS1 HS2 HS3 hb2 hb3 HJ HX HIN HT hcp
          go_wp2
          go_roundw
          case rel => exact ⟨k + 1, _, _, _, _, by omega, by go_num, rfl, by omega, HR, HB3.out⟩
          case measure => simp [intOf]; omega
    · obtain rfl : k = m := by omega
      have HR : Hid (∃ b' d' fs', (Ending.returned (.slice b len d) : Ending) = .returned (.slice b' fs'.length d') ∧ EIn wr b' fs' ∧ (∀ x, x ∈ fs' → x ∈ es) ∧ fs'.map En.o = onceL (es.map En.o) ∧ fs'.length ≤ k ∧ Below w.heap.size w wr) := by
        obtain ⟨h1, h2, h3⟩ := HJ.out
        rw [List.take_of_length_le (by rw [HM.out]; exact Nat.le_refl _)] at h3
        exact ⟨b, d, fs, by rw [h1.is], iso_ein h1, h2, h3, by rw [h1.is]; exact hl, hbr⟩
      go_wp2
      go_ret
      exact HR.out

end Go.Proofs.Ytefnmbnakphhfad
