/-
  Outcomes in order, each once; by the laws: the walk.
  Outcomes with the first words alone, in order, each once; by the laws.
  A program with colours and the one without: what comes of both is the same, but for the words of spilt registers.
-/
import Derived.Test.YtocfocjnnjdcgaaDoorAlcJ
import Derived.BigQuiet
import Derived.Test.YtocfocjnnjdcgaaDoorRMay
import Derived.Deep.RegionHeld3
import Derived.Test.YtocfocjnnjdcgaaDoorAlhP
import Derived.Test.YtocfocjnnjdcgaaDoorEffP
namespace Go.Proofs.YtocfocjnnjdcgaaDoor
section
open Go.RowKit

attribute [local go_sem ↓] appS_eq
set_option maxRecDepth 100000 in
set_option maxHeartbeats 3200000 in
theorem once_any (w : World) (a : Option Addr) (es : List En) (c : Nat) (hE : EIn w a es) (hok : ∀ x, x ∈ es → EnOk w x) (hn : es.length ≤ 100000) :
    Calls Tryd.prog 47 #[.slice a es.length c] w fun e w' => ∃ b d fs, e = .returned (.slice b fs.length d) ∧ EIn w' b fs ∧ (∀ x, x ∈ fs → x ∈ es) ∧ fs.map En.o = onceL (es.map En.o) ∧ fs.length ≤ es.length ∧ Below w.heap.size w w' := by
  have HI : Hid (∀ k, k < es.length → EnOk w (es.getD k default) ∧ es.getD k default ∈ es ∧ onceL ((es.take (k + 1)).map En.o) = insO (es.getD k default).o (onceL ((es.take k).map En.o))) := fun k hk => by
    have hm : es.getD k default ∈ es := by
      rw [List.getD_eq_getElem?_getD, List.getElem?_eq_getElem hk]; exact List.getElem_mem hk
    refine ⟨hok _ hm, hm, ?_⟩
    rw [List.take_add_one, List.getElem?_eq_getElem hk, List.getD_eq_getElem?_getD, List.getElem?_eq_getElem hk]
    simp only [Option.toList_some, Option.getD_some, List.map_append, List.map_cons, List.map_nil]
    exact once_snoc _ _
  have HE : Hid (EIn w a es ∧ ∀ x, x ∈ es → EnOk w x) := ⟨hE, hok⟩
  obtain ⟨m, hm⟩ : ∃ m, es.length = m := ⟨_, rfl⟩
  have HM : Hid (es.length = m) := hm
  rw [hm] at HI hn
  rw [hm]
  clear hE hok hm
  go_enter Tryd.func47, Tryd.ntmps47
  go_wp2
  go_loopw [3, 4] (fun out i wr => ∃ (k : Nat) (b : Option Addr) (len d : Nat) (fs : List En), k ≤ m ∧ i = .int .i64 k ∧ out = .slice b len d ∧ len ≤ k ∧ Hid (IsO wr w.heap.size b len d fs ∧ (∀ x, x ∈ fs → x ∈ es) ∧ fs.map En.o = onceL ((es.take k).map En.o)) ∧ Below w.heap.size w wr) (fun _ i _ => m - (intOf i).toNat)
  case atStart => exact ⟨0, none, 0, 0, [], Nat.zero_le _, rfl, rfl, Nat.le_refl _, ⟨IsO.nil _ _, fun x hx => (by cases hx), rfl⟩, Below.refl _ _⟩
  case round =>
    obtain ⟨k, b, len, d, fs, hk, rfl, rfl, hl, HJ, hbr⟩ := hrel
    by_cases hlt : k < m
    · obtain ⟨g, o, rfl, Y0, Y1, Y2⟩ := EIn.below HE.out.1 hbr k (by rw [HM.out]; exact hlt)
      have HX := Hid.out (p := Hid _) (HI.out k hlt)
      obtain ⟨x, hx⟩ : ∃ x, es.getD k default = x := ⟨_, rfl⟩
      rw [hx] at HX Y0 Y1 Y2
      have HXX := Hid.out (p := Hid _) hx
      clear hx HI
      go_wp2
      obtain ⟨S, rfl⟩ : ∃ V, V = wr := ⟨_, rfl⟩
      have HYY : Hid (∀ W, Below S.heap.size S W → W.cell? ⟨g, o + k * 3, none⟩ = some (.int .i64 x.o.st) ∧ W.cell? ⟨g, o + k * 3 + 1, none⟩ = some (.slice x.wa x.o.ws.length x.wc) ∧ W.cell? ⟨g, o + k * 3 + 2, none⟩ = some (.slice x.pa x.o.pr.length x.pc)) := fun W h => ⟨(h.cell (lt_of_cell Y0)).trans Y0, (h.cell (lt_of_cell Y1)).trans Y1, (h.cell (lt_of_cell Y2)).trans Y2⟩
      clear Y0 Y1 Y2
      go_loopw [5] (fun at' wi => ∃ j : Nat, j ≤ len ∧ at' = .int .i64 j ∧ Hid (∀ y, y ∈ (fs.map En.o).take j → aheadO y x.o = true) ∧ Below S.heap.size S wi) (fun at' _ => len - (intOf at').toNat)
      case atStart => exact ⟨0, Nat.zero_le _, rfl, fun y hy => (by cases hy), Below.refl _ _⟩
      case round =>
        obtain ⟨j, hj, rfl, HT, hbi⟩ := hrel
        by_cases hjl : j < len
        · obtain ⟨fb, fo, rfl, F0, F1, F2⟩ := (iso_ein HJ.out.1) j (by rw [HJ.out.1.is]; exact hjl)
          have hjf : j < fs.length := by rw [HJ.out.1.is]; exact hjl
          have HFM : Hid (fs.getD j default ∈ fs ∧ (fs.map En.o).getD j default = (fs.getD j default).o ∧ (fs.map En.o).take (j + 1) = (fs.map En.o).take j ++ [(fs.getD j default).o]) := by
            refine ⟨by rw [List.getD_eq_getElem?_getD, List.getElem?_eq_getElem hjf]; exact List.getElem_mem hjf, map_getD hjf, ?_⟩
            rw [take_next (by rw [List.length_map]; exact hjf), map_getD hjf]
          obtain ⟨y, hy⟩ : ∃ y, fs.getD j default = y := ⟨_, rfl⟩
          rw [hy] at F0 F1 F2 HFM
          clear hy hjf
          have HFF : Hid (∀ W, Below S.heap.size S W → W.cell? ⟨fb, fo + j * 3, none⟩ = some (.int .i64 y.o.st) ∧ W.cell? ⟨fb, fo + j * 3 + 1, none⟩ = some (.slice y.wa y.o.ws.length y.wc) ∧ W.cell? ⟨fb, fo + j * 3 + 2, none⟩ = some (.slice y.pa y.o.pr.length y.pc)) := fun W h => ⟨(h.cell (lt_of_cell F0)).trans F0, (h.cell (lt_of_cell F1)).trans F1, (h.cell (lt_of_cell F2)).trans F2⟩
          obtain ⟨f0, f1, f2⟩ := HFF.out _ hbi
          obtain ⟨y0, y1, y2⟩ := HYY.out _ hbi
          clear F0 F1 F2
          have HA1 : Hid (∀ W, Below S.heap.size S W → Calls Tryd.prog 81 #[enV y, enV x] W fun en w' => en = .returned (.bool (aheadO y.o x.o)) ∧ Below S.heap.size S w') := fun W hb => by
            have hy := (HE.out.2 y (HJ.out.2.1 y HFM.out.1)).below (hbr.trans (hb.mono hbr.size))
            have hx := HX.out.1.below (hbr.trans (hb.mono hbr.size))
            exact (ahead_any W _ _ _ _ hy.oc hx.oc hy.wl hx.wl hy.pl hx.pl).mono fun _ _ g => ⟨g.1, hb.trans (g.2.mono hb.size)⟩
          have HA2 : Hid (∀ W, Below S.heap.size S W → Calls Tryd.prog 81 #[enV x, enV y] W fun en w' => en = .returned (.bool (aheadO x.o y.o)) ∧ Below S.heap.size S w') := fun W hb => by
            have hy := (HE.out.2 y (HJ.out.2.1 y HFM.out.1)).below (hbr.trans (hb.mono hbr.size))
            have hx := HX.out.1.below (hbr.trans (hb.mono hbr.size))
            exact (ahead_any W _ _ _ _ hx.oc hy.oc hx.wl hy.wl hx.pl hy.pl).mono fun _ _ g => ⟨g.1, hb.trans (g.2.mono hb.size)⟩
          go_wp2_with fail
          refine region_tail 13 (by kernel_rfl) (by kernel_rfl) ?_
          simp only [List.take_succ_cons, List.take_zero, List.drop_succ_cons, List.drop_zero]
          repeat still_step
          refine wpStill_nil ?_
          go_wp2_with fail
          refine Calls.mono (HA1.out _ hbi.drew) ?_
          rintro e w1 ⟨rfl, hb1⟩
          obtain ⟨A, hA⟩ : ∃ A, aheadO y.o x.o = A := ⟨_, rfl⟩
          have HAE := Hid.out (p := Hid _) hA
          rw [hA]
          clear hA f0 f1 f2 y0 y1 y2 HA1
          cases A with
          | true =>
            have HT2 : Hid (∀ z, z ∈ (fs.map En.o).take (j + 1) → aheadO z x.o = true) := fun z hz => by
              rw [HFM.out.2.2] at hz
              rcases List.mem_append.mp hz with hz | hz
              · exact HT.out z hz
              · rw [List.mem_singleton.mp hz]; exact HAE.out
            go_wp2
            go_roundw
            case rel => exact ⟨j + 1, by omega, by go_num, HT2, hb1⟩
            case measure => simp [intOf]; omega
          | false =>
            have HIA : Hid ((aheadO x.o y.o = false → insO x.o (fs.map En.o) = fs.map En.o) ∧ (aheadO x.o y.o = true → insO x.o (fs.map En.o) = (fs.map En.o).take j ++ [x.o] ++ (fs.map En.o).drop j)) := by
              have hfl : (fs.map En.o).length = len := by rw [List.length_map, HJ.out.1.is]
              have h := ins_at (o := x.o) (l := fs.map En.o) (j := j) (by omega) HT.out (fun _ => by rw [HFM.out.2.1]; exact HAE.out)
              rw [HFM.out.2.1] at h
              exact ⟨h.1 (by omega), fun e => h.2 (fun _ => e)⟩
            obtain ⟨f0, f1, f2⟩ := HFF.out _ hb1
            obtain ⟨y0, y1, y2⟩ := HYY.out _ hb1
            go_wp2_with fail
            refine region_tail 8 (by kernel_rfl) (by kernel_rfl) ?_
            simp only [List.take_succ_cons, List.take_zero, List.drop_succ_cons, List.drop_zero]
            repeat still_step
            refine wpStill_nil ?_
            go_wp2_with fail
            refine Calls.mono (HA2.out _ hb1.drew) ?_
            rintro e w4 ⟨rfl, hb4⟩
            obtain ⟨M, hM⟩ : ∃ A, aheadO x.o y.o = A := ⟨_, rfl⟩
            have HME := Hid.out (p := Hid _) hM
            rw [hM]
            clear hM f0 f1 f2 y0 y1 y2 HA2
            cases M with
            | false =>
              have HR : Hid (IsO w4 w.heap.size (some ⟨fb, fo, none⟩) len d fs ∧ (∀ x, x ∈ fs → x ∈ es) ∧ fs.map En.o = onceL ((es.take (k + 1)).map En.o)) := ⟨HJ.out.1.below hb4, HJ.out.2.1, by rw [HX.out.2.2, ← HJ.out.2.2, HIA.out.1 HME.out]⟩
              have HB4 : Hid (Below w.heap.size w w4) := hbr.trans (hb4.mono hbr.size)
              clear HIA HJ HX HT
              go_wp2
              go_roundw
              case rel => exact ⟨k + 1, _, _, _, _, by omega, by go_num, rfl, by omega, HR, HB4.out⟩
              case measure => simp [intOf]; omega
            | true =>
              have HIN : Hid (insO x.o (fs.map En.o) = (fs.map En.o).take j ++ [x.o] ++ (fs.map En.o).drop j) := HIA.out.2 HME.out
              obtain ⟨b, hbb⟩ : ∃ b : Option Addr, b = some ⟨fb, fo, none⟩ := ⟨_, rfl⟩
              rw [← hbb] at HJ
              rw [← hbb]
              clear hbb HIA HFF HFM
              have hO := HJ.out.1.below hb4
              have hsz : w.heap.size ≤ w4.heap.size := Nat.le_trans hbr.size hb4.size
              have hfl := HJ.out.1.is
              have hcp := iso_cap HJ.out.1
              have tl : (fs.take j).length = j := by rw [List.length_take]; omega
              have dl : (fs.drop j).length = len - j := by rw [List.length_drop]; omega
              obtain ⟨b1, d1, w1, hrun1, HS1⟩ := (IsO.nil w4 w4.heap.size).app (Below.refl _ _) (Nat.le_refl _) (fs.take j) b d (src_take (iso_src hO) j) (by omega) (Below.refl _ _)
              rw [tl, Nat.zero_add] at hrun1 HS1
              rw [List.nil_append] at HS1
              obtain ⟨g2, d2, w2, hrun2, HS2⟩ := HS1.out.1.push (Below.refl _ _) HS1.out.2.size (by omega) x HS1.out.2
              have hb2 : Below w4.heap.size w4 w2 := HS2.out.2
              obtain ⟨b3, d3, w3, hrun3, HS3⟩ := HS2.out.1.app (Below.refl _ _) hb2.size (fs.drop j) _ (d - j) (src_drop (iso_src (hO.below hb2)) j d (by omega) (by omega)) (by omega) hb2
              rw [dl] at hrun3 HS3
              have s1 := slice_upto b len d j (by omega)
              have s3 := slice_from b len d j (by omega)
              obtain ⟨sa, hsa⟩ : ∃ q : Option Addr, (if d = j then b else b.map fun x => x.add (j * 3)) = q := ⟨_, rfl⟩
              obtain ⟨sc, hsc⟩ : ∃ q, d - j = q := ⟨_, rfl⟩
              rw [hsa, hsc] at hrun3
              simp only [hsa, hsc] at s3
              clear hsa hsc
              have x1 := (EIn.below HE.out.1 (hbr.trans ((hb4.trans (HS1.out.2.mono hb4.size)).mono hbr.size))) k (by rw [HM.out]; exact hlt)
              rw [HXX.out] at x1
              obtain ⟨g', o', e', z0, z1, z2⟩ := x1
              simp only [Option.some.injEq, Addr.mk.injEq, and_true] at e'
              obtain ⟨rfl, rfl⟩ := e'
              have zu0 := cell_up z0
              have zu1 := cell_up z1
              have zu2 := cell_up z2
              have hb3 : Below w.heap.size w w3 := hbr.trans ((hb4.trans (HS3.out.2.mono hb4.size)).mono hbr.size)
              have HR : Hid (IsO w3 w.heap.size b3 (j + 1 + (len - j)) d3 (fs.take j ++ [x] ++ fs.drop j) ∧ (∀ y, y ∈ fs.take j ++ [x] ++ fs.drop j → y ∈ es) ∧ (fs.take j ++ [x] ++ fs.drop j).map En.o = onceL ((es.take (k + 1)).map En.o)) := by
                refine ⟨⟨HS3.out.1.is, own_low HS3.out.1.own hsz⟩, fun y hy => ?_, ?_⟩
                · rcases List.mem_append.mp hy with hy | hy
                  · rcases List.mem_append.mp hy with hy | hy
                    · exact HJ.out.2.1 y (List.mem_of_mem_take hy)
                    · rw [List.mem_singleton.mp hy]; exact HX.out.2.1
                  · exact HJ.out.2.1 y (List.mem_of_mem_drop hy)
                · rw [HX.out.2.2, ← HJ.out.2.2, HIN.out, List.map_append, List.map_append, List.map_take, List.map_drop]
                  rfl
              have HB3 := Hid.out (p := Hid _) hb3
              clear hO hsz hfl tl dl HS1 HS2 HS3 hb2 hb3 HJ HX HIN HT hcp
              go_wp2
              go_roundw
              case rel => exact ⟨k + 1, _, _, _, _, by omega, by go_num, rfl, by omega, HR, HB3.out⟩
              case measure => simp [intOf]; omega
        · obtain rfl : j = len := by omega
          have HIN : Hid (insO x.o (fs.map En.o) = (fs.map En.o).take j ++ [x.o] ++ (fs.map En.o).drop j) := by
            have hfl : (fs.map En.o).length = j := by rw [List.length_map, HJ.out.1.is]
            exact (ins_at (o := x.o) (l := fs.map En.o) (j := j) (by omega) HT.out (fun h => absurd h (by omega))).2 (fun h => absurd h (by omega))
          go_wp2_with fail
          go_quiet (fail)
          have hbi9 : Below S.heap.size S (wr.drewN nq) := below_drewN hbi
          obtain ⟨W9, hW9⟩ : ∃ V, wr.drewN nq = V := ⟨_, rfl⟩
          rw [hW9] at hbi9
          rw [hW9]
          clear hW9
          have hO := HJ.out.1.below hbi9
          have hsz : w.heap.size ≤ W9.heap.size := Nat.le_trans hbr.size hbi9.size
          have hfl := HJ.out.1.is
          have hcp := iso_cap HJ.out.1
          have tl : (fs.take j).length = j := by rw [List.length_take]; omega
          have dl : (fs.drop j).length = j - j := by rw [List.length_drop]; omega
          obtain ⟨b1, d1, w1, hrun1, HS1⟩ := (IsO.nil W9 W9.heap.size).app (Below.refl _ _) (Nat.le_refl _) (fs.take j) b d (src_take (iso_src hO) j) (by omega) (Below.refl _ _)
          rw [tl, Nat.zero_add] at hrun1 HS1
          rw [List.nil_append] at HS1
          obtain ⟨g2, d2, w2, hrun2, HS2⟩ := HS1.out.1.push (Below.refl _ _) HS1.out.2.size (by omega) x HS1.out.2
          have hb2 : Below W9.heap.size W9 w2 := HS2.out.2
          obtain ⟨b3, d3, w3, hrun3, HS3⟩ := HS2.out.1.app (Below.refl _ _) hb2.size (fs.drop j) _ (d - j) (src_drop (iso_src (hO.below hb2)) j d (by omega) (by omega)) (by omega) hb2
          rw [dl] at hrun3 HS3
          rw [Nat.sub_self, Nat.add_zero] at hrun3 HS3
          have s1 := slice_upto b j d j (by omega)
          have s3 := slice_from b j d j (by omega)
          obtain ⟨sa, hsa⟩ : ∃ q : Option Addr, (if d = j then b else b.map fun x => x.add (j * 3)) = q := ⟨_, rfl⟩
          obtain ⟨sc, hsc⟩ : ∃ q, d - j = q := ⟨_, rfl⟩
          rw [hsa, hsc] at hrun3
          simp only [hsa, hsc, Nat.sub_self] at s3
          clear hsa hsc
          have x1 := (EIn.below HE.out.1 (hbr.trans ((hbi9.trans (HS1.out.2.mono hbi9.size)).mono hbr.size))) k (by rw [HM.out]; exact hlt)
          rw [HXX.out] at x1
          obtain ⟨g', o', e', z0, z1, z2⟩ := x1
          simp only [Option.some.injEq, Addr.mk.injEq, and_true] at e'
          obtain ⟨rfl, rfl⟩ := e'
          have zu0 := cell_up z0
          have zu1 := cell_up z1
          have zu2 := cell_up z2
          have hb3 : Below w.heap.size w w3 := hbr.trans ((hbi9.trans (HS3.out.2.mono hbi9.size)).mono hbr.size)
          have HR : Hid (IsO w3 w.heap.size b3 (j + 1) d3 (fs.take j ++ [x] ++ fs.drop j) ∧ (∀ y, y ∈ fs.take j ++ [x] ++ fs.drop j → y ∈ es) ∧ (fs.take j ++ [x] ++ fs.drop j).map En.o = onceL ((es.take (k + 1)).map En.o)) := by
            refine ⟨⟨HS3.out.1.is, own_low HS3.out.1.own hsz⟩, fun y hy => ?_, ?_⟩
            · rcases List.mem_append.mp hy with hy | hy
              · rcases List.mem_append.mp hy with hy | hy
                · exact HJ.out.2.1 y (List.mem_of_mem_take hy)
                · rw [List.mem_singleton.mp hy]; exact HX.out.2.1
              · exact HJ.out.2.1 y (List.mem_of_mem_drop hy)
            · rw [HX.out.2.2, ← HJ.out.2.2, HIN.out, List.map_append, List.map_append, List.map_take, List.map_drop]
              rfl
          have HB3 := Hid.out (p := Hid _) hb3
          clear hO hsz hfl tl dl HS1 HS2 HS3 hb2 hb3 HJ HX HIN HT hcp
          go_wp2
          go_roundw
          case rel => exact ⟨k + 1, _, _, _, _, by omega, by go_num, rfl, by omega, HR, HB3.out⟩
          case measure => simp [intOf]; omega
    · obtain rfl : k = m := by omega
      have HR : Hid (∃ b' d' fs', (Ending.returned (.slice b len d) : Ending) = .returned (.slice b' fs'.length d') ∧ EIn wr b' fs' ∧ (∀ x, x ∈ fs' → x ∈ es) ∧ fs'.map En.o = onceL (es.map En.o) ∧ fs'.length ≤ k ∧ Below w.heap.size w wr) := by
        obtain ⟨h1, h2, h3⟩ := HJ.out
        rw [List.take_of_length_le (by rw [HM.out]; exact Nat.le_refl _)] at h3
        exact ⟨b, d, fs, by rw [h1.is], iso_ein h1, h2, h3, by rw [h1.is]; exact hl, hbr⟩
      go_wp2
      go_ret
      exact HR.out
end

section
open Go.RowKit

/-- An outcome with its first words alone; none where the run fell. -/
def cutF (n : Nat) (e : En) : En := if e.o.st = 1 then ⟨⟨1, [], e.o.pr⟩, none, 0, e.pa, e.pc⟩ else ⟨⟨e.o.st, e.o.ws.take n, e.o.pr⟩, e.wa, e.wc, e.pa, e.pc⟩
theorem cutF_ok {w : World} {n : Nat} {e : En} (h : EnOk w e) : EnOk w (cutF n e) := by
  unfold cutF
  split
  · exact ⟨fun i hi => absurd hi (Nat.not_lt_zero _), h.pr, Nat.zero_le _, h.pl⟩
  · refine ⟨fun i hi => ?_, h.pr, ?_, h.pl⟩
    · have hi' : i < (e.o.ws.take n).length := hi
      rw [List.length_take] at hi'
      obtain ⟨b, o, h1, h2⟩ := h.ws i (by omega)
      refine ⟨b, o, h1, ?_⟩
      rw [h2]
      show some (Value.int .i64 (e.o.ws.getD i 0)) = some (.int .i64 ((e.o.ws.take n).getD i 0))
      rw [List.getD_eq_getElem?_getD, List.getD_eq_getElem?_getD, List.getElem?_take_of_lt (by omega)]
    · show (e.o.ws.take n).length ≤ 100000
      rw [List.length_take]
      have := h.wl
      omega

attribute [local go_sem ↓] appS_eq
set_option maxRecDepth 100000 in
set_option maxHeartbeats 3200000 in
theorem first_any (w : World) (a : Option Addr) (es : List En) (c n : Nat) (hE : EIn w a es) (hok : ∀ x, x ∈ es → EnOk w x ∧ x.o.ws.length ≤ x.wc) (hn : es.length ≤ 100000) (hw : ∀ x, x ∈ es → x.o.st ≠ 1 → n ≤ x.o.ws.length) :
    Calls Tryd.prog 25 #[.slice a es.length c, .int .i64 n] w fun e w' => ∃ b d fs, e = .returned (.slice b fs.length d) ∧ EIn w' b fs ∧ (∀ x, x ∈ fs → EnOk w x) ∧ fs.map En.o = onceL (es.map fun x => (cutF n x).o) ∧ fs.length ≤ es.length ∧ Below w.heap.size w w' := by
  have HI : Hid (∀ k, k < es.length → (es.getD k default).o.st ≠ 1 → n ≤ (es.getD k default).o.ws.length ∧ (es.getD k default).o.ws.length ≤ (es.getD k default).wc ∧ (es.getD k default).o.ws.length ≤ 100000 ∧ ((es.getD k default).o.ws.take n).length = n) := fun k hk h0 => by
    have hm : es.getD k default ∈ es := by
      rw [List.getD_eq_getElem?_getD, List.getElem?_eq_getElem hk]; exact List.getElem_mem hk
    have h1 := hw _ hm h0
    exact ⟨h1, (hok _ hm).2, (hok _ hm).1.wl, by rw [List.length_take]; omega⟩
  have HE := Hid.out (p := Hid _) hE
  have HOK := Hid.out (p := Hid _) hok
  obtain ⟨m, hm⟩ : ∃ m, es.length = m := ⟨_, rfl⟩
  have HM : Hid (es.length = m) := hm
  rw [hm] at HI hn ⊢
  clear hE hok hw hm
  go_enter Tryd.func25, Tryd.ntmps25
  go_wp2
  go_loopw [5, 6] (fun out i wr => ∃ (k : Nat) (b : Option Addr) (d : Nat), k ≤ m ∧ i = .int .i64 k ∧ out = .slice b k d ∧ Hid (IsO wr w.heap.size b k d ((es.take k).map (cutF n)) ∧ Below w.heap.size w wr)) (fun _ i _ => m - (intOf i).toNat)
  case atStart => exact ⟨0, none, 0, Nat.zero_le _, rfl, rfl, IsO.nil _ _, Below.refl _ _⟩
  case round =>
    obtain ⟨k, b, d, hk, rfl, rfl, HJ⟩ := hrel
    by_cases hlt : k < m
    · obtain ⟨g, o, rfl, y0, y1, y2⟩ := EIn.below HE.out HJ.out.2 k (by rw [HM.out]; exact hlt)
      have HT : Hid ((es.take (k + 1)).map (cutF n) = (es.take k).map (cutF n) ++ [cutF n (es.getD k default)]) := by
        show _ = _
        have hk' : k < es.length := by rw [HM.out]; exact hlt
        rw [List.take_add_one, List.getElem?_eq_getElem hk', List.getD_eq_getElem?_getD, List.getElem?_eq_getElem hk', List.map_append]
        rfl
      have h0 := Hid.out (p := Hid _) (HI.out k hlt)
      obtain ⟨x, hx⟩ : ∃ x, es.getD k default = x := ⟨_, rfl⟩
      rw [hx] at y0 y1 y2 HT h0
      clear hx
      have hki : (k : Int) < (m : Int) := by omega
      obtain ⟨st, hst⟩ : ∃ q, x.o.st = q := ⟨_, rfl⟩
      rw [hst] at y0
      have HST := Hid.out (p := Hid _) hst
      clear hst HI
      have hbx : ((wr.alloc (.cells #[.int .i64 st, nilV, .slice x.pa x.o.pr.length x.pc] 57)).drew).heap[wr.heap.size]? = some (.cells #[.int .i64 st, nilV, .slice x.pa x.o.pr.length x.pc] 57) := heap_alloc_new wr _
      have hbW : Below wr.heap.size wr ((wr.alloc (.cells #[.int .i64 st, nilV, .slice x.pa x.o.pr.length x.pc] 57)).drew) := (below_one wr _).drew
      have hb0W := HJ.out.2.trans (hbW.mono HJ.out.2.size)
      have z0 := box_cell (i := 0) hbx rfl
      have z1 := box_cell (i := 1) hbx rfl
      have z2 := box_cell (i := 2) hbx rfl
      have zf : ∀ i, ((wr.alloc (.cells #[.int .i64 st, nilV, .slice x.pa x.o.pr.length x.pc] 57)).drew).frozen? ⟨wr.heap.size, i, none⟩ = false := fun i => box_free hbx
      have v0 := (hbW.cell (lt_of_cell y0)).trans y0
      have v1 := (hbW.cell (lt_of_cell y1)).trans y1
      by_cases h1 : st = 1
      · subst h1
        have hce : cutF n x = ⟨⟨1, [], x.o.pr⟩, none, 0, x.pa, x.pc⟩ := if_pos HST.out
        obtain ⟨g3, cap3, w3, hrun3, HS⟩ := HJ.out.1.push hbW HJ.out.2.size (by omega) (cutF n x) hb0W
        rw [← HT.out] at HS
        have hsz : ((wr.alloc (.cells #[.int .i64 1, nilV, .slice x.pa x.o.pr.length x.pc] 57)).drew).heap.size = wr.heap.size + 1 := by
          show (wr.alloc _).heap.size = _
          simp
        have hrun4 : (AppS #[51, 51] 51 #[.slice b k d, .slice (some ⟨wr.heap.size + 1, 0, none⟩) 1 1]).run Tryd.prog (((wr.alloc (.cells #[.int .i64 1, .slice none 0 0, .slice x.pa x.o.pr.length x.pc] 57)).alloc (.cells #[.int .i64 1, .slice none 0 0, .slice x.pa x.o.pr.length x.pc] 57)).drew) = .ok (.slice (some ⟨g3, 0, none⟩) (k + 1) cap3) w3 := by
          rw [hce, hsz] at hrun3
          exact hrun3
        clear hrun3 hce hbx hbW hb0W HT h0
        simp only [nilV] at z0 z1 z2 zf v0 v1
        go_wp2_with fail
        go_region_held3 (fun w' => w'.cell? ⟨g, o + k * 3, none⟩ = some (.int .i64 1) ∧ w'.cell? ⟨g, o + k * 3 + 2, none⟩ = some (.slice x.pa x.o.pr.length x.pc)) (refine ⟨?_, ?_⟩ <;> (repeat (first | (with_reducible assumption) | (with_reducible refine cell_drw ?_) | (with_reducible refine cell_up ?_ _)))) (skip)
        all_goals go_wp2_with fail
        all_goals go_roundw
        case rel => exact ⟨k + 1, _, _, by omega, by go_num, rfl, HS.out⟩
        case measure => simp [intOf]; omega
      · have h1' : (st != 1) = true := by simpa using h1
        obtain ⟨g1, g2, g3', g4⟩ := h0.out (by rw [HST.out]; exact h1)
        have hce : cutF n x = ⟨⟨st, x.o.ws.take n, x.o.pr⟩, x.wa, x.wc, x.pa, x.pc⟩ := by
          unfold cutF
          rw [if_neg (by rw [HST.out]; exact h1), HST.out]
        have hsl := slice_ints x.wa x.o.ws.length x.wc n (by omega)
        have hbW2 : Below wr.heap.size wr ((wr.alloc (.cells #[.int .i64 st, .slice x.wa n x.wc, .slice x.pa x.o.pr.length x.pc] 57)).drew) := (below_one wr _).drew
        have hb0W2 := HJ.out.2.trans (hbW2.mono HJ.out.2.size)
        obtain ⟨g3, cap3, w3, hrun3, HS⟩ := HJ.out.1.push hbW2 HJ.out.2.size (by omega) (cutF n x) hb0W2
        rw [← HT.out] at HS
        have hsz : ((wr.alloc (.cells #[.int .i64 st, .slice x.wa n x.wc, .slice x.pa x.o.pr.length x.pc] 57)).drew).heap.size = wr.heap.size + 1 := by
          show (wr.alloc _).heap.size = _
          simp
        have hrun4 : (AppS #[51, 51] 51 #[.slice b k d, .slice (some ⟨wr.heap.size + 1, 0, none⟩) 1 1]).run Tryd.prog (((wr.alloc (.cells #[.int .i64 st, .slice x.wa n x.wc, .slice x.pa x.o.pr.length x.pc] 57)).alloc (.cells #[.int .i64 st, .slice x.wa n x.wc, .slice x.pa x.o.pr.length x.pc] 57)).drew) = .ok (.slice (some ⟨g3, 0, none⟩) (k + 1) cap3) w3 := by
          rw [hce, hsz] at hrun3
          simp only [g4] at hrun3
          exact hrun3
        clear hrun3 hce hbx hbW hb0W HT h0 hbW2 hb0W2 g1 g2 g3' g4
        simp only [nilV] at z0 z1 z2 zf v0 v1
        go_wp2_with fail
        go_region_held3 (fun w' => w'.cell? ⟨g, o + k * 3, none⟩ = some (.int .i64 st) ∧ w'.cell? ⟨g, o + k * 3 + 2, none⟩ = some (.slice x.pa x.o.pr.length x.pc)) (refine ⟨?_, ?_⟩ <;> (repeat (first | (with_reducible assumption) | (with_reducible refine cell_drw ?_) | (with_reducible refine cell_up ?_ _)))) (skip)
        all_goals go_wp2_with fail
        all_goals go_roundw
        case rel => exact ⟨k + 1, _, _, by omega, by go_num, rfl, HS.out⟩
        case measure => simp [intOf]; omega
    · obtain rfl : k = m := by omega
      have HR : Hid (EIn wr b (es.map (cutF n)) ∧ (es.map (cutF n)).length = k ∧ Below w.heap.size w wr) := by
        have h1 := HJ.out.1
        rw [List.take_of_length_le (by rw [HM.out]; exact Nat.le_refl _)] at h1
        exact ⟨iso_ein h1, h1.is, HJ.out.2⟩
      have HON := Hid.out (p := Hid _) (once_any wr b (es.map (cutF n)) d HR.out.1 (fun y hy => by
        obtain ⟨z, hz, rfl⟩ := List.mem_map.1 hy
        exact cutF_ok ((HOK.out z hz).1.below HR.out.2.2)) (by rw [HR.out.2.1]; exact hn))
      rw [HR.out.2.1] at HON
      go_wp2_with fail
      refine Calls.mono HON.out ?_
      rintro e w2 ⟨b2, d2, fs, rfl, h1, h2, h3, h4, h5⟩
      have HF : Hid (∃ b d fs', (Ending.returned (.slice b2 fs.length d2) : Ending) = .returned (.slice b (List.length fs') d) ∧ EIn w2 b fs' ∧ (∀ x, x ∈ fs' → EnOk w x) ∧ fs'.map En.o = onceL (es.map fun x => (cutF n x).o) ∧ fs'.length ≤ k ∧ Below w.heap.size w w2) := by
        refine ⟨b2, d2, fs, rfl, h1, fun y hy => ?_, by rw [h3, List.map_map]; rfl, by omega, HR.out.2.2.trans (h5.mono HR.out.2.2.size)⟩
        obtain ⟨z, hz, rfl⟩ := List.mem_map.1 (h2 y hy)
        exact cutF_ok (HOK.out z hz).1
      clear h1 h2 h3 h4 h5
      go_wp2_with fail
      go_ret
      exact HF.out
end

section
open Go.RowKit

section
variable {n m lk rg : Nat} {L : Nat → Nat} {X : Nat → Nat → Nat → Int} {K : List (List Int)}
theorem wdT_inj {t u r s : Nat} (hr : r < rg) (hs : s < rg) (h1 : (K.getD t []).getD r 0 < 0) (h2 : (K.getD u []).getD s 0 < 0) (h : wdT m K rg t r = wdT m K rg u s) : t = u ∧ r = s := by
  have a1 := spN_mono (k := K.getD t []) (show r + 1 ≤ rg by omega)
  have a2 := spN_mono (k := K.getD u []) (show s + 1 ≤ rg by omega)
  rw [spN_put h1] at a1
  rw [spN_put h2] at a2
  unfold wdT at h
  have e : t = u := by
    rcases Nat.lt_trichotomy t u with g | g | g
    · have := spT_mono (K := K) (rg := rg) (show t + 1 ≤ u by omega)
      rw [spT] at this
      omega
    · exact g
    · have := spT_mono (K := K) (rg := rg) (show u + 1 ≤ t by omega)
      rw [spT] at this
      omega
  subst e
  refine ⟨rfl, ?_⟩
  rcases Nat.lt_trichotomy r s with g | g | g
  · have := spN_mono (k := K.getD t []) (show r + 1 ≤ s by omega)
    rw [spN_put h1] at this
    omega
  · exact g
  · have := spN_mono (k := K.getD t []) (show s + 1 ≤ r by omega)
    rw [spN_put h2] at this
    omega
theorem alS_of (hc : COk n L X m lk rg) (hP : ColP K n L X rg) {t : Nat} (ht : t < n) : AlS (X t) (L t) rg m (m + spT K rg n) lk (K.getD t []) (wdT m K rg t) :=
  ⟨hP.2 t ht, fun i hi => hc.ord t i ht hi, fun r hr hs => ⟨by unfold wdT; omega, wdT_lt ht hr hs⟩, fun _ _ hr hs h1 h2 h => (wdT_inj hr hs h1 h2 h).2⟩
/-- The words that are a thread's own. -/
def pvA (m rg : Nat) (K : List (List Int)) (t a : Nat) : Prop := ∃ r, r < rg ∧ (K.getD t []).getD r 0 < 0 ∧ a = wdT m K rg t r
theorem alloc_sim (hc : COk n L X m lk rg) (hP : ColP K n L X rg) :
    SimA n (m + spT K rg n) m (lenR (bPnt m rg K X) L) (numR (bPnt m rg K X) L) 8 L X rg (pvA m rg K) (fun t p => dA m (bPnt m rg K X t) (L t) p) (fun t p => lenR (bPnt m rg K X) L t - p) (fun t p rs ws i rs' => QA (X t) (L t) rg (K.getD t []) (wdT m K rg t) p rs ws i rs') := by
  have hlen : ∀ t, lenR (bPnt m rg K X) L t = plR (bA (X t) (K.getD t []) (wdT m K rg t)) (L t) := fun t => by
    unfold lenR
    rw [code_len]
    rfl
  refine ⟨fun t u a ht hu h1 h2 => ?_, fun t a ht h => ?_, fun t ws ht hz => ?_, fun t i rs ws ws' i' rs' ht h hw => ?_, fun t rs ws i' rs' ht h => ?_, fun t i rs ws i' rs' ht h hi hd => ?_, fun t i rs ws i' rs' ht h8 hws h hi hd => ?_, fun t i rs ws i' rs' ht h hi hd => ?_, fun t i rs ws i' rs' ht h8 hrg hws h hi hd fr hnf => ?_⟩
  · obtain ⟨r, hr, g1, rfl⟩ := h1
    obtain ⟨s, hs, g2, e⟩ := h2
    exact (wdT_inj hr hs g1 g2 e).1
  · obtain ⟨r, hr, g1, rfl⟩ := h
    exact (alS_of hc hP ht).wlo r hr g1
  · refine ⟨Nat.zero_le _, Or.inl ⟨0, fun _ => Nat.zero_le _, fun _ => rfl, rfl, fun r hr _ => ?_, fun j hj => absurd hj (Nat.not_lt_zero _)⟩⟩
    have h0 : ∀ q a : Nat, (List.replicate q (0 : Int)).getD a 0 = 0 := fun q a => by
      rw [List.getD_eq_getElem?_getD, List.getElem?_replicate]
      split <;> rfl
    rw [h0]
    unfold vlA
    split
    · rename_i hs
      exact hz _ ((alS_of hc hP ht).wlo r hr hs).1
    · exact h0 _ _
  · have hv : ∀ r, r < rg → vlA (K.getD t []) (wdT m K rg t) rs ws' r = vlA (K.getD t []) (wdT m K rg t) rs ws r := fun r hr => by
      unfold vlA
      split
      · rename_i hs
        exact hw _ ⟨r, hr, hs, rfl⟩
      · rfl
    obtain ⟨h1, ⟨q, h2, h3, h4, h5, h6⟩ | ⟨i0, w, h2, h3, h4, h5, h6, h7, h8, h9⟩⟩ := h
    · exact ⟨h1, Or.inl ⟨q, h2, h3, h4, fun r hr hl => (hv r hr).trans (h5 r hr hl), h6⟩⟩
    · exact ⟨h1, Or.inr ⟨i0, w, h2, h3, h4, h5, h6, h7, fun r hr hne hl => (hv r hr).trans (h8 r hr hne hl), h9⟩⟩
  · rw [hlen] at h
    obtain ⟨h1, ⟨q, h2, h3, h4, _⟩ | ⟨i0, w, h2, h3, h4, h5, h6, h7, _⟩⟩ := h
    · refine Decidable.byContradiction fun e => ?_
      have hlt : i' < L t := by omega
      have g1 := (bl_main (X := X t) (k := K.getD t []) (wd := wdT m K rg t) (i := i')).2
      obtain ⟨tl, g2⟩ := lo_pre (K.getD t []) (wdT m K rg t) (oA (X t) i') q _ (h2 hlt)
      have g3 : (loS (K.getD t []) (wdT m K rg t) (oA (X t) i') q).length ≤ (loS (K.getD t []) (wdT m K rg t) (oA (X t) i') (nrA (X t) i')).length := by
        rw [g2, List.length_append]
        omega
      have g4 := pl_mono (b := bA (X t) (K.getD t []) (wdT m K rg t)) (show i' + 1 ≤ L t by omega)
      rw [plR] at g4
      omega
    · have := pl_mono (b := bA (X t) (K.getD t []) (wdT m K rg t)) h1
      omega
  · rw [hlen] at hi
    rcases h.cases hi with ⟨q, h1, h2, h3, rfl, _⟩ | ⟨h1, _⟩ | ⟨i0, w, h1, rfl, h2, h3, h4, h5, rfl, _⟩
    · exact h1
    · exact h1
    · have := (alS_of hc hP ht).d_keep (wd := wdT m K rg t) h1 h2 h3 h4 h5
      have hd' : dA m (bA (X t) (K.getD t []) (wdT m K rg t)) (L t) _ = false := hd
      rw [this] at hd'
      cases hd'
  · rw [hlen] at hi
    obtain ⟨g1, r, k2, g2, g3⟩ := (alS_of hc hP ht).dr h hi hd h8 hws
    refine ⟨g1, i + 1, r, k2, g2, ?_, by rw [hlen]; omega⟩
    rcases g3 with g3 | ⟨a, v, e, ⟨w, q1, q2, q3⟩, g3⟩
    · exact Or.inl g3
    · exact Or.inr ⟨a, v, e, ⟨w, q1, q2, q3⟩, g3⟩
  · rw [hlen] at hi
    have hS := alS_of hc hP ht
    have hd' : dA m (bA (X t) (K.getD t []) (wdT m K rg t)) (L t) i = false := hd
    rcases h.cases hi with ⟨q, h1, h2, h3, rfl, _⟩ | ⟨h1, rfl, _⟩ | ⟨i0, w, h1, rfl, h2, h3, h4, h5, rfl, _⟩
    · rw [hS.d_load h1 h2 h3] at hd'
      cases hd'
    · have e : ∀ q, numR (bPnt m rg K X) L t (plR (bA (X t) (K.getD t []) (wdT m K rg t)) i' + (loS (K.getD t []) (wdT m K rg t) (oA (X t) i') (nrA (X t) i')).length) q = nth4 (ledO (plR (bA (X t) (K.getD t []) (wdT m K rg t))) (pnX (K.getD t []) (oA (X t) i'))) q := fun q => xa_main h1 q
      have ho := ok_op (hS.ord i' h1)
      rw [e 0, e 1]
      have e0 : nth4 (ledO (plR (bA (X t) (K.getD t []) (wdT m K rg t))) (pnX (K.getD t []) (oA (X t) i'))) 0 = X t i' 0 := pnX_op (K.getD t []) ho
      refine ⟨by rw [e0], fun h17 => ?_⟩
      have e1 : oA (X t) i' = (17, X t i' 1, X t i' 2, X t i' 3) := by unfold oA; rw [h17]
      rw [e1]
      rfl
    · rw [hS.d_keep h1 h2 h3 h4 h5] at hd'
      cases hd'
  · rw [hlen] at hi
    have hS := alS_of hc hP ht
    have hd' : dA m (bA (X t) (K.getD t []) (wdT m K rg t)) (L t) i = false := hd
    rcases h.cases hi with ⟨q, h1, h2, h3, rfl, _⟩ | ⟨h1, h2, h3, h4⟩ | ⟨i0, w, h1, rfl, h2, h3, h4, h5, rfl, _⟩
    · rw [hS.d_load h1 h2 h3] at hd'
      cases hd'
    · exact hS.ef (Nat.le_add_right _ _) h1 h3 h4 h2 h8 hrg fr hnf
    · rw [hS.d_keep h1 h2 h3 h4 h5] at hd'
      cases hd'
end
/-- Where nothing that reckons a word's number falls, both come to the same, but for the words of spilt registers. -/
theorem alloc_same {n lk rg : Nat} {L : Nat → Nat} {X : Nat → Nat → Nat → Int} {K : List (List Int)} {words : List Int} {a b : List Oc} {mx : Nat} (hc : COk n L X words.length lk rg) (hc' : COk n (lenR (bPnt words.length rg K X) L) (numR (bPnt words.length rg K X) L) (words.length + spT K rg n) lk 8) (hP : ColP K n L X rg)
    (ha : Told (nxX L X 0) (outsX L X 0) (beginX n words lk rg) mx false a) (hb : Told (nxX (lenR (bPnt words.length rg K X) L) (numR (bPnt words.length rg K X) L) 0) (outsX (lenR (bPnt words.length rg K X) L) (numR (bPnt words.length rg K X) L) 0) (beginX n (words ++ List.replicate (spT K rg n) 0) lk 8) mx false b)
    (hnf : (∃ t i, t < n ∧ i < L t ∧ rkO (X t i 0)) → ∀ o, o ∈ a → o.st ≠ 1) : ∀ o, o ∈ a ↔ ∃ o', o' ∈ b ∧ o = cutA words.length o' := by
  rcases ha with ⟨e, _⟩ | ⟨_, sa, ma, _⟩
  · cases e
  rcases hb with ⟨e, _⟩ | ⟨_, sb, mb, _⟩
  · cases e
  have hwl : (words ++ List.replicate (spT K rg n) 0).length = words.length + spT K rg n := by rw [List.length_append, List.length_replicate]
  have hs : SOk n L words.length lk rg 0 (beginX n words lk rg) := begin_ok
  have hs' : SOk n (lenR (bPnt words.length rg K X) L) (words.length + spT K rg n) lk 8 0 (beginX n (words ++ List.replicate (spT K rg n) 0) lk (8 : Nat)) := by
    rw [← hwl]
    exact begin_ok
  have hR := alloc_sim hc hP
  have hno : NoF L X (beginX n words lk rg) := fun S hS t ht hab hrk he => by
    have hl := able_lt hab
    have hok := (reach_ok hs rfl hc (Int.le_refl _) hS).1
    have htn : t < n := by rw [← hok.ths]; exact ht
    exact hnf ⟨t, (thOf S t).pc, htn, hl, hrk⟩ _ ((ma _).2 ⟨S, hS, outs_fall ht hab he⟩) rfl
  have hbg : RelA n words.length (fun t p rs ws i rs' => QA (X t) (L t) rg (K.getD t []) (wdT words.length K rg t) p rs ws i rs') (beginX n (words ++ List.replicate (spT K rg n) 0) lk (8 : Nat)) (beginX n words lk rg) := by
    refine RelA.begin hR hs' hs ?_ (fun a ha => ?_) rfl rfl rfl (begin_at n _ lk 8) (begin_at n words lk rg)
    · show words = (words ++ List.replicate (spT K rg n) 0).take words.length
      rw [List.take_left]
    · show (words ++ List.replicate (spT K rg n) 0).getD a 0 = 0
      rw [List.getD_eq_getElem?_getD, List.getElem?_append_right ha, List.getElem?_replicate]
      split <;> rfl
  intro o
  rw [ma]
  rw [simA_same hR hc' hc hs' hs rfl rfl hno hbg]
  constructor
  · rintro ⟨A, o', h1, h2, h3⟩
    exact ⟨o', (mb _).2 ⟨A, h1, h2⟩, h3⟩
  · rintro ⟨o', h1, h2⟩
    obtain ⟨A, g1, g2⟩ := (mb _).1 h1
    exact ⟨A, o', g1, g2, h2⟩
end

end Go.Proofs.YtocfocjnnjdcgaaDoor
