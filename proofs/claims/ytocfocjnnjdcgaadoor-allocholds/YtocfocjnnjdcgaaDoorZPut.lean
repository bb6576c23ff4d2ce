/-
  An outcome is put into its place, by the document.
  All states that were come to, as the document holds them in memory; what stays as it was while its lists grow.
  One state more among those that were come to: what its lists become.
-/
import Derived.Test.YtocfocjnnjdcgaaDoorZSame
import Derived.Test.YtocfocjnnjdcgaaDoorRMay
import Derived.Test.YtocfocjnnjdcgaaDoorZNum
import Derived.Test.YtocfocjnnjdcgaaDoorZCopy
import Derived.Test.YtocfocjnnjdcgaaDoorBox
namespace Go.Proofs.YtocfocjnnjdcgaaDoor
section
open Go.RowKit

/-- An outcome, and where its lists lie. -/
structure En where
  o : Oc
  wa : Option Addr
  wc : Nat
  pa : Option Addr
  pc : Nat
deriving Inhabited
abbrev enV (e : En) : Value := ocV e.o.st e.wa e.o.ws.length e.wc e.pa e.o.pr.length e.pc
def enC (e : En) (j : Nat) : Value := if j = 0 then .int .i64 e.o.st else if j = 1 then .slice e.wa e.o.ws.length e.wc else .slice e.pa e.o.pr.length e.pc
def ensV (es : List En) : List Value := rows3 es.length fun i j => enC (es.getD i default) j
structure EnOk (w : World) (e : En) : Prop where
  ws : LI w e.wa e.o.ws
  pr : LI w e.pa e.o.pr
  wl : e.o.ws.length ≤ 100000
  pl : e.o.pr.length ≤ 100000
theorem EnOk.below {w w' : World} {e : En} (h : EnOk w e) (hb : Below w.heap.size w w') : EnOk w' e := ⟨IIn.below h.ws hb, IIn.below h.pr hb, h.wl, h.pl⟩
theorem EnOk.oc {w : World} {e : En} (h : EnOk w e) : OcAt w (enV e) e.o := ⟨e.wa, e.wc, e.pa, e.pc, rfl, h.ws, h.pr⟩
/-- Outcomes lie in w, one behind the other. -/
def EIn (w : World) (a : Option Addr) (es : List En) : Prop := ∀ i, i < es.length → ∃ b o, a = some ⟨b, o, none⟩ ∧ w.cell? ⟨b, o + i * 3, none⟩ = some (.int .i64 (es.getD i default).o.st) ∧ w.cell? ⟨b, o + i * 3 + 1, none⟩ = some (.slice (es.getD i default).wa (es.getD i default).o.ws.length (es.getD i default).wc) ∧ w.cell? ⟨b, o + i * 3 + 2, none⟩ = some (.slice (es.getD i default).pa (es.getD i default).o.pr.length (es.getD i default).pc)
theorem EIn.below {w w' : World} {a : Option Addr} {es : List En} (h : EIn w a es) (hb : Below w.heap.size w w') : EIn w' a es := fun i hi => by
  obtain ⟨b, o, h1, h2, h3, h4⟩ := h i hi
  exact ⟨b, o, h1, (hb.cell (lt_of_cell h2)).trans h2, (hb.cell (lt_of_cell h3)).trans h3, (hb.cell (lt_of_cell h4)).trans h4⟩
/-- Outcomes that are being written. -/
structure IsO (w : World) (B : Nat) (a : Option Addr) (len c : Nat) (es : List En) : Prop where
  is : es.length = len
  own : w.ownsRow B 57 3 (.slice a len c) len (ensV es)
theorem IsO.nil (w : World) (B : Nat) : IsO w B none 0 0 [] := ⟨rfl, World.ownsRow_nil _ _ _ _⟩
theorem IsO.below {w w1 : World} {B : Nat} {a : Option Addr} {len c : Nat} {es : List En} (h : IsO w B a len c es) (hb : Below w.heap.size w w1) : IsO w1 B a len c es := ⟨h.is, fam_keeps h.own (fun g hg => hb.block g (h.own.lt g hg).2)⟩
theorem ensV_snoc (es : List En) (e : En) : ensV (es ++ [e]) = ensV es ++ [.int .i64 e.o.st, .slice e.wa e.o.ws.length e.wc, .slice e.pa e.o.pr.length e.pc] := by
  unfold ensV
  rw [List.length_append, List.length_singleton, rows3_snoc]
  congr 1
  · refine rows3_congr fun t j ht => ?_
    congr 1
    simp [List.getD, List.getElem?_append_left ht]
  · simp [enC, List.getD]
theorem infoOutcome : (Tryd.prog.info? 57).map (fun i => (i.zero, i.size, i.bytes)) = some (some (.agg #[.int .i64 0, nilV, nilV]), 3, 56) := by kernel_rfl
theorem IsO.push {w0 w W : World} {B : Nat} {a : Option Addr} {len c : Nat} {es : List En} (h : IsO w B a len c es) (hb : Below w.heap.size w W) (hB : B ≤ w.heap.size) (hlen : len ≤ 100000) (e : En) (h0 : Below B w0 W) :
    ∃ g cap w3, (AppS #[51, 51] 51 #[.slice a len c, .slice (some ⟨W.heap.size, 0, none⟩) 1 1]).run Tryd.prog (W.alloc (.cells #[.int .i64 e.o.st, .slice e.wa e.o.ws.length e.wc, .slice e.pa e.o.pr.length e.pc] 57)) = .ok (.slice (some ⟨g, 0, none⟩) (len + 1) cap) w3 ∧ Hid (IsO w3 B (some ⟨g, 0, none⟩) (len + 1) cap (es ++ [e]) ∧ Below B w0 w3) := by
  obtain ⟨g, cap, w3, r1, r2, r3, _⟩ := app_row (T := 51) Tryd.underlying51 infoOutcome rfl (by omega) h.own hb hB 1 #[.int .i64 e.o.st, .slice e.wa e.o.ws.length e.wc, .slice e.pa e.o.pr.length e.pc] rfl (by simp [Value.oneCell']) (by omega) (by omega) (by omega)
  have hBW := Nat.le_trans hB hb.size
  exact ⟨g, cap, w3, r1, ⟨by simp [h.is], by rw [ensV_snoc]; exact r2⟩, (h0.alloc hBW _).grown r3 (by simp; omega) (fun k hk => (h.own.lt k hk).1)⟩
/-- What Put leaves: all as it was, but the list of outcomes. -/
def PutQ (w : World) (pb : Nat) (e : En) (es : List En) (en : Ending) (w' : World) : Prop := en = .returned (.tuple #[]) ∧ ((Below w.heap.size w w' ∧ insO e.o (es.map En.o) = es.map En.o) ∨ ∃ w2 a len c es2, w' = w2.setCell ⟨pb, 4, none⟩ (.slice a len c) ∧ Below w.heap.size w w2 ∧ IsO w2 (w.heap.size + 1) a len c es2 ∧ es2.map En.o = insO e.o (es.map En.o) ∧ ∀ x, x ∈ es2 → x = e ∨ x ∈ es)
theorem map_getD {es : List En} {k : Nat} (hk : k < es.length) : (es.map En.o).getD k default = (es.getD k default).o := by
  simp [List.getD, List.getElem?_eq_getElem hk]

attribute [local go_sem ↓] appS_eq
set_option maxRecDepth 100000 in
set_option maxHeartbeats 3200000 in
theorem oput_any (w : World) (pb : Nat) (ea : Option Addr) (ec : Nat) (es : List En) (e : En) (h4 : w.cell? ⟨pb, 4, none⟩ = some (.slice ea es.length ec)) (hf4 : w.frozen? ⟨pb, 4, none⟩ = false) (hE : EIn w ea es) (hok : ∀ x, x ∈ es → EnOk w x) (he : EnOk w e) (hs : SortedO (es.map En.o)) (hn : es.length ≤ 90000) :
    Calls Tryd.prog 78 #[.pointer (some ⟨pb, 0, none⟩), enV e] w (PutQ w pb e es) := by
  have HI : Hid (∀ k, k < es.length → EnOk w (es.getD k default) ∧ es.getD k default ∈ es) := fun k hk => by
    have hm : es.getD k default ∈ es := by
      rw [List.getD_eq_getElem?_getD, List.getElem?_eq_getElem hk]; exact List.getElem_mem hk
    exact ⟨hok _ hm, hm⟩
  have HE : Hid (EIn w ea es ∧ EnOk w e ∧ SortedO (es.map En.o)) := ⟨hE, he, hs⟩
  obtain ⟨n, hnn⟩ : ∃ n, es.length = n := ⟨_, rfl⟩
  have HN : Hid (es.length = n) := hnn
  rw [hnn] at h4 hn HI
  clear hE hok he hs hnn
  obtain ⟨OC, hOC⟩ : ∃ o : Obj, o = .cells #[.int .i64 e.o.st, .slice e.wa e.o.ws.length e.wc, .slice e.pa e.o.pr.length e.pc] 57 := ⟨_, rfl⟩
  obtain ⟨V0, hV0⟩ : ∃ V, V = w.alloc OC := ⟨_, rfl⟩
  have hz0 : V0.heap.size = w.heap.size + 1 := by rw [hV0]; simp
  have hb0 : Below w.heap.size w V0 := by rw [hV0]; exact (Below.refl _ _).alloc (Nat.le_refl _) _
  have HB0 : Hid (∀ W, Below V0.heap.size V0 W → Below w.heap.size w W) := fun W h => hb0.trans (h.mono hb0.size)
  have kb : V0.heap[w.heap.size]? = some (.cells #[.int .i64 e.o.st, .slice e.wa e.o.ws.length e.wc, .slice e.pa e.o.pr.length e.pc] 57) := by
    rw [← hOC, hV0]
    exact heap_alloc_new w OC
  have HO : Hid (∀ W, Below V0.heap.size V0 W → (W.cell? ⟨w.heap.size, 0, none⟩ = some (.int .i64 e.o.st) ∧ W.cell? ⟨w.heap.size, 1, none⟩ = some (.slice e.wa e.o.ws.length e.wc) ∧ W.cell? ⟨w.heap.size, 2, none⟩ = some (.slice e.pa e.o.pr.length e.pc)) ∧ W.cell? ⟨pb, 4, none⟩ = some (.slice ea n ec)) := fun W h => by
    have k := (h.block w.heap.size (by omega)).trans kb
    exact ⟨⟨box_cell k rfl, box_cell k rfl, box_cell k rfl⟩, ((hb0.trans (h.mono hb0.size)).cell (lt_of_cell h4)).trans h4⟩
  have HV0 : Hid (w.alloc (.cells #[.int .i64 e.o.st, .slice e.wa e.o.ws.length e.wc, .slice e.pa e.o.pr.length e.pc] 57) = V0) := by show _ = _; rw [hV0, hOC]
  have lpb : pb < w.heap.size := lt_of_cell h4
  clear hOC hV0 hb0 kb
  go_enter Tryd.func78, Tryd.ntmps78
  go_wp2_with fail
  rw [HV0.out]
  go_loopw [4, 5, 6] (fun out dn i wr => ∃ (k : Nat) (d : Bool) (a : Option Addr) (len c : Nat) (es2 : List En), k ≤ n ∧ i = .int .i64 k ∧ dn = .bool d ∧ out = .slice a len c ∧ Hid (IsO wr V0.heap.size a len c es2 ∧ es2.map En.o = putK e.o (es.map En.o) d k ∧ PutI e.o (es.map En.o) d k ∧ (∀ x, x ∈ es2 → x = e ∨ x ∈ es) ∧ len ≤ k + 1) ∧ Below V0.heap.size V0 wr) (fun _ _ i _ => n - (intOf i).toNat)
  case atStart => exact ⟨0, false, none, 0, 0, [], Nat.zero_le _, rfl, rfl, rfl, ⟨IsO.nil _ _, rfl, PutI.start _ _, fun x hx => (by cases hx), by omega⟩, Below.refl _ _⟩
  case round =>
    obtain ⟨k, d, a, len, c, es2, hk, rfl, rfl, rfl, HJ, hbr⟩ := hrel
    obtain ⟨⟨o0, o1, o2⟩, h4r⟩ := HO.out _ hbr
    have hbw := HB0.out _ hbr
    by_cases hlt : k < n
    · obtain ⟨hx1, hx2⟩ := HI.out k hlt
      obtain ⟨b, o, rfl, Y0, Y1, Y2⟩ := HE.out.1 k (by rw [HN.out]; exact hlt)
      have HX : Hid (es.getD k default ∈ es ∧ (es.map En.o).getD k default = (es.getD k default).o ∧ k < (es.map En.o).length) := ⟨hx2, map_getD (by rw [HN.out]; exact hlt), by rw [List.length_map, HN.out]; exact hlt⟩
      obtain ⟨x, hx⟩ : ∃ x, es.getD k default = x := ⟨_, rfl⟩
      rw [hx] at hx1 HX Y0 Y1 Y2
      clear hx hx2
      have HYY : Hid (∀ W, Below w.heap.size w W → W.cell? ⟨b, o + k * 3, none⟩ = some (.int .i64 x.o.st) ∧ W.cell? ⟨b, o + k * 3 + 1, none⟩ = some (.slice x.wa x.o.ws.length x.wc) ∧ W.cell? ⟨b, o + k * 3 + 2, none⟩ = some (.slice x.pa x.o.pr.length x.pc)) := fun W h => ⟨(h.cell (lt_of_cell Y0)).trans Y0, (h.cell (lt_of_cell Y1)).trans Y1, (h.cell (lt_of_cell Y2)).trans Y2⟩
      obtain ⟨y0, y1, y2⟩ := HYY.out _ hbw
      clear Y0 Y1 Y2
      have HA1 : Hid (∀ W, Below V0.heap.size V0 W → Calls Tryd.prog 81 #[enV e, enV x] W fun en w' => en = .returned (.bool (aheadO e.o x.o)) ∧ Below V0.heap.size V0 w' ∧ Below W.heap.size W w') := fun W hb => (ahead_any W _ _ _ _ (HE.out.2.1.below (HB0.out _ hb)).oc (hx1.below (HB0.out _ hb)).oc HE.out.2.1.wl hx1.wl HE.out.2.1.pl hx1.pl).mono fun _ _ g => ⟨g.1, hb.trans (g.2.mono hb.size), g.2⟩
      have HA2 : Hid (∀ W, Below V0.heap.size V0 W → Calls Tryd.prog 81 #[enV x, enV e] W fun en w' => en = .returned (.bool (aheadO x.o e.o)) ∧ Below V0.heap.size V0 w' ∧ Below W.heap.size W w') := fun W hb => (ahead_any W _ _ _ _ (hx1.below (HB0.out _ hb)).oc (HE.out.2.1.below (HB0.out _ hb)).oc hx1.wl HE.out.2.1.wl hx1.pl HE.out.2.1.pl).mono fun _ _ g => ⟨g.1, hb.trans (g.2.mono hb.size), g.2⟩
      clear hx1 HI
      go_wp2_with fail
      refine region_tail 8 (by kernel_rfl) (by kernel_rfl) ?_
      simp only [List.take_succ_cons, List.take_zero, List.drop_succ_cons, List.drop_zero]
      repeat still_step
      refine wpStill_nil ?_
      go_wp2_with fail
      refine Calls.mono (HA1.out _ hbr.drew) ?_
      rintro en w1 ⟨rfl, hb1, hc1⟩
      have hI1 := (HJ.out.1.below (Below.refl _ _).drew).below hc1
      obtain ⟨⟨p0, p1, p2⟩, p4⟩ := HO.out _ hb1
      obtain ⟨z0, z1, z2⟩ := HYY.out _ (HB0.out _ hb1)
      have HI1 := Hid.out (p := Hid _) hI1
      clear hI1 hc1 y0 y1 y2 o0 o1 o2 h4r HA1
      go_wp2_with fail
      refine region_tail 8 (by kernel_rfl) (by kernel_rfl) ?_
      simp only [List.take_succ_cons, List.take_zero, List.drop_succ_cons, List.drop_zero]
      repeat still_step
      refine wpStill_nil ?_
      go_wp2_with fail
      refine Calls.mono (HA2.out _ hb1.drew) ?_
      rintro en w2 ⟨rfl, hb2, hc2⟩
      have HI2 := Hid.out (p := Hid _) ((IsO.below HI1.out (Below.refl _ _).drew).below hc2)
      obtain ⟨⟨o0, o1, o2⟩, o4⟩ := HO.out _ hb2
      obtain ⟨y0, y1, y2⟩ := HYY.out _ (HB0.out _ hb2)
      have hbw2 := HB0.out _ hb2
      clear hc2 p0 p1 p2 p4 z0 z1 z2 HA2 HI1
      have HLEN : len ≤ 90001 := by have := HJ.out.2.2.2.2; omega
      obtain ⟨A, hA⟩ : ∃ A, aheadO e.o x.o = A := ⟨_, rfl⟩
      obtain ⟨Bt, hBt⟩ : ∃ A, aheadO x.o e.o = A := ⟨_, rfl⟩
      rw [hA, hBt]
      have HAB : Hid (aheadO e.o x.o = A ∧ aheadO x.o e.o = Bt) := ⟨hA, hBt⟩
      clear hA hBt
      have hsz2 : V0.heap.size ≤ w2.heap.size := hb2.size
      by_cases hno : A = false ∧ Bt = false
      · obtain ⟨rfl, rfl⟩ := hno
        have HTH : Hid (insO e.o (es.map En.o) = es.map En.o) := HJ.out.2.2.1.there HE.out.2.2 HX.out.2.2 (by rw [HX.out.2.1]; exact HAB.out.1) (by rw [HX.out.2.1]; exact HAB.out.2)
        go_wp2
        go_end0
        exact ⟨rfl, Or.inl ⟨hbw2, HTH.out⟩⟩
      by_cases hnow : A = true ∧ d = false
      · obtain ⟨rfl, rfl⟩ := hnow
        have HK : Hid (PutI e.o (es.map En.o) true (k + 1) ∧ putK e.o (es.map En.o) true (k + 1) = putK e.o (es.map En.o) false k ++ [e.o] ++ [x.o]) := by
          rw [← HX.out.2.1]
          exact HJ.out.2.2.1.now HX.out.2.2 (by rw [HX.out.2.1]; exact HAB.out.1)
        obtain ⟨g, cap, w3, hrun, HS⟩ := HI2.out.push (Below.refl _ _) hsz2 (by omega) e hb2
        obtain ⟨_, p4⟩ := HO.out _ HS.out.2
        obtain ⟨z0, z1, z2⟩ := HYY.out _ (HB0.out _ HS.out.2)
        obtain ⟨g4, cap4, w4, hrun4, HS4⟩ := HS.out.1.push (Below.refl _ _) HS.out.2.size (by omega) x HS.out.2
        have HR : Hid (IsO w4 V0.heap.size (some ⟨g4, 0, none⟩) (len + 1 + 1) cap4 (es2 ++ [e] ++ [x]) ∧ (es2 ++ [e] ++ [x]).map En.o = putK e.o (es.map En.o) true (k + 1) ∧ PutI e.o (es.map En.o) true (k + 1) ∧ (∀ y, y ∈ es2 ++ [e] ++ [x] → y = e ∨ y ∈ es) ∧ len + 1 + 1 ≤ k + 1 + 1) := ⟨HS4.out.1, by rw [List.map_append, List.map_append, HJ.out.2.1, HK.out.2]; rfl, HK.out.1, fun y hy => by
          rcases List.mem_append.mp hy with hy | hy
          · rcases List.mem_append.mp hy with hy | hy
            · exact HJ.out.2.2.2.1 y hy
            · exact Or.inl (List.mem_singleton.mp hy)
          · exact Or.inr (by rw [List.mem_singleton.mp hy]; exact HX.out.1), by
          have h1 := HJ.out.1.is
          have h2 := congrArg List.length HJ.out.2.1
          have h3 : (putK e.o (es.map En.o) false k).length ≤ k := by unfold putK; rw [if_neg (by simp), List.length_take]; omega
          rw [List.length_map] at h2
          omega⟩
        have HBW : Hid (Below V0.heap.size V0 w4) := HS4.out.2
        clear HS HS4 HK HI2 HJ HX HAB hno
        go_wp2
        go_roundw
        case rel => exact ⟨k + 1, true, _, _, _, _, by omega, by go_num, rfl, rfl, HR, HBW.out⟩
        case measure => simp [intOf]; omega
      · have HK : Hid (PutI e.o (es.map En.o) d (k + 1) ∧ putK e.o (es.map En.o) d (k + 1) = putK e.o (es.map En.o) d k ++ [x.o]) := by
          rw [← HX.out.2.1]
          cases d with
          | true => exact HJ.out.2.2.1.later HX.out.2.2 rfl
          | false =>
            refine HJ.out.2.2.1.skip HX.out.2.2 ?_
            rw [HX.out.2.1, HAB.out.2]
            cases A with
            | true => exact absurd ⟨rfl, rfl⟩ hnow
            | false =>
              cases Bt with
              | true => rfl
              | false => exact absurd ⟨rfl, rfl⟩ hno
        obtain ⟨g, cap, w3, hrun, HS⟩ := HI2.out.push (Below.refl _ _) hsz2 (by omega) x hb2
        have HR : Hid (IsO w3 V0.heap.size (some ⟨g, 0, none⟩) (len + 1) cap (es2 ++ [x]) ∧ (es2 ++ [x]).map En.o = putK e.o (es.map En.o) d (k + 1) ∧ PutI e.o (es.map En.o) d (k + 1) ∧ (∀ y, y ∈ es2 ++ [x] → y = e ∨ y ∈ es) ∧ len + 1 ≤ k + 1 + 1) := ⟨HS.out.1, by rw [List.map_append, HJ.out.2.1, HK.out.2]; rfl, HK.out.1, fun y hy => by
          rcases List.mem_append.mp hy with hy | hy
          · exact HJ.out.2.2.2.1 y hy
          · exact Or.inr (by rw [List.mem_singleton.mp hy]; exact HX.out.1), by have := HJ.out.2.2.2.2; omega⟩
        have HBW : Hid (Below V0.heap.size V0 w3) := HS.out.2
        clear HS HK HI2 HJ HX HAB
        cases A with
        | true =>
          cases d with
          | false => exact absurd ⟨rfl, rfl⟩ hnow
          | true =>
            clear hno hnow
            go_wp2
            go_roundw
            case rel => exact ⟨k + 1, true, _, _, _, _, by omega, by go_num, rfl, rfl, HR, HBW.out⟩
            case measure => simp [intOf]; omega
        | false =>
          cases Bt with
          | false => exact absurd ⟨rfl, rfl⟩ hno
          | true =>
            clear hno hnow
            go_wp2
            go_roundw
            case rel => exact ⟨k + 1, d, _, _, _, _, by omega, by go_num, rfl, rfl, HR, HBW.out⟩
            case measure => simp [intOf]; omega
    · obtain rfl : k = n := by omega
      have HLA : Hid (insO e.o (es.map En.o) = if d then putK e.o (es.map En.o) true k else putK e.o (es.map En.o) false k ++ [e.o]) := by
        have hl : (es.map En.o).length = k := by rw [List.length_map, HN.out]
        have := HJ.out.2.2.1
        rw [← hl] at this
        have h2 := this.last
        rw [hl] at h2
        exact h2
      have hf4r : wr.frozen? ⟨pb, 4, none⟩ = false := (World.frozen?_of_block (hbw.block _ lpb)).trans hf4
      have hsz2 : V0.heap.size ≤ wr.heap.size := hbr.size
      have hlen : len ≤ 90001 := by have := HJ.out.2.2.2.2; omega
      cases d with
      | true =>
        have HR : Hid (PutQ w pb e es (.returned (.tuple #[])) (wr.setCell ⟨pb, 4, none⟩ (.slice a len c))) := ⟨rfl, Or.inr ⟨wr, a, len, c, es2, rfl, hbw, by rw [← hz0]; exact HJ.out.1, by rw [HJ.out.2.1, HLA.out, if_pos rfl], HJ.out.2.2.2.1⟩⟩
        clear HJ HLA
        go_wp2
        go_end0
        exact HR.out
      | false =>
        obtain ⟨g, cap, w3, hrun, HS⟩ := HJ.out.1.push (Below.refl _ _) hsz2 (by omega) e hbr
        have hbw3 := HB0.out _ HS.out.2
        have f3 : w3.frozen? ⟨pb, 4, none⟩ = false := (World.frozen?_of_block (hbw3.block _ lpb)).trans hf4
        have h43 := (HO.out _ HS.out.2).2
        have HR : Hid (PutQ w pb e es (.returned (.tuple #[])) (w3.setCell ⟨pb, 4, none⟩ (.slice (some ⟨g, 0, none⟩) (len + 1) cap))) := ⟨rfl, Or.inr ⟨w3, _, _, _, es2 ++ [e], rfl, hbw3, by rw [← hz0]; exact HS.out.1, by rw [List.map_append, HJ.out.2.1, HLA.out, if_neg (by simp)]; rfl, fun y hy => by
          rcases List.mem_append.mp hy with hy | hy
          · exact HJ.out.2.2.2.1 y hy
          · exact Or.inl (List.mem_singleton.mp hy)⟩⟩
        clear HJ HLA HS
        go_wp2
        go_end0
        exact HR.out
end

section
open Go.RowKit

section
variable {ι : Type} {w w' : World} {vf vf' : ι → Value}
/-- Something that lies outside of rows that have turned is as it was, and still outside. -/
theorem DSt.moved {B : Nat} {P : Pg} {sb : Nat} {v : Rl → Value} {s : Sx} (h : DSt w B P sb v s) (ho : ∀ r g, (v r).ownBlock = some g → ∀ q, (vf q).ownBlock ≠ some g) (hm : Moved w w' vf vf') : DSt w' B P sb v s ∧ ∀ r g, (v r).ownBlock = some g → ∀ q, (vf' q).ownBlock ≠ some g :=
  ⟨⟨⟨fun r => fam_keeps (h.fam.own r) (fun g hg => hm.block g (h.fam.lt hg) (ho r g hg)), h.fam.apart⟩, h.box⟩, fun r g hg => hm.out (h.fam.lt hg) (ho r g hg)⟩
theorem IsI.moved {B : Nat} {a : Option Addr} {len c : Nat} {xs : List Int} (h : IsI w B a len c xs) (ho : ∀ g, (Value.slice a len c).ownBlock = some g → ∀ q, (vf q).ownBlock ≠ some g) (hm : Moved w w' vf vf') : IsI w' B a len c xs ∧ ∀ g, (Value.slice a len c).ownBlock = some g → ∀ q, (vf' q).ownBlock ≠ some g :=
  ⟨⟨h.is, fam_keeps h.own (fun g hg => hm.block g (h.own.lt g hg).2 (ho g hg))⟩, fun g hg => hm.out (h.own.lt g hg).2 (ho g hg)⟩
/-- A list of numbers that lies outside of rows. -/
def LIo (w : World) (vf : ι → Value) (a : Option Addr) (x : List Int) : Prop := ∀ i, i < x.length → ∃ b o, a = some ⟨b, o, none⟩ ∧ w.cell? ⟨b, o + i, none⟩ = some (.int .i64 (x.getD i 0)) ∧ ∀ q, (vf q).ownBlock ≠ some b
theorem LIo.li {a : Option Addr} {x : List Int} (h : LIo w vf a x) : LI w a x := fun i hi => by
  obtain ⟨b, o, h1, h2, _⟩ := h i hi
  exact ⟨b, o, h1, h2⟩
theorem LIo.moved {a : Option Addr} {x : List Int} (h : LIo w vf a x) (hm : Moved w w' vf vf') : LIo w' vf' a x := fun i hi => by
  obtain ⟨b, o, h1, h2, h3⟩ := h i hi
  exact ⟨b, o, h1, (hm.cell (a := ⟨b, o + i, none⟩) (lt_of_cell h2) h3).trans h2, hm.out (lt_of_cell h2) h3⟩
end

/-- The rows of a space. -/
inductive Sr where
  | box
  | st
  | ks
  | hd
  | bf
deriving DecidableEq
def sTy : Sr → TypeId
  | .box => 53
  | .st => 129
  | .ks => 23
  | _ => 3
def sSz : Sr → Nat
  | .box => 6
  | _ => 1
/-- What a space holds: where its states lie, the states, where their numbers lie, the outcomes, whether there are too many. -/
structure Sd where
  sbs : List Nat
  ss : List Sx
  ks : List (Option Addr × Nat)
  ends : Value
  full : Bool
def keyL (d : Sd) (i : Nat) : List Int := numsX (d.ss.getD i default)
def sumsD (d : Sd) (i : Nat) : Nat := sumL (keyL d i)
def keyV (d : Sd) (i : Nat) : Value := .slice (d.ks.getD i default).1 (keyL d i).length (d.ks.getD i default).2
def headsD (d : Sd) : List Int := (List.range 4096).map fun h => lastS (sumsD d) h d.ss.length
def beforeD (d : Sd) : List Int := (List.range d.ss.length).map fun i => lastS (sumsD d) (sumsD d i) i
def sN (d : Sd) : Sr → Nat
  | .box => 1
  | .hd => 4096
  | _ => d.ss.length
def sX (v : Sr → Value) (d : Sd) : Sr → List Value
  | .box => [v .st, v .ks, v .hd, v .bf, d.ends, .bool d.full]
  | .st => d.sbs.map fun b => .pointer (some ⟨b, 0, none⟩)
  | .ks => (List.range d.ss.length).map (keyV d)
  | .hd => intsV (headsD d)
  | .bf => intsV (beforeD d)
structure SpIn (w : World) (B : Nat) (P : Pg) (pb : Nat) (v : Sr → Value) (d : Sd) : Prop where
  fam : Fam w B sTy sSz v (sN d) (sX v d)
  box : v .box = boxV pb
  len : d.sbs.length = d.ss.length
  klen : d.ks.length = d.ss.length
  states : ∀ i, i < d.ss.length → ∃ B' v', DSt w B' P (d.sbs.getD i 0) v' (d.ss.getD i default) ∧ ∀ r g, (v' r).ownBlock = some g → ∀ q, (v q).ownBlock ≠ some g
  keys : ∀ i, i < d.ss.length → ∃ B', IsI w B' (d.ks.getD i default).1 (keyL d i).length (d.ks.getD i default).2 (keyL d i) ∧ ∀ g, (keyV d i).ownBlock = some g → ∀ q, (v q).ownBlock ≠ some g
section
variable {w w1 : World} {B : Nat} {P : Pg} {pb : Nat} {v : Sr → Value} {d : Sd}
theorem SpIn.below (h : SpIn w B P pb v d) (hb : Below w.heap.size w w1) : SpIn w1 B P pb v d :=
  ⟨h.fam.below hb, h.box, h.len, h.klen, fun i hi => by
    obtain ⟨B', v', h1, h2⟩ := h.states i hi
    exact ⟨B', v', h1.below hb, h2⟩, fun i hi => by
    obtain ⟨B', h1, h2⟩ := h.keys i hi
    exact ⟨B', h1.below hb, h2⟩⟩
theorem SpIn.bblk (h : SpIn w B P pb v d) : (v .box).ownBlock = some pb := by rw [h.box]; rfl
theorem SpIn.c0 (h : SpIn w B P pb v d) : w.cell? ⟨pb, 0, none⟩ = some (v .st) := h.fam.cell h.bblk rfl
theorem SpIn.c1 (h : SpIn w B P pb v d) : w.cell? ⟨pb, 1, none⟩ = some (v .ks) := h.fam.cell h.bblk rfl
theorem SpIn.c2 (h : SpIn w B P pb v d) : w.cell? ⟨pb, 2, none⟩ = some (v .hd) := h.fam.cell h.bblk rfl
theorem SpIn.c3 (h : SpIn w B P pb v d) : w.cell? ⟨pb, 3, none⟩ = some (v .bf) := h.fam.cell h.bblk rfl
theorem SpIn.c4 (h : SpIn w B P pb v d) : w.cell? ⟨pb, 4, none⟩ = some d.ends := h.fam.cell h.bblk rfl
theorem SpIn.c5 (h : SpIn w B P pb v d) : w.cell? ⟨pb, 5, none⟩ = some (.bool d.full) := h.fam.cell h.bblk rfl
theorem SpIn.hdB (h : SpIn w B P pb v d) : ∃ hb hc, v .hd = .slice (some ⟨hb, 0, none⟩) 4096 hc ∧ (v .hd).ownBlock = some hb := by
  obtain ⟨g, c, h1, h2, _, _⟩ := fam_block (h.fam.own .hd) (by show 0 < 4096; omega)
  exact ⟨g, c, h1, h2⟩
theorem SpIn.head (h : SpIn w B P pb v d) {hb k : Nat} (e : (v .hd).ownBlock = some hb) (hk : k < 4096) : w.cell? ⟨hb, k, none⟩ = some (.int .i64 (lastS (sumsD d) k d.ss.length)) := by
  refine h.fam.cell e (u := .int .i64 _) ?_
  show (intsV (headsD d))[k]? = _
  unfold intsV headsD
  rw [List.map_map, List.getElem?_map, List.getElem?_range hk]
  rfl
theorem SpIn.bfB (h : SpIn w B P pb v d) (hn : 0 < d.ss.length) : ∃ hb hc, v .bf = .slice (some ⟨hb, 0, none⟩) d.ss.length hc ∧ (v .bf).ownBlock = some hb := by
  obtain ⟨g, c, h1, h2, _, _⟩ := fam_block (h.fam.own .bf) (by exact hn)
  exact ⟨g, c, h1, h2⟩
theorem SpIn.before (h : SpIn w B P pb v d) {hb i : Nat} (e : (v .bf).ownBlock = some hb) (hi : i < d.ss.length) : w.cell? ⟨hb, i, none⟩ = some (.int .i64 (lastS (sumsD d) (sumsD d i) i)) := by
  refine h.fam.cell e (u := .int .i64 _) ?_
  show (intsV (beforeD d))[i]? = _
  unfold intsV beforeD
  rw [List.map_map, List.getElem?_map, List.getElem?_range hi]
  rfl
theorem SpIn.ksB (h : SpIn w B P pb v d) (hn : 0 < d.ss.length) : ∃ hb hc, v .ks = .slice (some ⟨hb, 0, none⟩) d.ss.length hc ∧ (v .ks).ownBlock = some hb := by
  obtain ⟨g, c, h1, h2, _, _⟩ := fam_block (h.fam.own .ks) (by exact hn)
  exact ⟨g, c, h1, h2⟩
theorem SpIn.key (h : SpIn w B P pb v d) {hb i : Nat} (e : (v .ks).ownBlock = some hb) (hi : i < d.ss.length) : w.cell? ⟨hb, i, none⟩ = some (keyV d i) := by
  refine h.fam.cell e ?_
  show ((List.range d.ss.length).map (keyV d))[i]? = _
  rw [List.getElem?_map, List.getElem?_range hi]
  rfl
end
end

section
open Go.RowKit

theorem infoP : (Tryd.prog.info? 129).map (fun i => (i.zero, i.size, i.bytes)) = some (some (.pointer none), 1, 8) := by kernel_rfl
theorem infoL : (Tryd.prog.info? 23).map (fun i => (i.zero, i.size, i.bytes)) = some (some nilV, 1, 24) := by kernel_rfl

section
variable {ι : Type} [DecidableEq ι] {w w1 : World} {B : Nat} {ty : ι → TypeId} {sz : ι → Nat} {v : ι → Value} {n : ι → Nat} {xs : ι → List Value}
/-- A row that grew. -/
theorem Fam.grew (h : Fam w B ty sz v n xs) {r : ι} {g m c H : Nat} {ys : List Value} (hown : w1.ownsRow B (ty r) (sz r) (.slice (some ⟨g, 0, none⟩) m c) m ys) (hgrow : w.grownBy w1 (v r).ownBlock) (hat : (v r).ownBlock = some g ∨ g = H) (hH : w.heap.size ≤ H) :
    Fam w1 B ty sz (upd v r (.slice (some ⟨g, 0, none⟩) m c)) (upd n r m) (upd xs r ys) :=
  h.grow (r := r) (n1 := upd n r m) (xs1 := upd xs r ys) hown hgrow hat hH (upd_self _ _ _) (fun _ hq => upd_ne _ _ hq) (upd_self _ _ _) (fun _ hq => upd_ne _ _ hq)
theorem Fam.store (h : Fam w B ty sz v n xs) {r : ι} {g : Nat} (e : (v r).ownBlock = some g) (i : Nat) (u : Value) : Fam (w.setCell ⟨g, i, none⟩ u) B ty sz v n (upd xs r ((xs r).set i u)) :=
  h.put e i u (fun _ => rfl) (upd_self _ _ _) (fun _ hq => upd_ne _ _ hq)
end

/-- One state more. -/
def Sd.push (d : Sd) (xb : Nat) (sx : Sx) (ka : Option Addr) (kc : Nat) : Sd := ⟨d.sbs ++ [xb], d.ss ++ [sx], d.ks ++ [(ka, kc)], d.ends, d.full || decide (4000 < d.ss.length + 1)⟩
section
variable {d : Sd} {xb : Nat} {sx : Sx} {ka : Option Addr} {kc : Nat}
theorem push_ss {i : Nat} (hi : i < d.ss.length) : (d.push xb sx ka kc).ss.getD i default = d.ss.getD i default := by
  show (d.ss ++ [sx]).getD i default = _
  simp [List.getD, List.getElem?_append_left hi]
theorem push_new : (d.push xb sx ka kc).ss.getD d.ss.length default = sx := by
  show (d.ss ++ [sx]).getD d.ss.length default = _
  simp [List.getD]
theorem push_len : (d.push xb sx ka kc).ss.length = d.ss.length + 1 := by
  show (d.ss ++ [sx]).length = _
  simp
theorem push_key {i : Nat} (hi : i < d.ss.length) : keyL (d.push xb sx ka kc) i = keyL d i := by unfold keyL; rw [push_ss hi]
theorem push_keyN : keyL (d.push xb sx ka kc) d.ss.length = numsX sx := by unfold keyL; rw [push_new]
theorem push_sum {i : Nat} (hi : i < d.ss.length) : sumsD (d.push xb sx ka kc) i = sumsD d i := by unfold sumsD; rw [push_key hi]
theorem push_sumN : sumsD (d.push xb sx ka kc) d.ss.length = sumL (numsX sx) := by unfold sumsD; rw [push_keyN]
theorem push_before : beforeD (d.push xb sx ka kc) = beforeD d ++ [lastS (sumsD d) (sumL (numsX sx)) d.ss.length] := by
  unfold beforeD
  rw [push_len, List.range_succ, List.map_append]
  congr 1
  · refine List.map_congr_left fun i hi => ?_
    have hi' : i < d.ss.length := by simpa using hi
    rw [push_sum hi', last_congr i (fun j hj => push_sum (by omega))]
  · simp only [List.map_cons, List.map_nil]
    rw [push_sumN, last_congr d.ss.length (fun j hj => push_sum hj)]
theorem push_heads {h : Nat} (hh : sumL (numsX sx) = h) : headsD (d.push xb sx ka kc) = (headsD d).set h (d.ss.length : Nat) := by
  have hlt : h < 4096 := by rw [← hh]; exact sumL_lt _
  unfold headsD
  refine List.ext_getElem? fun i => ?_
  rw [List.getElem?_set, List.getElem?_map, List.getElem?_map]
  by_cases hi : i < 4096
  · rw [List.getElem?_range hi]
    by_cases he : h = i
    · subst he
      rw [if_pos rfl, if_pos (by simpa using hlt), push_len]
      show some (lastS _ h (d.ss.length + 1)) = _
      unfold lastS
      rw [if_pos (by rw [push_sumN]; exact hh)]
    · rw [if_neg he, push_len]
      show some (lastS _ i (d.ss.length + 1)) = some _
      rw [show lastS (sumsD (d.push xb sx ka kc)) i (d.ss.length + 1) = lastS (sumsD (d.push xb sx ka kc)) i d.ss.length by
        conv => lhs; unfold lastS
        rw [if_neg (by rw [push_sumN, hh]; exact he)], last_congr d.ss.length (fun j hj => push_sum hj)]
  · rw [List.getElem?_eq_none (by simpa using Nat.le_of_not_lt hi)]
    have hne : ¬ h = i := by omega
    rw [if_neg hne]
    rfl
theorem push_kv {i : Nat} (hk : d.ks.length = d.ss.length) (hi : i < d.ss.length) : keyV (d.push xb sx ka kc) i = keyV d i := by
  unfold keyV
  rw [push_key hi]
  have e : (d.push xb sx ka kc).ks.getD i default = d.ks.getD i default := by
    show (d.ks ++ [(ka, kc)]).getD i default = _
    simp [List.getD, List.getElem?_append_left (show i < d.ks.length by omega)]
  rw [e]
theorem push_kvN (hk : d.ks.length = d.ss.length) : keyV (d.push xb sx ka kc) d.ss.length = .slice ka (numsX sx).length kc := by
  unfold keyV
  rw [push_keyN]
  have e : (d.push xb sx ka kc).ks.getD d.ss.length default = (ka, kc) := by
    show (d.ks ++ [(ka, kc)]).getD d.ss.length default = _
    rw [← hk]
    simp [List.getD]
  rw [e]
theorem push_kvs (hk : d.ks.length = d.ss.length) : (List.range (d.push xb sx ka kc).ss.length).map (keyV (d.push xb sx ka kc)) = (List.range d.ss.length).map (keyV d) ++ [.slice ka (numsX sx).length kc] := by
  rw [push_len, List.range_succ, List.map_append]
  congr 1
  · exact List.map_congr_left fun i hi => push_kv hk (by simpa using hi)
  · simp only [List.map_cons, List.map_nil]
    rw [push_kvN hk]
end
end

end Go.Proofs.YtocfocjnnjdcgaaDoor
