/-
  Which of two outcomes comes first: compare and same.
  Outcomes are sorted, by the program.
  A space that is being begun: its heads, one behind the other.
  All that can be come to, as the document goes through it: what holds between two steps, and what put and Put make of it.
-/
import Derived.Test.YtgofbkgfonlceabGreatDoorZPut
import Derived.Shelf.SlSortCmp.WholeK
import Derived.BigRegion
import Derived.Test.YtgofbkgfonlceabGreatDoorShelfS
import Derived.Test.YtgofbkgfonlceabGreatDoorWorkP
import Derived.Test.YtgofbkgfonlceabGreatDoorZPutS
import Derived.Test.YtgofbkgfonlceabGreatDoorRDoW
namespace Go.Proofs.YtgofbkgfonlceabGreatDoor
section
open Go.RowKit Go.Sort

set_option maxRecDepth 100000 in
set_option maxHeartbeats 3200000 in
/-- compare. -/
theorem compare_any (w : World) (x y : En) (hx : EnOk w x) (hy : EnOk w y) :
    Calls Tryz.prog 54 #[enV x, enV y] w fun e w' => e = .returned (.int .i64 (cmpO x.o y.o)) ∧ ∃ q os', w' = grow (w.drewN q) os' := by
  obtain ⟨⟨⟨st, ws, pr⟩, wa, wc, pa, pc⟩, rfl⟩ : ∃ z, x = z := ⟨_, rfl⟩
  obtain ⟨⟨⟨st2, ws2, pr2⟩, wa2, wc2, pa2, pc2⟩, rfl⟩ : ∃ z, y = z := ⟨_, rfl⟩
  have hup : ∀ W, Below w.heap.size w W → LI W wa ws ∧ LI W pa pr ∧ LI W wa2 ws2 ∧ LI W pa2 pr2 := fun W hb => ⟨(hx.below hb).ws, (hx.below hb).pr, (hy.below hb).ws, (hy.below hb).pr⟩
  have l1 : ws.length ≤ 100000 := hx.wl
  have l2 : pr.length ≤ 100000 := hx.pl
  have l3 : ws2.length ≤ 100000 := hy.wl
  have l4 : pr2.length ≤ 100000 := hy.pl
  obtain ⟨c1, hc1⟩ : ∃ z, cmpI st st2 = z := ⟨_, rfl⟩
  obtain ⟨c2, hc2⟩ : ∃ z, cmpL ws ws2 = z := ⟨_, rfl⟩
  obtain ⟨c3, hc3⟩ : ∃ z, cmpL pr pr2 = z := ⟨_, rfl⟩
  have HC1 : Hid (∀ W, Calls Tryz.prog 79 #[.int .i64 st, .int .i64 st2] W fun e w' => e = .returned (.int .i64 c1) ∧ w' = W) := fun W => by
    have := ccmp_any st st2 W
    rwa [hc1] at this
  have HC2 : Hid (∀ W, Below w.heap.size w W → Calls Tryz.prog 90 #[.slice wa ws.length wc, .slice wa2 ws2.length wc2] W fun e w' => e = .returned (.int .i64 c2) ∧ w' = W) := fun W hb => by
    have := scmp_any wa wa2 ws ws2 wc wc2 l1 l3 W (hup W hb).1 (hup W hb).2.2.1
    rwa [hc2] at this
  have HC3 : Hid (∀ W, Below w.heap.size w W → Calls Tryz.prog 90 #[.slice pa pr.length pc, .slice pa2 pr2.length pc2] W fun e w' => e = .returned (.int .i64 c3) ∧ w' = W) := fun W hb => by
    have := scmp_any pa pa2 pr pr2 pc pc2 l2 l4 W (hup W hb).2.1 (hup W hb).2.2.2
    rwa [hc3] at this
  have HRES : Hid (cmpO ⟨st, ws, pr⟩ ⟨st2, ws2, pr2⟩ = orI c1 c2 c3) := by show _ = _; unfold cmpO; rw [hc1, hc2, hc3]
  rw [show cmpO (En.mk ⟨st, ws, pr⟩ wa wc pa pc).o (En.mk ⟨st2, ws2, pr2⟩ wa2 wc2 pa2 pc2).o = orI c1 c2 c3 from HRES.out]
  show Calls Tryz.prog 54 #[ocV st wa ws.length wc pa pr.length pc, ocV st2 wa2 ws2.length wc2 pa2 pr2.length pc2] w _
  obtain ⟨n1, hn1⟩ : ∃ n, ws.length = n := ⟨_, rfl⟩
  obtain ⟨n2, hn2⟩ : ∃ n, pr.length = n := ⟨_, rfl⟩
  obtain ⟨n3, hn3⟩ : ∃ n, ws2.length = n := ⟨_, rfl⟩
  obtain ⟨n4, hn4⟩ : ∃ n, pr2.length = n := ⟨_, rfl⟩
  rw [hn1, hn2, hn3, hn4]
  rw [hn1, hn3] at HC2
  rw [hn2, hn4] at HC3
  have HB : Hid (∀ A B, Below w.heap.size w ((w.alloc A).alloc B).drew) := fun A B => (((Below.refl _ _).alloc (Nat.le_refl _) _).alloc (by simp) _).drew
  obtain ⟨R, hR⟩ : ∃ R, orI c1 c2 c3 = R := ⟨_, rfl⟩
  have HOR : Hid (∀ g W, W.cell? ⟨g, 0, none⟩ = some (.int .i64 c1) → W.cell? ⟨g, 1, none⟩ = some (.int .i64 c2) → W.cell? ⟨g, 2, none⟩ = some (.int .i64 c3) → Calls Tryz.prog 78 #[.slice (some ⟨g, 0, none⟩) 3 3] W fun e w' => e = .returned (.int .i64 R) ∧ w' = W) := fun g W h0 h1 h2 => by
    have := or_any g c1 c2 c3 W h0 h1 h2
    rwa [hR] at this
  rw [hR]
  clear hx hy hup l1 l2 l3 l4 hc1 hc2 hc3 HRES hn1 hn2 hn3 hn4 hR
  go_enter Tryz.func54, Tryz.ntmps54
  go_wp2_with fail
  refine region_tail 15 (by kernel_rfl) (by kernel_rfl) ?_
  simp only [List.take_succ_cons, List.take_zero, List.drop_succ_cons, List.drop_zero]
  repeat still_step
  still_call (HC1.out _)
  repeat still_step
  still_call (HC2.out _ (HB.out _ _))
  repeat still_step
  still_call (HC3.out _ (HB.out _ _))
  repeat still_step
  refine wpStill_nil ?_
  go_wp2_with fail
  refine Calls.mono (HOR.out _ _ (by go_simp) (by go_simp) (by go_simp)) ?_
  rintro e w1 ⟨rfl, rfl⟩
  go_wp2_with fail
  go_ret
  exact ⟨rfl, 1, #[.cells #[.int .i64 st, .slice wa n1 wc, .slice pa n2 pc] 50, .cells #[.int .i64 st2, .slice wa2 n3 wc2, .slice pa2 n4 pc2] 50, .cells #[.int .i64 c1, .int .i64 c2, .int .i64 c3] 3], by rw [alloc_eq_grow, alloc_eq_grow, alloc_eq_grow, grow_grow, grow_grow]; rfl⟩
end

section
open Go.RowKit Go.Sort Go.Shelf

/-- An outcome's cells. -/
def encE (e : En) : List Value := [.int .i64 e.o.st, .slice e.wa e.o.ws.length e.wc, .slice e.pa e.o.pr.length e.pc]
/-- Its lists lie outside of a block. -/
structure EnX (w : World) (blk : Nat) (e : En) : Prop where
  ok : EnOk w e
  wx : ∀ p, e.wa = some p → 0 < e.o.ws.length → p.block ≠ blk
  px : ∀ p, e.pa = some p → 0 < e.o.pr.length → p.block ≠ blk
abbrev EnS (w : World) (blk : Nat) : Type := {e : En // EnX w blk e}
instance (w : World) (blk : Nat) : Inhabited (EnS w blk) :=
  ⟨⟨default, ⟨⟨fun _ h => absurd h (Nat.not_lt_zero _), fun _ h => absurd h (Nat.not_lt_zero _), Nat.zero_le _, Nat.zero_le _⟩, fun _ _ h => absurd h (Nat.lt_irrefl 0), fun _ _ h => absurd h (Nat.lt_irrefl 0)⟩⟩⟩
abbrev encS {w : World} {blk : Nat} (x : EnS w blk) : List Value := encE x.1
abbrev cmpS {w : World} {blk : Nat} (x y : EnS w blk) : Int := cmpO x.1.o y.1.o
theorem sortW_cell {α : Type} [Inhabited α] (enc : α → List Value) (w : World) (blk m : Nat) (d : Array α) (os : Array Obj) (p : Addr) (hp : p.block ≠ blk) (hl : p.block < w.heap.size) : (sortWorldK enc 3 w blk 0 m d os).cell? p = w.cell? p := by
  unfold sortWorldK
  rw [cell?_grow _ _ _ (by rw [size_putRowK]; exact hl), cell?_putRowK_other _ _ _ _ _ _ _ hp, cell?_ahead]
theorem LI.sortW {α : Type} [Inhabited α] {enc : α → List Value} {w : World} {blk m : Nat} {d : Array α} {os : Array Obj} {a : Option Addr} {x : List Int} (h : LI w a x) (hx : ∀ p, a = some p → 0 < x.length → p.block ≠ blk) : LI (sortWorldK enc 3 w blk 0 m d os) a x := fun i hi => by
  obtain ⟨b, o, h1, h2⟩ := h i hi
  exact ⟨b, o, h1, (sortW_cell enc w blk m d os ⟨b, o + i, none⟩ (hx ⟨b, o, none⟩ h1 (by omega) : b ≠ blk) (lt_of_cell h2)).trans h2⟩
theorem cmpLays_oc (w : World) (blk n : Nat) : CmpLays Tryz.prog 54 #[] (encS (w := w) (blk := blk)) 3 cmpS blk 0 n w := fun m os dk _ x y => by
  have h := compare_any (sortWorldK encS 3 w blk 0 m dk os) x.1 y.1 ⟨LI.sortW x.2.ok.ws x.2.wx, LI.sortW x.2.ok.pr x.2.px, x.2.ok.wl, x.2.ok.pl⟩ ⟨LI.sortW y.2.ok.ws y.2.wx, LI.sortW y.2.ok.pr y.2.px, y.2.ok.wl, y.2.ok.pl⟩
  exact h
theorem ltS {w : World} {blk : Nat} (x y : EnS w blk) : ltOf cmpS x y = aheadO x.1.o y.1.o := by
  unfold ltOf
  rw [Bool.eq_iff_iff, decide_eq_true_iff]
  exact (cmpO_ahead _ _).1
theorem swo_oc (w : World) (blk : Nat) : SWO (ltOf (cmpS (w := w) (blk := blk))) where
  irrefl x := by rw [ltS]; exact ahead_irr _
  trans x y z h1 h2 := by rw [ltS] at *; exact ahead_trans h1 h2
  ntrans x y z h1 h2 := by
    rw [ltS] at *
    cases h3 : aheadO x.1.o z.1.o with
    | false => rfl
    | true =>
      cases h4 : aheadO y.1.o x.1.o with
      | false =>
        have e := ahead_tri h1 h4
        rw [e] at h3
        rw [h3] at h2; cases h2
      | true =>
        have := ahead_trans h4 h3
        rw [this] at h2; cases h2
/-- A row that is laid anew. -/
theorem own_put {w : World} {B g cap : Nat} {e : TypeId} {size n : Nat} {xs : List Value} (h : w.ownsRow B e size (.slice (some ⟨g, 0, none⟩) n cap) n xs) (F : Array Value) (hF : F.size = n * size) (m : Nat) (os : Array Obj) : (grow (putRow id (Go.Sort.ahead w m) g 0 F) os).ownsRow B e size (.slice (some ⟨g, 0, none⟩) n cap) n F.toList := by
  refine ⟨by simpa using hF, ?_⟩
  rcases h.2 with ⟨h0, _⟩ | ⟨g', cap', cur, hv, hg, hh, h1, h2, h3, _⟩
  · cases h0
  · simp only [Value.slice.injEq, Option.some.injEq, Addr.mk.injEq, and_true, true_and] at hv
    obtain ⟨rfl, rfl⟩ := hv
    refine Or.inr ⟨g, cap, putCells id 0 F cur, rfl, hg, ?_, h1, h2, by simp [putCells, h3], ?_⟩
    · have hl : g < (putRow id (Go.Sort.ahead w m) g 0 F).heap.size := by rw [Go.Sort.size_putRow]; exact box_lt hh
      rw [heap_grow_old _ _ hl]
      unfold putRow mapBlock
      simp only [Array.getElem?_modify, if_true]
      show Option.map (onCells _) (w.heap[g]?) = _
      rw [hh]; rfl
    · have hle : n * size ≤ cap * size := Nat.mul_le_mul_right _ h1
      refine List.ext_getElem? fun k => ?_
      rw [List.getElem?_take]
      split
      · rename_i hk
        simp only [putCells, Array.getElem?_toList, Array.getElem?_mapIdx]
        rw [Array.getElem?_eq_getElem (by omega), Option.map_some, if_pos ⟨Nat.zero_le _, by omega⟩, Nat.sub_zero, Array.getElem?_eq_getElem (by omega), getElem!_pos F k (by omega)]
        rfl
      · rename_i hk
        rw [Array.getElem?_toList, Array.getElem?_eq_none (by omega)]
theorem encE_at (e : En) (j : Nat) (hj : j < 3) : (encE e)[j]! = enC e j := by
  rcases (by omega : j = 0 ∨ j = 1 ∨ j = 2) with rfl | rfl | rfl <;> rfl
theorem flat_ens {w : World} {blk : Nat} (d : Array (EnS w blk)) : (flatK encS 3 d).toList = ensV (d.toList.map Subtype.val) := by
  refine List.ext_getElem? fun k => ?_
  unfold ensV
  rw [rows3_at, List.length_map, Array.length_toList]
  split
  · rename_i hk
    rw [Array.getElem?_toList, Array.getElem?_eq_getElem (by rw [size_flatK]; exact hk)]
    have h1 := get_flatK encS 3 d k hk
    rw [getElem!_pos _ k (by rw [size_flatK]; exact hk)] at h1
    have hq : k / 3 < d.size := by omega
    rw [h1, encE_at _ _ (by omega), getElem!_pos d (k / 3) hq]
    congr 2
    rw [List.getD_eq_getElem?_getD, List.getElem?_map, Array.getElem?_toList, Array.getElem?_eq_getElem hq]
    rfl
  · rename_i hk
    rw [Array.getElem?_toList, Array.getElem?_eq_none (by rw [size_flatK]; omega)]
/-- What stays when a row is sorted. -/
structure Srt (B : Nat) (w w' : World) (a : Option Addr) : Prop where
  below : Below B w w'
  kept : ∀ k, k < w.heap.size → (∀ p, a = some p → p.block ≠ k) → w'.heap[k]? = w.heap[k]?
set_option maxRecDepth 100000 in
/-- slices.SortFunc(list, compare). -/
theorem sort_any (w : World) (B : Nat) (a : Option Addr) (c : Nat) (es : List En) (h : IsO w B a es.length c es) (hX : ∀ e, e ∈ es → ∀ p, a = some p → EnX w p.block e) (hB : B ≤ w.heap.size) (hl : es.length ≤ 100000) (h0 : 0 < es.length) :
    Calls Tryz.prog 53 #[.slice a es.length c, .func (.func 54) #[] #[]] w fun e w' => e = .returned (.tuple #[]) ∧ ∃ es', es'.Perm es ∧ es'.Pairwise (fun x y => aheadO y.o x.o = false) ∧ IsO w' B a es.length c es' ∧ Srt B w w' a := by
  obtain ⟨g, cap, h1, h2, h3, h4⟩ := fam_block h.own h0
  simp only [Value.slice.injEq, true_and] at h1
  obtain ⟨rfl, h5⟩ := h1
  have hX' : ∀ e, e ∈ es → EnX w g e := fun e he => hX e he _ rfl
  obtain ⟨d, hd⟩ : ∃ d : Array (EnS w g), d.toList.map Subtype.val = es := ⟨(es.pmap Subtype.mk hX').toArray, by simp [List.map_pmap]⟩
  have hds : d.size = es.length := by rw [← hd]; simp
  have hH : HoldsK encS 3 w g 0 d := fun j hj => by
    have hf := flat_ens d
    rw [hd] at hf
    have hj' : j < (flatK encS 3 d).toList.length := by simpa using hj
    have e1 : (ensV es)[j]? = some (flatK encS 3 d)[j]! := by
      rw [← hf, Array.getElem?_toList, Array.getElem?_eq_getElem hj, getElem!_pos _ j hj]
    rw [Nat.zero_add]
    refine ⟨fam_cell h.own h2 e1, ?_⟩
    exact fam_frozen h.own h2 j
  have hcon := AnyQ.slices_SortFunc (P := Tryz.prog) Tryz.sortOc 3 Tryz.isAgg50 Tryz.sizeOf50 (encS (w := w) (blk := g)) (fun _ => rfl) (fun x v hv => by simp [encE] at hv; rcases hv with rfl | rfl | rfl <;> rfl) cmpS (swo_oc w g) 54 #[] g 0 c d w (enters_of Tryz.func54 (by kernel_rfl) rfl) (cmpLays_oc w g d.size) hH h4 (by omega)
  rw [hds] at hcon
  refine Calls.mono hcon ?_
  rintro e w' ⟨rfl, d', n, os, hp, hs, rfl⟩
  have hsz : d'.size = es.length := by rw [hp.1, hds]
  refine ⟨rfl, d'.toList.map Subtype.val, ?_, ?_, ⟨by simp [hsz], ?_⟩, ⟨?_, ?_⟩⟩
  · have := hp.2.2
    rw [← hds, Array.extract_size] at this
    rw [← hd]
    have e2 : d'.extract 0 d.size = d' := by rw [← hp.1, Array.extract_size]
    rw [e2] at this
    exact this.map _
  · rw [List.pairwise_map, List.pairwise_iff_getElem]
    intro i j hi hj hij
    have h7 := hs i j (Nat.zero_le _) hij (by simpa [hsz] using hj)
    rw [ltS, getElem!_pos d' i (by simpa using hi), getElem!_pos d' j (by simpa using hj)] at h7
    simpa using h7
  · have h6 := own_put h.own (flatK encS 3 d') (by rw [size_flatK, hsz]) n os
    rw [flat_ens] at h6
    exact h6
  · refine ⟨rfl, rfl, rfl, ?_, fun k hk => ?_⟩
    · unfold sortWorldK
      rw [size_grow, size_putRowK]
      exact Nat.le_add_right _ _
    · unfold sortWorldK putRowK
      rw [heap_grow_old _ _ (by rw [Go.Sort.size_putRow]; exact Nat.lt_of_lt_of_le hk hB)]
      unfold putRow mapBlock
      simp only [Array.getElem?_modify, if_neg (show g ≠ k by omega)]
      rfl
  · intro k hk hne
    have hne' : g ≠ k := hne _ rfl
    unfold sortWorldK putRowK
    rw [heap_grow_old _ _ (by rw [Go.Sort.size_putRow]; exact hk)]
    unfold putRow mapBlock
    simp only [Array.getElem?_modify, if_neg hne']
    rfl
end

section
open Go.RowKit

/-- A space of nothing. -/
def d0 : Sd := ⟨[], [], [], nilV, false⟩
def bN (i : Nat) : Sr → Nat
  | .box => 1
  | .hd => i
  | _ => 0
def bX (v : Sr → Value) (i : Nat) : Sr → List Value
  | .box => [v .st, v .ks, v .hd, v .bf, nilV, .bool false]
  | .hd => intsV (List.replicate i (-1))
  | _ => []
/-- A space with i heads. -/
structure SpB (w W : World) (B pb i : Nat) : Prop where
  ex : ∃ v, Fam W B sTy sSz v (bN i) (bX v i) ∧ v .box = boxV pb
  below : Below B w W
theorem SpB.start (w : World) : SpB w (w.alloc (.cells #[nilV, nilV, nilV, nilV, nilV, .bool false] 39)) w.heap.size w.heap.size 0 := by
  refine ⟨⟨fun q => if q = .box then boxV w.heap.size else nilV, ⟨fun r => ?_, fun r q g hr hq => ?_⟩, rfl⟩, (Below.refl _ _).alloc (Nat.le_refl _) _⟩
  · cases r with
    | box => exact fam_box (xs := [nilV, nilV, nilV, nilV, nilV, .bool false]) (Nat.le_refl _) (heap_alloc_new _ _)
    | st => exact World.ownsRow_nil _ _ _ _
    | ks => exact World.ownsRow_nil _ _ _ _
    | hd => exact World.ownsRow_nil _ _ _ _
    | bf => exact World.ownsRow_nil _ _ _ _
  · have h1 : ∀ x : Sr, ((if x = .box then boxV w.heap.size else nilV : Value)).ownBlock = some g → x = .box := fun x hx => by
      by_cases e : x = .box
      · exact e
      · rw [if_neg e] at hx; simp [Value.ownBlock] at hx
    rw [h1 r hr, h1 q hq]
theorem SpB.push {w W : World} {B pb i : Nat} (h : SpB w W B pb i) (hi : i ≤ 5000) (hB : B ≤ W.heap.size) :
    ∃ a c g cap w3, W.cell? ⟨pb, 2, none⟩ = some (.slice a i c) ∧ (AppS #[23, 23] 23 #[.slice a i c, .slice (some ⟨W.heap.size, 0, none⟩) 1 1]).run Tryz.prog (W.alloc (.cells #[.int .i64 (-1)] 3)) = .ok (.slice (some ⟨g, 0, none⟩) (i + 1) cap) w3 ∧ w3.cell? ⟨pb, 2, none⟩ = some (.slice a i c) ∧ w3.frozen? ⟨pb, 2, none⟩ = false ∧
      Hid (SpB w (w3.setCell ⟨pb, 2, none⟩ (.slice (some ⟨g, 0, none⟩) (i + 1) cap)) B pb (i + 1)) := by
  obtain ⟨⟨v, hF, hbx⟩, hb⟩ := h
  have pbk : (v .box).ownBlock = some pb := by rw [hbx]; rfl
  obtain ⟨a, c, hv⟩ := fam_form (hF.own .hd)
  have hbn : bN i .hd = i := rfl
  rw [hbn] at hv
  obtain ⟨g, cap, w3, r1, o1, k1, a1⟩ := app_row (T := 23) Tryz.underlying23 infoI rfl (by omega) (hF.own .hd) (Below.refl _ W) hB 1 #[.int .i64 (-1)] rfl (by simp [Value.oneCell']) (by omega) (by rw [hbn]; omega) (by omega)
  rw [hbn] at r1 o1
  have hbd : Below W.heap.size W (W.alloc (.cells #[.int .i64 (-1)] 3)) := (Below.refl _ _).alloc (Nat.le_refl _) _
  obtain ⟨y, hy⟩ : ∃ y : Value, y = .slice (some ⟨g, 0, none⟩) (i + 1) cap := ⟨_, rfl⟩
  have G := (hF.below hbd).grew (r := .hd) o1 k1 a1 (by simp)
  rw [← hy] at G
  have pk : (upd v Sr.hd y .box).ownBlock = some pb := by rw [upd_ne _ _ (by decide)]; exact pbk
  have F := G.store (r := .box) (g := pb) pk 2 y
  have M := ((Moved.of_below hbd (v := v)).grow (r := .hd) (m := i + 1) (c := cap) k1 a1 (by simp)).put (r := .box) (g := pb) (by rw [upd_ne _ _ (by decide)]; exact pbk) 2 y
  rw [hv] at r1
  refine ⟨a, c, g, cap, w3, (hF.cell pbk rfl).trans (congrArg some hv), r1, (G.cell pk rfl).trans (congrArg some hv), G.frozen pk 2, ?_⟩
  rw [← hy]
  refine ⟨⟨upd v Sr.hd y, F.same (fun q => ?_) (fun q => ?_), by rw [upd_ne _ _ (by decide)]; exact hbx⟩, hb.trans (M.below hB (fun r g hg => hF.low r g hg))⟩
  · cases q <;> rfl
  · cases q with
    | box => rfl
    | hd =>
      show intsV (List.replicate (i + 1) (-1)) = intsV (List.replicate i (-1)) ++ [.int .i64 (-1)]
      rw [List.replicate_succ']
      simp [intsV]
    | st => rfl
    | ks => rfl
    | bf => rfl
theorem heads_none (f : Nat → Nat) (N : Nat) : (List.range N).map (fun h => lastS f h 0) = List.replicate N (-1) := by
  rw [List.eq_replicate_iff]
  refine ⟨by simp, fun x hx => ?_⟩
  obtain ⟨k, _, rfl⟩ := List.mem_map.mp hx
  rfl
theorem SpB.done {w W : World} {B pb : Nat} (h : SpB w W B pb 4096) (P : Pg) : ∃ v, SpIn W B P pb v d0 := by
  obtain ⟨⟨v, hF, hbx⟩, _⟩ := h
  refine ⟨v, hF.same (fun q => by cases q <;> rfl) (fun q => ?_), hbx, rfl, rfl, fun i hi => absurd hi (Nat.not_lt_zero _), fun i hi => absurd hi (Nat.not_lt_zero _)⟩
  cases q with
  | box => rfl
  | st => rfl
  | ks => rfl
  | bf => rfl
  | hd =>
    exact congrArg intsV (heads_none (sumsD d0) 4096)
end

section
open Go.RowKit

section
variable {ι : Type} {w w' : World} {vf vf' : ι → Value}
/-- An outcome whose lists lie outside of rows. -/
structure EnO (w : World) (vf : ι → Value) (e : En) : Prop where
  ws : LIo w vf e.wa e.o.ws
  pr : LIo w vf e.pa e.o.pr
  wl : e.o.ws.length ≤ 100000
  pl : e.o.pr.length ≤ 100000
theorem EnO.ok {e : En} (h : EnO w vf e) : EnOk w e := ⟨h.ws.li, h.pr.li, h.wl, h.pl⟩
theorem EnO.moved {e : En} (h : EnO w vf e) (hm : Moved w w' vf vf') : EnO w' vf' e := ⟨h.ws.moved hm, h.pr.moved hm, h.wl, h.pl⟩
/-- Outcomes lie outside of rows, one behind the other. -/
def EIo (w : World) (vf : ι → Value) (a : Option Addr) (es : List En) : Prop := ∀ i, i < es.length → ∃ b o, a = some ⟨b, o, none⟩ ∧ (∀ j, j < 3 → w.cell? ⟨b, o + i * 3 + j, none⟩ = some (enC (es.getD i default) j)) ∧ ∀ q, (vf q).ownBlock ≠ some b
theorem EIo.ein {a : Option Addr} {es : List En} (h : EIo w vf a es) : EIn w a es := fun i hi => by
  obtain ⟨b, o, h1, h2, _⟩ := h i hi
  exact ⟨b, o, h1, h2 0 (by omega), h2 1 (by omega), h2 2 (by omega)⟩
theorem EIo.moved {a : Option Addr} {es : List En} (h : EIo w vf a es) (hm : Moved w w' vf vf') : EIo w' vf' a es := fun i hi => by
  obtain ⟨b, o, h1, h2, h3⟩ := h i hi
  exact ⟨b, o, h1, fun j hj => (hm.cell (a := ⟨b, o + i * 3 + j, none⟩) (lt_of_cell (h2 j hj)) h3).trans (h2 j hj), hm.out (lt_of_cell (h2 0 (by omega))) h3⟩
theorem IsO.eio {B : Nat} {a : Option Addr} {len c : Nat} {es : List En} (h : IsO w B a len c es) (ho : ∀ g, (Value.slice a len c).ownBlock = some g → ∀ q, (vf q).ownBlock ≠ some g) : EIo w vf a es := fun i hi => by
  obtain ⟨g, cap, h1, h2, _, _⟩ := fam_block h.own (by have := h.is; omega)
  simp only [Value.slice.injEq] at h1
  refine ⟨g, 0, h1.1, fun j hj => ?_, ho g h2⟩
  have := fam_cell h.own h2 (i := i * 3 + j) (u := enC (es.getD i default) j) (rows3_get hi hj)
  rw [show 0 + i * 3 + j = i * 3 + j by omega]
  exact this
end
theorem insO_len {o : Oc} : ∀ l : List Oc, (insO o l).length ≤ l.length + 1
  | [] => by simp [insO]
  | a :: l => by
    unfold insO
    split
    · simp
    · split
      · have := insO_len (o := o) l
        simp only [List.length_cons]
        omega
      · simp
/-- How many numbers a state is. -/
theorem nums_len {n : Nat} {L : Nat → Nat} {m lk rg : Nat} {mode : Int} {s : Sx} (ho : SOk n L m lk rg mode s) (hN : n ≤ 4) (hm64 : m ≤ 64) (hlk4 : lk ≤ 4) (hrg : rg ≤ 200) (hpl : s.prints.length ≤ 20000) : (numsX s).length ≤ 100000 := by
  have h1 := numA_len s (rg := rg) (fun t ht => ho.regs t (by rw [← ho.ths]; exact ht)) (fun t ht => ho.wlen t (by rw [← ho.ths]; exact ht)) s.ths.length (Nat.le_refl _)
  have h2 : (11 + rg) * s.ths.length ≤ 211 * 4 := Nat.mul_le_mul (by omega) (by rw [ho.ths]; exact hN)
  have h3 := ho.words
  have h4 := ho.own
  show (s.ths.flatMap numT ++ s.words ++ s.own ++ s.prints).length ≤ 100000
  rw [← numA_all]
  simp only [List.length_append]
  omega

/-- A program, and the state ahead of its first step. -/
structure Bc where
  P : Pg
  A : Nat → Option Addr
  L : Nat → Nat
  C : Nat → Nat
  X : Nat → Nat → Nat → Int
  m : Nat
  lk : Nat
  rg : Nat
  s0 : Sx
structure BcOk (c : Bc) (w : World) : Prop where
  n0 : 0 < c.P.n
  cok : COk c.P.n c.L c.X c.m c.lk c.rg
  prog : PIn w c.P.ca c.P.n c.A c.L c.C c.X
  mode : 0 ≤ c.P.mode
abbrev Bc.nx (c : Bc) : Sx → List Sx := nxX c.L c.X c.P.mode
abbrev Bc.outs (c : Bc) : Sx → List Oc := outsX c.L c.X c.P.mode
/-- What holds of a state that was come to as the k-th one. -/
structure StOk (c : Bc) (k : Nat) (s : Sx) : Prop where
  ok : SOk c.P.n c.L c.m c.lk c.rg c.P.mode s
  fell : s.fell = false
  pr : s.prints.length ≤ 2 * k
/-- What holds between two steps: i states were gone through, there are at most N outcomes. -/
structure SpO (c : Bc) (w0 W : World) (pb : Nat) (v : Sr → Value) (d : Sd) (ea : Option Addr) (ec : Nat) (es : List En) (i N : Nat) : Prop where
  sp : SpIn W w0.heap.size c.P pb v d
  ends : d.ends = .slice ea es.length ec
  ein : EIo W v ea es
  eok : ∀ x, x ∈ es → EnO W v x
  sorted : SortedO (es.map En.o)
  wk : Wk c.nx c.outs c.s0 d.ss (fun s => s ∈ d.ss.take i) (fun o => o ∈ es.map En.o)
  ok : ∀ k, k < d.ss.length → StOk c k (d.ss.getD k default)
  cnt : es.length ≤ N
  full : d.full = decide (4000 < d.ss.length)
  few : d.ss.length ≤ 4001
  low : Below w0.heap.size w0 W
  gone : i ≤ d.ss.length
section
variable {c : Bc} {w0 W w' : World} {pb : Nat} {v : Sr → Value} {d : Sd} {ea : Option Addr} {ec : Nat} {es : List En} {i N : Nat}
theorem SpO.below (h : SpO c w0 W pb v d ea ec es i N) (hb : Below W.heap.size W w') : SpO c w0 w' pb v d ea ec es i N :=
  ⟨h.sp.below hb, h.ends, h.ein.moved (Moved.of_below hb), fun x hx => (h.eok x hx).moved (Moved.of_below hb), h.sorted, h.wk, h.ok, h.cnt, h.full, h.few, h.low.trans (hb.mono h.low.size), h.gone⟩
theorem SpO.more (h : SpO c w0 W pb v d ea ec es i N) {N' : Nat} (hN : N ≤ N') : SpO c w0 W pb v d ea ec es i N' :=
  ⟨h.sp, h.ends, h.ein, h.eok, h.sorted, h.wk, h.ok, Nat.le_trans h.cnt hN, h.full, h.few, h.low, h.gone⟩
theorem SpO.mem (_h : SpO c w0 W pb v d ea ec es i N) {k : Nat} (hk : k < d.ss.length) : d.ss.getD k default ∈ d.ss := by
  rw [List.getD_eq_getElem?_getD, List.getElem?_eq_getElem hk]; exact List.getElem_mem hk
/-- What Put leaves. -/
theorem SpO.put_end (h : SpO c w0 W pb v d ea ec es i N) {e : En} {en : Ending} (hq : PutQ W pb e es en w') (he : EnO W v e) {x : Sx} (hx : x ∈ d.ss) (ho : e.o ∈ c.outs x) :
    en = .returned (.tuple #[]) ∧ Moved W w' v v ∧ ∃ d' ea' ec' es', SpO c w0 w' pb v d' ea' ec' es' i (N + 1) ∧ d'.ss = d.ss ∧ d'.sbs = d.sbs ∧ ∀ y, y ∈ es'.map En.o ↔ y = e.o ∨ y ∈ es.map En.o := by
  obtain ⟨rfl, hq⟩ := hq
  refine ⟨rfl, ?_⟩
  rcases hq with ⟨hb, hins⟩ | ⟨w2, a, len, cc, es2, rfl, hb, hI, hm, hall⟩
  · refine ⟨Moved.of_below hb, d, ea, ec, es, (h.below hb).more (by omega), rfl, rfl, fun y => ?_⟩
    rw [← mem_insO, hins]
  · have hM : Moved W (w2.setCell ⟨pb, 4, none⟩ (.slice a len cc)) v v := (Moved.of_below hb).put (r := .box) h.sp.bblk 4 _
    have hM2 : Moved w2 (w2.setCell ⟨pb, 4, none⟩ (.slice a len cc)) v v := (Moved.refl _ _).put (r := .box) h.sp.bblk 4 _
    have hmem : ∀ y, y ∈ es2.map En.o ↔ y = e.o ∨ y ∈ es.map En.o := fun y => by rw [hm]; exact mem_insO
    refine ⟨hM, ⟨d.sbs, d.ss, d.ks, .slice a len cc, d.full⟩, a, cc, es2, ⟨⟨(h.sp.fam.below hb).put (r := .box) h.sp.bblk 4 _ (fun q => by cases q <;> rfl) rfl (fun q hq => by cases q <;> first | rfl | exact absurd rfl hq), h.sp.box, h.sp.len, h.sp.klen, fun k hk => ?_, fun k hk => ?_⟩, ?_, ?_, fun y hy => ?_, ?_, ?_, h.ok, ?_, h.full, h.few, ?_, h.gone⟩, rfl, rfl, hmem⟩
    · obtain ⟨B', v', h1, h2⟩ := h.sp.states k hk
      obtain ⟨h3, h4⟩ := h1.moved h2 hM
      exact ⟨B', v', h3, h4⟩
    · obtain ⟨B', h1, h2⟩ := h.sp.keys k hk
      obtain ⟨h3, h4⟩ := h1.moved h2 hM
      exact ⟨B', h3, h4⟩
    · show Value.slice a len cc = .slice a es2.length cc
      rw [hI.is]
    · refine (IsO.eio hI (fun g hg q e => ?_)).moved hM2
      have h1 := (hI.own.lt g hg).1
      have h2 := h.sp.fam.lt e
      omega
    · rcases hall y hy with rfl | hy
      · exact he.moved hM
      · exact (h.eok y hy).moved hM
    · rw [hm]; exact sorted_insO h.sorted
    · exact h.wk.out hx ho hmem
    · have h1 := insO_len (o := e.o) (es.map En.o)
      rw [← hm, List.length_map, List.length_map] at h1
      have h2 := h.cnt
      omega
    · exact h.low.trans (hM.below h.low.size h.sp.fam.low)
/-- What put leaves. -/
theorem SpO.put_state (h : SpO c w0 W pb v d ea ec es i N) {xb : Nat} {sx : Sx} {en : Ending} (hq : SputQ W w0.heap.size c.P pb v d xb sx en w') (hnf : d.full = false) (hsx : StOk c d.ss.length sx) {x : Sx} (hx : x ∈ d.ss) (ho : sx ∈ c.nx x) :
    en = .returned (.tuple #[]) ∧ ∃ v' d', SpO c w0 w' pb v' d' ea ec es i N ∧ Moved W w' v v' ∧ sx ∈ d'.ss ∧ (∀ t, t ∈ d.ss → t ∈ d'.ss) ∧ d.ss.length ≤ d'.ss.length ∧ ∀ k, k < d.ss.length → d'.ss.getD k default = d.ss.getD k default ∧ d'.sbs.getD k 0 = d.sbs.getD k 0 := by
  obtain ⟨rfl, hq⟩ := hq
  refine ⟨rfl, ?_⟩
  rcases hq with ⟨⟨k, hk, hkk⟩, hb⟩ | ⟨hno, v', ka, kc, hS, hM⟩
  · refine ⟨v, d, h.below hb, Moved.of_below hb, ?_, fun t ht => ht, Nat.le_refl _, fun k _ => ⟨rfl, rfl⟩⟩
    have e := nums_inj (h.ok k hk).ok hsx.ok (by rw [(h.ok k hk).fell, hsx.fell]) hkk
    rw [← e]
    exact h.mem hk
  · have hss : (d.push xb sx ka kc).ss = d.ss ++ [sx] := rfl
    have hnew : sx ∉ d.ss := fun hm => by
      obtain ⟨k, hk, e⟩ := List.getElem_of_mem hm
      refine hno k hk ?_
      unfold keyL
      rw [List.getD_eq_getElem?_getD, List.getElem?_eq_getElem hk]
      exact congrArg numsX e
    have hlen : d.ss.length ≤ 4000 := by
      have := h.full
      rw [hnf] at this
      have := of_decide_eq_false this.symm
      omega
    refine ⟨v', d.push xb sx ka kc, ⟨hS, h.ends, h.ein.moved hM, fun y hy => (h.eok y hy).moved hM, h.sorted, ?_, fun k hk => ?_, h.cnt, ?_, ?_, h.low.trans (hM.below h.low.size h.sp.fam.low), ?_⟩, hM, ?_, fun t ht => ?_, ?_, fun k hk => ⟨push_ss hk, ?_⟩⟩
    · rw [hss]
      refine (h.wk.push hx ho hnew).same (fun s => ?_) (fun _ => Iff.rfl)
      rw [List.take_append_of_le_length h.gone]
    · rw [push_len] at hk
      rcases Nat.lt_or_ge k d.ss.length with h1 | h1
      · rw [push_ss h1]; exact h.ok k h1
      · obtain rfl : k = d.ss.length := by omega
        rw [push_new]
        exact hsx
    · rw [push_len]
      show (d.full || _) = _
      rw [hnf, Bool.false_or]
    · rw [push_len]; omega
    · rw [push_len]; have := h.gone; omega
    · rw [hss]; simp
    · rw [hss]; exact List.mem_append_left _ ht
    · rw [push_len]; omega
    · show (d.sbs ++ [xb]).getD k 0 = _
      simp [List.getD, List.getElem?_append_left (show k < d.sbs.length by rw [h.sp.len]; exact hk)]
/-- put, while there are not too many. -/
theorem SpO.put_any (h : SpO c w0 W pb v d ea ec es i N) (hc : BcOk c w0) {Bx xb : Nat} {vx : Rl → Value} {sx : Sx} (hD : DSt W Bx c.P xb vx sx) (hxo : ∀ r g, (vx r).ownBlock = some g → ∀ q, (v q).ownBlock ≠ some g) (hnf : d.full = false) (hsx : StOk c d.ss.length sx) {x : Sx} (hx : x ∈ d.ss) (ho : sx ∈ c.nx x) :
    Calls Tryz.prog 60 #[.pointer (some ⟨pb, 0, none⟩), .pointer (some ⟨xb, 0, none⟩)] W fun e w' => e = .returned (.tuple #[]) ∧ ∃ v' d', SpO c w0 w' pb v' d' ea ec es i N ∧ Moved W w' v v' ∧ sx ∈ d'.ss ∧ (∀ t, t ∈ d.ss → t ∈ d'.ss) ∧ d.ss.length ≤ d'.ss.length ∧ ∀ k, k < d.ss.length → d'.ss.getD k default = d.ss.getD k default ∧ d'.sbs.getD k 0 = d.sbs.getD k 0 := by
  have hf := h.few
  refine Calls.mono (sput_any W w0.heap.size c.P pb v d c.L c.m c.lk c.rg Bx xb vx sx h.sp hD hxo hsx.ok hc.n0 hc.cok.n4 hc.cok.m64 hc.cok.lk4 hc.cok.rg2 (by have := hsx.pr; omega) (by omega) (fun k hk => ?_)) (fun e w' hq => h.put_state hq hnf hsx hx ho)
  have := h.ok k hk
  exact nums_len this.ok hc.cok.n4 hc.cok.m64 hc.cok.lk4 hc.cok.rg2 (by have := this.pr; omega)
theorem SpO.Put_any (h : SpO c w0 W pb v d ea ec es i N) {e : En} (he : EnO W v e) {x : Sx} (hx : x ∈ d.ss) (ho : e.o ∈ c.outs x) (hi4 : i ≤ 4000) (hN : N ≤ 16 * i + 16) :
    Calls Tryz.prog 63 #[.pointer (some ⟨pb, 0, none⟩), enV e] W fun en w' => en = .returned (.tuple #[]) ∧ Moved W w' v v ∧ ∃ d' ea' ec' es', SpO c w0 w' pb v d' ea' ec' es' i (N + 1) ∧ d'.ss = d.ss ∧ d'.sbs = d.sbs ∧ ∀ y, y ∈ es'.map En.o ↔ y = e.o ∨ y ∈ es.map En.o := by
  have c4 := h.sp.c4
  rw [h.ends] at c4
  exact Calls.mono (oput_any W pb ea ec es e c4 (h.sp.fam.frozen h.sp.bblk 4) h.ein.ein (fun x hx => (h.eok x hx).ok) he.ok h.sorted (by have := h.cnt; omega)) (fun en w' hq => h.put_end hq he hx ho)
/-- One state has been gone through. -/
theorem SpO.goneOn (h : SpO c w0 W pb v d ea ec es i N) (hi : i < d.ss.length) (hn : ∀ t, t ∈ c.nx (d.ss.getD i default) → t ∈ d.ss) (ho : ∀ o, o ∈ c.outs (d.ss.getD i default) → o ∈ es.map En.o) : SpO c w0 W pb v d ea ec es (i + 1) N :=
  ⟨h.sp, h.ends, h.ein, h.eok, h.sorted, h.wk.gone (h.mem hi) hn ho (fun s hs => by
    rw [List.take_add_one, List.getElem?_eq_getElem hi] at hs
    rcases List.mem_append.mp hs with hs | hs
    · exact Or.inr hs
    · refine Or.inl ?_
      rw [List.getD_eq_getElem?_getD, List.getElem?_eq_getElem hi]
      exact List.mem_singleton.mp hs), h.ok, h.cnt, h.full, h.few, h.low, hi⟩
theorem SpO.start (hS : SpIn W w0.heap.size c.P pb v d0) (hb : Below w0.heap.size w0 W) (hsx : StOk c 0 c.s0) {xb : Nat} {en : Ending} (hq : SputQ W w0.heap.size c.P pb v d0 xb c.s0 en w') : en = .returned (.tuple #[]) ∧ ∃ v' d', SpO c w0 w' pb v' d' none 0 [] 0 0 := by
  obtain ⟨rfl, hq⟩ := hq
  refine ⟨rfl, ?_⟩
  rcases hq with ⟨⟨k, hk, _⟩, _⟩ | ⟨_, v', ka, kc, hS', hM⟩
  · exact absurd hk (Nat.not_lt_zero _)
  · refine ⟨v', d0.push xb c.s0 ka kc, hS', rfl, fun i hi => absurd hi (Nat.not_lt_zero _), fun x hx => (by cases hx), List.Pairwise.nil, ?_, fun k hk => ?_, Nat.le_refl _, rfl, by rw [push_len]; decide, hb.trans (hM.below hb.size hS.fam.low), Nat.zero_le _⟩
    · exact Wk.begin.same (fun s => by simp) (fun o => by simp)
    · rw [push_len] at hk
      obtain rfl : k = 0 := by have : d0.ss.length = 0 := rfl; omega
      exact hsx
/-- What is told at the end. -/
theorem SpO.told (h : SpO c w0 W pb v d ea ec es i N) (hi : d.full = false → i = d.ss.length) : Told c.nx c.outs c.s0 4000 d.full (es.map En.o) ∧ (d.full = false → ∀ s, s ∈ d.ss ↔ Rch c.nx c.s0 s) := by
  cases hf : d.full with
  | true =>
    have := h.full
    rw [hf] at this
    exact ⟨h.wk.full _ (of_decide_eq_true this.symm), fun h => by cases h⟩
  | false =>
    have h1 := h.full
    rw [hf] at h1
    have h2 := of_decide_eq_false h1.symm
    have hP : ∀ s, s ∈ d.ss → s ∈ d.ss.take i := fun s hs => by rw [hi hf, List.take_length]; exact hs
    exact ⟨h.wk.told hP h.sorted (fun o => Iff.rfl) (by omega), fun _ => (h.wk.whole hP).1⟩
theorem SpO.stB (h : SpO c w0 W pb v d ea ec es i N) (hn : 0 < d.ss.length) : ∃ hb hc, v .st = .slice (some ⟨hb, 0, none⟩) d.ss.length hc ∧ (v .st).ownBlock = some hb := by
  obtain ⟨g, c, h1, h2, _, _⟩ := fam_block (h.sp.fam.own .st) (by exact hn)
  exact ⟨g, c, h1, h2⟩
theorem SpO.stC (h : SpO c w0 W pb v d ea ec es i N) {hb k : Nat} (e : (v .st).ownBlock = some hb) (hk : k < d.ss.length) : W.cell? ⟨hb, k, none⟩ = some (.pointer (some ⟨d.sbs.getD k 0, 0, none⟩)) := by
  refine h.sp.fam.cell e ?_
  show (d.sbs.map fun b => Value.pointer (some ⟨b, 0, none⟩))[k]? = _
  have hk' : k < d.sbs.length := by rw [h.sp.len]; exact hk
  rw [List.getElem?_map, List.getElem?_eq_getElem hk', List.getD_eq_getElem?_getD, List.getElem?_eq_getElem hk']
  rfl
end
/-- A state's words and prints as an outcome's. -/
theorem dst_eno {ι : Type} {W : World} {vf : ι → Value} {B : Nat} {P : Pg} {xb : Nat} {vx : Rl → Value} {s : Sx} (hD : DSt W B P xb vx s) (ho : ∀ r g, (vx r).ownBlock = some g → ∀ q, (vf q).ownBlock ≠ some g) (st : Int) (hw : s.words.length ≤ 100000) (hp : s.prints.length ≤ 100000) :
    ∃ wa wc pa pc, vx .words = .slice wa s.words.length wc ∧ vx .prints = .slice pa s.prints.length pc ∧ EnO W vf ⟨⟨st, s.words, s.prints⟩, wa, wc, pa, pc⟩ ∧ EnO W vf ⟨⟨st, [], s.prints⟩, none, 0, pa, pc⟩ := by
  obtain ⟨wa, wc, h1⟩ := hD.wordsV
  obtain ⟨pa, pc, h2⟩ := hD.printsV
  have lw : LIo W vf wa s.words := fun i hi => by
    obtain ⟨g, c, e1, e2, _⟩ := hD.wordsB (by omega)
    rw [h1] at e1
    simp only [Value.slice.injEq] at e1
    exact ⟨g, 0, e1.1, by simpa using hD.word e2 hi, ho _ g e2⟩
  have lp : LIo W vf pa s.prints := fun i hi => by
    obtain ⟨g, c, e1, e2, _, _⟩ := fam_block (hD.fam.own .prints) (by show 0 < s.prints.length; omega)
    rw [h2] at e1
    simp only [Value.slice.injEq] at e1
    exact ⟨g, 0, e1.1, by simpa using hD.fam.cell e2 (intsV_at hi), ho _ g e2⟩
  exact ⟨wa, wc, pa, pc, h1, h2, ⟨lw, lp, hw, hp⟩, ⟨fun i hi => absurd hi (Nat.not_lt_zero _), lp, Nat.zero_le _, hp⟩⟩
end

end Go.Proofs.YtgofbkgfonlceabGreatDoor
