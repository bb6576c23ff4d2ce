/-
  Whether two outcomes are the same, by the program; a list's parts that are laid bare again.
  Of outcomes that are the same one stays, by the program.
  Whether two lists of outcomes are the same, by the program: slices.EqualFunc.
-/
import Derived.Test.YtgofbkgfonlceacGreatDoorOcCmp
import Derived.Test.YtgofbkgfonlceacGreatDoorPBuf4
import Derived.Test.YtgofbkgfonlceacGreatDoorZPut
namespace Go.Proofs.YtgofbkgfonlceacGreatDoor
section
open Go.RowKit Go.Sort Go.Shelf

/-- Worlds that were only grown. -/
theorem grown_below {w : World} {q : Nat} {os : Array Obj} : Below w.heap.size w (grow (w.drewN q) os) := by
  refine ⟨rfl, rfl, rfl, ?_, fun k hk => ?_⟩
  · rw [size_grow]; exact Nat.le_add_right _ _
  · rw [heap_grow_old _ _ (show k < (w.drewN q).heap.size from hk)]; rfl
set_option maxRecDepth 100000 in
set_option maxHeartbeats 800000 in
/-- same. -/
theorem same_any (w : World) (x y : En) (hx : EnOk w x) (hy : EnOk w y) :
    Calls Tryz.prog 66 #[enV x, enV y] w fun e w' => e = .returned (.bool (decide (x.o = y.o))) ∧ Below w.heap.size w w' := by
  have hz : ∀ (a b : Value), Below w.heap.size w ((w.alloc (.cells a.cells 67)).alloc (.cells b.cells 67)) := fun a b => ((Below.refl _ _).alloc (Nat.le_refl _) _).alloc (by simp) _
  have HC : Hid (∀ W, Below w.heap.size w W → Calls Tryz.prog 104 #[enV x, enV y] W fun e w' => e = .returned (.int .i64 (cmpO x.o y.o)) ∧ Below w.heap.size w w') := fun W hb => by
    refine Calls.mono (compare_any W x y (hx.below hb) (hy.below hb)) ?_
    rintro e w' ⟨he, q, os, rfl⟩
    exact ⟨he, hb.trans (grown_below.mono hb.size)⟩
  have hd : decide (x.o = y.o) = decide (cmpO x.o y.o = 0) := by
    rw [decide_eq_decide]
    exact (cmpO_ahead _ _).2.symm
  rw [hd]
  obtain ⟨R, hR⟩ : ∃ R, cmpO x.o y.o = R := ⟨_, rfl⟩
  rw [hR] at HC ⊢
  obtain ⟨⟨⟨st, ws, pr⟩, wa, wc, pa, pc⟩, rfl⟩ : ∃ z, x = z := ⟨_, rfl⟩
  obtain ⟨⟨⟨st2, ws2, pr2⟩, wa2, wc2, pa2, pc2⟩, rfl⟩ : ∃ z, y = z := ⟨_, rfl⟩
  rw [show enV (En.mk ⟨st, ws, pr⟩ wa wc pa pc) = .agg #[.int .i64 st, .slice wa ws.length wc, .slice pa pr.length pc] from rfl, show enV (En.mk ⟨st2, ws2, pr2⟩ wa2 wc2 pa2 pc2) = .agg #[.int .i64 st2, .slice wa2 ws2.length wc2, .slice pa2 pr2.length pc2] from rfl] at HC ⊢
  obtain ⟨n1, hn1⟩ : ∃ n, ws.length = n := ⟨_, rfl⟩
  obtain ⟨n2, hn2⟩ : ∃ n, pr.length = n := ⟨_, rfl⟩
  obtain ⟨n3, hn3⟩ : ∃ n, ws2.length = n := ⟨_, rfl⟩
  obtain ⟨n4, hn4⟩ : ∃ n, pr2.length = n := ⟨_, rfl⟩
  rw [hn1, hn2, hn3, hn4] at HC ⊢
  have HB : Hid (∀ A B, Below w.heap.size w ((w.alloc A).alloc B)) := fun A B => ((Below.refl _ _).alloc (Nat.le_refl _) _).alloc (by simp) _
  have HB1 : Hid (∀ A B, Below w.heap.size w ((w.alloc A).alloc B).drew) := fun A B => (HB.out A B).drew
  clear hx hy hz hd hR hn1 hn2 hn3 hn4
  go_enter Tryz.func66, Tryz.ntmps66
  go_wp2_with fail
  refine Calls.mono (HC.out _ (by first | exact HB.out _ _ | exact HB1.out _ _)) ?_
  rintro e w1 ⟨rfl, hb⟩
  go_wp2_with fail
  go_ret
  exact ⟨rfl, hb⟩
end

section
open Go.RowKit Go.Sort Go.Shelf

theorem ensV_len (es : List En) : (ensV es).length = es.length * 3 := rows3_len _ _
theorem ensV_at (es : List En) {k j : Nat} (hk : k < es.length) (hj : j < 3) : (ensV es)[k * 3 + j]? = some (enC (es.getD k default) j) := rows3_get hk hj
theorem ensV_put (es : List En) (k : Nat) (e : En) (hk : k < es.length) : putL (ensV es) (k * 3) [.int .i64 e.o.st, .slice e.wa e.o.ws.length e.wc, .slice e.pa e.o.pr.length e.pc] = ensV (es.set k e) := by
  have hg : ∀ i, (es.set k e).getD i default = if i = k then e else es.getD i default := fun i => by
    rw [List.getD_eq_getElem?_getD, List.getElem?_set, List.getD_eq_getElem?_getD]
    by_cases h : k = i
    · subst h; simp [hk]
    · rw [if_neg h, if_neg (fun e => h e.symm)]
  show ((((ensV es).set (k * 3) _).set (k * 3 + 1) _).set (k * 3 + 1 + 1) _) = _
  refine List.ext_getElem? fun i => ?_
  rw [List.getElem?_set, List.getElem?_set, List.getElem?_set]
  simp only [List.length_set, ensV_len]
  unfold ensV
  rw [rows3_at, rows3_at, List.length_set, hg]
  by_cases h2 : k * 3 + 1 + 1 = i
  · subst h2
    rw [if_pos rfl, if_pos (by omega), if_pos (by omega), if_pos (by omega), show (k * 3 + 1 + 1) % 3 = 2 by omega]
    rfl
  · rw [if_neg h2]
    by_cases h1 : k * 3 + 1 = i
    · subst h1
      rw [if_pos rfl, if_pos (by omega), if_pos (by omega), if_pos (by omega), show (k * 3 + 1) % 3 = 1 by omega]
      rfl
    · rw [if_neg h1]
      by_cases h0 : k * 3 = i
      · subst h0
        rw [if_pos rfl, if_pos (by omega), if_pos (by omega), if_pos (by omega), show (k * 3) % 3 = 0 by omega]
        rfl
      · rw [if_neg h0]
        split
        · rw [if_neg (by omega)]
        · rfl
theorem ensV_take (es : List En) (k : Nat) (hk : k ≤ es.length) : (ensV es).take (k * 3) = ensV (es.take k) := by
  refine List.ext_getElem? fun i => ?_
  rw [List.getElem?_take]
  unfold ensV
  rw [rows3_at, rows3_at, List.length_take, Nat.min_eq_left hk]
  by_cases h : i < k * 3
  · rw [if_pos h, if_pos h, if_pos (by omega)]
    congr 2
    rw [List.getD_eq_getElem?_getD, List.getD_eq_getElem?_getD, List.getElem?_take, if_pos (by omega)]
  · rw [if_neg h, if_neg h]
theorem Srt.refl (B : Nat) (w : World) (a : Option Addr) : Srt B w w a := ⟨Below.refl _ _, fun _ _ _ => rfl⟩
section
variable {B g : Nat} {w W W' : World}
theorem Srt.then_below (h : Srt B w W (some ⟨g, 0, none⟩)) (hB : B ≤ w.heap.size) (hb : Below W.heap.size W W') : Srt B w W' (some ⟨g, 0, none⟩) :=
  ⟨h.below.trans (hb.mono (Nat.le_trans hB h.below.size)), fun k hk hne => (hb.block k (Nat.lt_of_lt_of_le hk h.below.size)).trans (h.kept k hk hne)⟩
theorem Srt.puts (h : Srt B w W (some ⟨g, 0, none⟩)) (hg : B ≤ g) (o : Nat) (vs : List Value) : Srt B w (W.setCells g o vs) (some ⟨g, 0, none⟩) := by
  have hG := grown_puts g vs o W
  refine ⟨h.below.trans ⟨hG.os, hG.tape, hG.output, hG.size, fun k hk => ?_⟩, fun k hk hne => ?_⟩
  · rcases Nat.lt_or_ge k W.heap.size with h1 | h1
    · exact hG.block k h1 (fun e => by have : k = g := Option.some.inj e; omega)
    · have hz : ∀ (vs : List Value) (o : Nat) (V : World), (V.setCells g o vs).heap.size = V.heap.size := fun vs => by
        induction vs with
        | nil => exact fun _ _ => rfl
        | cons v r ih => exact fun o V => (ih (o + 1) _).trans (by simp [World.setCell])
      rw [Array.getElem?_eq_none h1, Array.getElem?_eq_none (by rw [hz]; exact h1)]
  · exact (hG.block k (Nat.lt_of_lt_of_le hk h.below.size) (fun e => hne _ rfl (Option.some.inj e).symm)).trans (h.kept k hk hne)
theorem EnX.ok_at {e : En} (h : EnX w g e) (hs : Srt B w W (some ⟨g, 0, none⟩)) : EnOk W e := by
  have hL : ∀ (a : Option Addr) (x : List Int), LI w a x → (∀ p, a = some p → 0 < x.length → p.block ≠ g) → LI W a x := fun a x h1 h2 i hi => by
    obtain ⟨b, o, e1, e2⟩ := h1 i hi
    refine ⟨b, o, e1, ?_⟩
    have hne : b ≠ g := h2 ⟨b, o, none⟩ e1 (by omega)
    rw [World.cell?_of_block (hs.kept b (lt_of_cell e2) (fun p hp => by injection hp with hp; rw [← hp]; exact fun e => hne e.symm))]
    exact e2
  exact ⟨hL _ _ h.ok.ws h.wx, hL _ _ h.ok.pr h.px, h.ok.wl, h.ok.pl⟩
end
theorem getD_in {es : List En} {k : Nat} (hk : k < es.length) : es.getD k default ∈ es := by
  rw [List.getD_eq_getElem?_getD, List.getElem?_eq_getElem hk]; exact List.getElem_mem hk
/-- Cells of a list. -/
theorem IsO.cells {w : World} {B g n c : Nat} {es : List En} (h : IsO w B (some ⟨g, 0, none⟩) n c es) {k : Nat} (hk : k < n) : w.cell? ⟨g, k * 3, none⟩ = some (.int .i64 (es.getD k default).o.st) ∧ w.cell? ⟨g, k * 3 + 1, none⟩ = some (.slice (es.getD k default).wa (es.getD k default).o.ws.length (es.getD k default).wc) ∧ w.cell? ⟨g, k * 3 + 2, none⟩ = some (.slice (es.getD k default).pa (es.getD k default).o.pr.length (es.getD k default).pc) := by
  have hk' : k < es.length := by rw [h.is]; exact hk
  exact ⟨fam_cell h.own rfl (ensV_at es (j := 0) hk' (by omega)), fam_cell h.own rfl (ensV_at es (j := 1) hk' (by omega)), fam_cell h.own rfl (ensV_at es (j := 2) hk' (by omega))⟩
theorem IsO.put {w : World} {B g n c : Nat} {es : List En} (h : IsO w B (some ⟨g, 0, none⟩) n c es) {k : Nat} (hk : k < n) (e : En) : IsO (w.setCells g (k * 3) [.int .i64 e.o.st, .slice e.wa e.o.ws.length e.wc, .slice e.pa e.o.pr.length e.pc]) B (some ⟨g, 0, none⟩) n c (es.set k e) :=
  ⟨by rw [List.length_set]; exact h.is, by rw [← ensV_put es k e (by rw [h.is]; exact hk)]; exact fam_puts rfl _ _ _ _ h.own⟩
/-- What is known while like ones are sought: the first of them stands at k0. -/
structure CpI (w W : World) (B g n c : Nat) (es es2 : List En) (k0 k k2 : Nat) : Prop where
  is : IsO W B (some ⟨g, 0, none⟩) n c es2
  srt : Srt B w W (some ⟨g, 0, none⟩)
  take : es2.take k = compE es (k0 + k2)
  rest : ∀ j, k ≤ j → es2.getD j default = es.getD j default
  k1 : k < k0 + k2
  k0 : 0 < k0
theorem CpI.same {w W : World} {B g n c : Nat} {es es2 : List En} {k0 k k2 : Nat} (h : CpI w W B g n c es es2 k0 k k2) (he : (es.getD (k0 + k2) default).o = (es.getD (k0 + k2 - 1) default).o) : CpI w W B g n c es es2 k0 k (k2 + 1) :=
  ⟨h.is, h.srt, by rw [← Nat.add_assoc, compE_same (by have := h.k0; omega) he]; exact h.take, h.rest, by have := h.k1; omega, h.k0⟩
theorem CpI.new {w W : World} {B g n c : Nat} {es es2 : List En} {k0 k k2 : Nat} (h : CpI w W B g n c es es2 k0 k k2) (hg : B ≤ g) (hn : k0 + k2 < n) (he : (es.getD (k0 + k2) default).o ≠ (es.getD (k0 + k2 - 1) default).o) : CpI w (W.setCells g (k * 3) [.int .i64 (es.getD (k0 + k2) default).o.st, .slice (es.getD (k0 + k2) default).wa (es.getD (k0 + k2) default).o.ws.length (es.getD (k0 + k2) default).wc, .slice (es.getD (k0 + k2) default).pa (es.getD (k0 + k2) default).o.pr.length (es.getD (k0 + k2) default).pc]) B g n c es (es2.set k (es.getD (k0 + k2) default)) k0 (k + 1) (k2 + 1) := by
  have hk := h.k1
  have hl : k < es2.length := by rw [h.is.is]; omega
  refine ⟨h.is.put (by omega) _, h.srt.puts hg _ _, ?_, fun j hj => ?_, by omega, h.k0⟩
  · rw [← Nat.add_assoc, compE_new (Or.inr he), ← h.take, take_snoc (by simpa using hl), List.take_set_of_le (Nat.le_refl _)]
    congr 2
    rw [List.getD_eq_getElem?_getD, List.getElem?_set_self hl]
    rfl
  · rw [List.getD_eq_getElem?_getD, List.getElem?_set_ne (by omega), ← List.getD_eq_getElem?_getD]
    exact h.rest j (by omega)
end

section
open Go.RowKit Go.Sort Go.Shelf

theorem take_eq_next {x y : List Oc} {k : Nat} (h : x.take k = y.take k) (h1 : k < x.length) (h2 : k < y.length) (e : x.getD k default = y.getD k default) : x.take (k + 1) = y.take (k + 1) := otake_ext h h1 h2 e
set_option maxRecDepth 100000 in
set_option maxHeartbeats 1600000 in
theorem equal_any (w : World) (a b : Option Addr) (es fs : List En) (c d : Nat) (hE : EIn w a es) (hF : EIn w b fs) (hok : ∀ x, x ∈ es → EnOk w x) (hok' : ∀ x, x ∈ fs → EnOk w x) (hn : es.length ≤ 100000) (_hm : fs.length ≤ 100000) :
    Calls Tryz.prog 65 #[.slice a es.length c, .slice b fs.length d, .func (.func 66) #[] #[]] w fun e w' => e = .returned (.bool (decide (es.map En.o = fs.map En.o))) ∧ Below w.heap.size w w' := by
  by_cases hl : es.length = fs.length
  · obtain ⟨R, hR⟩ : ∃ R, decide (es.map En.o = fs.map En.o) = R := ⟨_, rfl⟩
    have HR : Hid (decide (es.map En.o = fs.map En.o) = R) := hR
    rw [hR]
    have HS : Hid (∀ W i, Below w.heap.size w W → i < es.length → Calls Tryz.prog 66 #[enV (es.getD i default), enV (fs.getD i default)] W fun e w' => e = .returned (.bool (decide ((es.getD i default).o = (fs.getD i default).o))) ∧ Below w.heap.size w w') := fun W i hb hi => by
      refine Calls.mono (same_any W _ _ ((hok _ (getD_in hi)).below hb) ((hok' _ (getD_in (by omega))).below hb)) ?_
      rintro e w' ⟨he, h2⟩
      exact ⟨he, hb.trans (h2.mono hb.size)⟩
    have HE : Hid (EIn w a es ∧ EIn w b fs) := ⟨hE, hF⟩
    obtain ⟨n, hnn⟩ : ∃ n, es.length = n := ⟨_, rfl⟩
    have HN : Hid (es.length = n ∧ fs.length = n) := ⟨hnn, by rw [← hl]; exact hnn⟩
    rw [← hl, hnn]
    rw [hnn] at hn HS
    clear hE hF hok hok' hl hnn hR
    go_enter Tryz.func65, Tryz.ntmps65
    go_wp2_with fail
    go_loopw [17] (fun i wr => ∃ k : Nat, k ≤ n ∧ i = .int .i64 k ∧ Hid (Below w.heap.size w wr ∧ (es.map En.o).take k = (fs.map En.o).take k)) (fun i _ => n - (intOf i).toNat)
    case atStart => exact ⟨0, Nat.zero_le _, rfl, Below.refl _ _, rfl⟩
    case round =>
      obtain ⟨k, hk, rfl, HI⟩ := hrel
      by_cases hlt : k < n
      · have hbr := HI.out.1
        obtain ⟨p, o, rfl, a0, a1, a2⟩ := (HE.out.1.below hbr) k (by rw [HN.out.1]; exact hlt)
        obtain ⟨p2, o2, rfl, b0, b1, b2⟩ := (HE.out.2.below hbr) k (by rw [HN.out.2]; exact hlt)
        have hp := lt_of_cell a0
        have hp2 := lt_of_cell b0
        have hsz := hbr.size
        have hT := HI.out.2
        obtain ⟨R2, hR2⟩ : ∃ R, decide ((es.getD k default).o = (fs.getD k default).o) = R := ⟨_, rfl⟩
        have HNX : Hid (R2 = true → (es.map En.o).take (k + 1) = (fs.map En.o).take (k + 1)) := fun h => by
          rw [h] at hR2
          refine take_eq_next hT (by rw [List.length_map, HN.out.1]; exact hlt) (by rw [List.length_map, HN.out.2]; exact hlt) ?_
          rw [map_getD (by rw [HN.out.1]; exact hlt), map_getD (by rw [HN.out.2]; exact hlt)]
          exact of_decide_eq_true hR2
        have HNO : Hid (R2 = false → R = false) := fun h => by
          rw [h] at hR2
          rw [← HR.out]
          refine decide_eq_false (fun e => of_decide_eq_false hR2 ?_)
          have : (es.map En.o).getD k default = (fs.map En.o).getD k default := by rw [e]
          rw [map_getD (by rw [HN.out.1]; exact hlt), map_getD (by rw [HN.out.2]; exact hlt)] at this
          exact this
        have HC : Hid (∀ W, Below w.heap.size w W → Calls Tryz.prog 66 #[enV (es.getD k default), enV (fs.getD k default)] W fun e w' => e = .returned (.bool R2) ∧ Below w.heap.size w w') := fun W hb => by
          have := HS.out W k hb hlt
          rw [hR2] at this
          exact this
        obtain ⟨⟨⟨s1, l1, m1⟩, wa1, wc1, pa1, pc1⟩, hx1⟩ : ∃ x, es.getD k default = x := ⟨_, rfl⟩
        obtain ⟨⟨⟨s2, l2, m2⟩, wa2, wc2, pa2, pc2⟩, hx2⟩ : ∃ x, fs.getD k default = x := ⟨_, rfl⟩
        rw [hx1] at a0 a1 a2
        rw [hx2] at b0 b1 b2
        have HC2 : Hid (∀ W, Below w.heap.size w W → Calls Tryz.prog 66 #[.agg #[.int .i64 s1, .slice wa1 l1.length wc1, .slice pa1 m1.length pc1], .agg #[.int .i64 s2, .slice wa2 l2.length wc2, .slice pa2 m2.length pc2]] W fun e w' => e = .returned (.bool R2) ∧ Below w.heap.size w w') := fun W hb => by
          have := HC.out W hb
          rw [hx1, hx2] at this
          exact this
        have HBR := Hid.out (p := Hid _) hbr
        dsimp only at a0 a1 a2 b0 b1 b2
        clear HC hT hR2 hx1 hx2 HI hbr
        go_wp2_with fail
        refine Calls.mono (HC2.out _ ((HBR.out.alloc hsz _).alloc (by simp; omega) _)) ?_
        rintro e w1 ⟨rfl, hb1⟩
        have HB1 := Hid.out (p := Hid _) hb1
        clear HC2 hb1 a0 a1 a2 b0 b1 b2 hp hp2 hsz HBR
        cases R2 with
        | true =>
          go_wp2_with fail
          go_roundw
          case rel => exact ⟨k + 1, by omega, by go_num, HB1.out, HNX.out (by trivial)⟩
          case measure => simp [intOf]; omega
        | false =>
          obtain rfl : R = false := HNO.out rfl
          go_wp2_with fail
          go_ret
          exact ⟨rfl, HB1.out⟩
      · obtain rfl : k = n := by omega
        have hv : R = true := by
          rw [← HR.out]
          refine decide_eq_true ?_
          have := HI.out.2
          rw [List.take_of_length_le (by rw [List.length_map, HN.out.1]; exact Nat.le_refl _), List.take_of_length_le (by rw [List.length_map, HN.out.2]; exact Nat.le_refl _)] at this
          exact this
        subst hv
        have HB := HI.out.1
        have HBR := Hid.out (p := Hid _) HB
        clear HI HB
        go_wp2_with fail
        go_ret
        exact ⟨rfl, HBR.out⟩
  · have hd : decide (es.map En.o = fs.map En.o) = false := decide_eq_false (fun h => hl (by have := congrArg List.length h; simpa using this))
    rw [hd]
    obtain ⟨n, hnn⟩ : ∃ n, es.length = n := ⟨_, rfl⟩
    obtain ⟨m, hmm⟩ : ∃ n, fs.length = n := ⟨_, rfl⟩
    rw [hnn, hmm] at hl ⊢
    have hl' : ¬ (n : Int) = (m : Int) := by omega
    clear hE hF hok hok' hn hd hnn hmm
    go_enter Tryz.func65, Tryz.ntmps65
    go_wp2_with fail
    go_ret
    exact ⟨rfl, Below.refl _ _⟩
end

end Go.Proofs.YtgofbkgfonlceacGreatDoor
