/-
  Whether two outcomes are the same, by the program; a list's parts that are laid bare again.
  All states are gone through, by the program.
  The list of outcomes, while the program goes through states.
  A program that is handed in, opened, with the bounds of its numbers; the table of powers.
-/
import Derived.Test.YtgofbkgfonlceabGreatDoorZBeg
import Derived.Test.YtgofbkgfonlceabGreatDoorZSum
import Derived.Test.YtgofbkgfonlceabGreatDoorWFollow
import Derived.Deep.LoopGhost
import Derived.Test.YtgofbkgfonlceabGreatDoorRead
import Derived.Test.YtgofbkgfonlceabGreatDoorTelP
import Derived.Test.YtgofbkgfonlceabGreatDoorWTell3
import Derived.Shelf.Vars
import Derived.Lib.LaidTab
namespace Go.Proofs.YtgofbkgfonlceabGreatDoor
section
open Go.RowKit Go.Sort Go.Shelf

/-- Worlds that were only grown. -/
theorem grown_below {w : World} {q : Nat} {os : Array Obj} : Below w.heap.size w (grow (w.drewN q) os) := by
  refine ⟨rfl, rfl, rfl, ?_, fun k hk => ?_⟩
  · rw [size_grow]; exact Nat.le_add_right _ _
  · rw [heap_grow_old _ _ (show k < (w.drewN q).heap.size from hk)]; rfl
set_option maxRecDepth 100000 in
set_option maxHeartbeats 800000 in
/-- same. -/
theorem same_any (w : World) (x y : En) (hx : EnOk w x) (hy : EnOk w y) :
    Calls Tryz.prog 56 #[enV x, enV y] w fun e w' => e = .returned (.bool (decide (x.o = y.o))) ∧ Below w.heap.size w w' := by
  have hz : ∀ (a b : Value), Below w.heap.size w ((w.alloc (.cells a.cells 50)).alloc (.cells b.cells 50)) := fun a b => ((Below.refl _ _).alloc (Nat.le_refl _) _).alloc (by simp) _
  have HC : Hid (∀ W, Below w.heap.size w W → Calls Tryz.prog 54 #[enV x, enV y] W fun e w' => e = .returned (.int .i64 (cmpO x.o y.o)) ∧ Below w.heap.size w w') := fun W hb => by
    refine Calls.mono (compare_any W x y (hx.below hb) (hy.below hb)) ?_
    rintro e w' ⟨he, q, os, rfl⟩
    exact ⟨he, hb.trans (grown_below.mono hb.size)⟩
  have hd : decide (x.o = y.o) = decide (cmpO x.o y.o = 0) := by
    rw [decide_eq_decide]
    exact (cmpO_ahead _ _).2.symm
  rw [hd]
  obtain ⟨R, hR⟩ : ∃ R, cmpO x.o y.o = R := ⟨_, rfl⟩
  rw [hR] at HC ⊢
  obtain ⟨⟨⟨st, ws, pr⟩, wa, wc, pa, pc⟩, rfl⟩ : ∃ z, x = z := ⟨_, rfl⟩
  obtain ⟨⟨⟨st2, ws2, pr2⟩, wa2, wc2, pa2, pc2⟩, rfl⟩ : ∃ z, y = z := ⟨_, rfl⟩
  rw [show enV (En.mk ⟨st, ws, pr⟩ wa wc pa pc) = .agg #[.int .i64 st, .slice wa ws.length wc, .slice pa pr.length pc] from rfl, show enV (En.mk ⟨st2, ws2, pr2⟩ wa2 wc2 pa2 pc2) = .agg #[.int .i64 st2, .slice wa2 ws2.length wc2, .slice pa2 pr2.length pc2] from rfl] at HC ⊢
  obtain ⟨n1, hn1⟩ : ∃ n, ws.length = n := ⟨_, rfl⟩
  obtain ⟨n2, hn2⟩ : ∃ n, pr.length = n := ⟨_, rfl⟩
  obtain ⟨n3, hn3⟩ : ∃ n, ws2.length = n := ⟨_, rfl⟩
  obtain ⟨n4, hn4⟩ : ∃ n, pr2.length = n := ⟨_, rfl⟩
  rw [hn1, hn2, hn3, hn4] at HC ⊢
  have HB : Hid (∀ A B, Below w.heap.size w ((w.alloc A).alloc B)) := fun A B => ((Below.refl _ _).alloc (Nat.le_refl _) _).alloc (by simp) _
  have HB1 : Hid (∀ A B, Below w.heap.size w ((w.alloc A).alloc B).drew) := fun A B => (HB.out A B).drew
  clear hx hy hz hd hR hn1 hn2 hn3 hn4
  go_enter Tryz.func56, Tryz.ntmps56
  go_wp2_with fail
  refine Calls.mono (HC.out _ (by first | exact HB.out _ _ | exact HB1.out _ _)) ?_
  rintro e w1 ⟨rfl, hb⟩
  go_wp2_with fail
  go_ret
  exact ⟨rfl, hb⟩
end

section
open Go.RowKit

/-- What holds between two rounds: Z were gone through. -/
structure WlI (c : Wc) (Ob : World → List Sx → List Sx → Prop) (W : World) (K Z O F : List Sx) (os : List Nat) : Prop where
  wk : WkI c W K O os
  ob : Ob W Z F
  df : Df c.Q.L c.X c.mode c.s0 K Z Z O F
  kl : K.length ≤ 4016
  fl : F.length ≤ 16 * Z.length
section
variable {c : Wc} {Ob : World → List Sx → List Sx → Prop} {N : Nat → Obj → Prop} {W W' : World} {K Z O F : List Sx} {os : List Nat}
theorem mem_index {K : List Sx} {s : Sx} (h : s ∈ K) : ∃ q, q < K.length ∧ K.getD q default = s := by
  obtain ⟨k, hk, e⟩ := List.getElem_of_mem h
  exact ⟨k, hk, by rw [List.getD_eq_getElem?_getD, List.getElem?_eq_getElem hk]; exact e⟩
/-- The list of what is open, as it lies. -/
theorem WkI.openB (h : WkI c W K O os) : ∃ oa oc, W.heap[c.ob]? = some (.cells #[.slice oa O.length oc] 144) ∧ W.ownsRow c.B 76 1 (.slice oa O.length oc) O.length (os.map fun b => .pointer (some ⟨b, 0, none⟩)) := by
  obtain ⟨v, h1, h2⟩ := h.obox
  obtain ⟨oa, oc, rfl⟩ := fam_form h2
  rw [h.len] at h1 h2
  exact ⟨oa, oc, h1, h2⟩
/-- The last one is taken. -/
theorem WkI.pop {s : Sx} (hc : WcOk c) (h : WkI c W K (O ++ [s]) os) : ∃ g oc sb os', os = os' ++ [sb] ∧ W.cell? ⟨c.ob, 0, none⟩ = some (.slice (some ⟨g, 0, none⟩) (O.length + 1) oc) ∧ O.length + 1 ≤ oc ∧ W.frozen? ⟨c.ob, 0, none⟩ = false ∧ W.cell? ⟨g, O.length, none⟩ = some (.pointer (some ⟨sb, 0, none⟩)) ∧
    Hid (Fr c.B (NW c.km) W (W.setCell ⟨c.ob, 0, none⟩ (.slice (some ⟨g, 0, none⟩) O.length oc)) ∧ WkI c (W.setCell ⟨c.ob, 0, none⟩ (.slice (some ⟨g, 0, none⟩) O.length oc)) K O os' ∧ ∃ mb bb v, QSt (W.setCell ⟨c.ob, 0, none⟩ (.slice (some ⟨g, 0, none⟩) O.length oc)) 0 (c.Q.at bb) sb mb v s) := by
  obtain ⟨oa, oc, h1, h2⟩ := h.openB
  have hl : (O ++ [s]).length = O.length + 1 := by simp
  rw [hl] at h1 h2
  obtain ⟨g, cp, e, hg, _, _⟩ := fam_block h2 (by omega)
  simp only [Value.slice.injEq] at e
  obtain ⟨rfl, -, rfl⟩ := e
  have hcap : O.length + 1 ≤ oc := by
    rcases h2.2 with ⟨h0, _⟩ | ⟨g', cap', cur, hv, _, _, h3, _⟩
    · cases h0
    · simp only [Value.slice.injEq, true_and] at hv
      rw [hv.2]; exact h3
  have hol : os.length = O.length + 1 := by rw [h.len, hl]
  obtain ⟨os', sb, rfl⟩ : ∃ os' sb, os = os' ++ [sb] := by
    rcases List.eq_nil_or_concat os with e | ⟨l, b, e⟩
    · rw [e] at hol; cases hol
    · exact ⟨l, b, by rw [e]; simp⟩
  have hol' : os'.length = O.length := by simpa using hol
  have hcell : W.cell? ⟨g, O.length, none⟩ = some (.pointer (some ⟨sb, 0, none⟩)) := by
    refine fam_cell h2 hg ?_
    rw [List.map_append, ← hol', List.getElem?_append_right (by simp)]
    simp
  have hf : Fr c.B (NS c.km) W (W.setCell ⟨c.ob, 0, none⟩ (.slice (some ⟨g, 0, none⟩) O.length oc)) := Fr.cell hc.ob h1
  have hF := hf.mono (fun _ _ => ns_nw)
  refine ⟨g, oc, sb, os', rfl, box_cell h1 rfl, hcap, box_free h1, hcell, hF, ?_, ?_⟩
  · obtain ⟨bs, tv, tb1, tr1⟩ := h.text
    obtain ⟨nk, D, hn, hm, hsz, hh⟩ := h.known
    refine WkI.turn hc h hF (bs := bs) ⟨tv, hf.kept _ _ tb1 (ns_cells (by decide) (by decide)), Fr.own tr1 hf (fun k cs => ns_cells (by decide) (by decide))⟩ (hf.kept _ _ h.kbox (ns_cells (by decide) (by decide))) hn ?_ hsz hh (heap_set_same h1) ?_ hol' (fun i hi => ?_) h.ok
    · refine ownsMap_kept hm ?_
      obtain ⟨es, ck, hb, _⟩ := hm
      rw [Below.heap_setCell _ _ _ _ (fun e => by rw [show c.km = c.ob from e, h1] at hb; cases hb)]
    · have h3 := fam_shrink h2 (m := O.length) (by omega)
      rw [hol']
      have e : ((os' ++ [sb]).map fun b => Value.pointer (some ⟨b, 0, none⟩)).take (O.length * 1) = os'.map fun b => Value.pointer (some ⟨b, 0, none⟩) := by
        rw [Nat.mul_one, List.map_append, ← hol', List.take_left' (by simp)]
      rw [e] at h3
      exact fam_keeps h3 (fun k hk => Below.heap_setCell _ _ _ _ (fun e => own_type h3 h1 (by decide) (by rw [hk]; exact congrArg some e)))
    · obtain ⟨mb, bb, C, v, hq⟩ := h.states i (by rw [hl]; omega)
      refine ⟨mb, bb, C, v, ?_⟩
      rw [show (os' ++ [sb]).getD i 0 = os'.getD i 0 by simp [List.getD, List.getElem?_append_left (show i < os'.length by omega)], show (O ++ [s]).getD i default = O.getD i default by simp [List.getD, List.getElem?_append_left hi]] at hq
      exact hq
  · obtain ⟨mb, bb, C, v, hq⟩ := h.states O.length (by rw [hl]; omega)
    rw [show (os' ++ [sb]).getD O.length 0 = sb by rw [← hol']; simp [List.getD], show (O ++ [s]).getD O.length default = s by simp [List.getD]] at hq
    exact ⟨mb, bb, v, (Fr.qst hq hF (fun r k cs => nw_cells (hc.ty r))).zero⟩
/-- A state is seen and its moves are handed on. -/
theorem WlI.seen {fs ff : Nat} {cs cf : Array Value} (hO : Obs c fs ff cs cf N Ob) {s : Sx} {W1 : World} (h : WlI c Ob W K Z (O ++ [s]) F os) (hf : Fr c.B (NW c.km) W W1) {os' : List Nat} (hw : WkI c W1 K O os') {sb mb bb : Nat} {v : Rp → Value} (hq : QSt W1 0 (c.Q.at bb) sb mb v s) (hK : K.length ≤ 4000) : Calls Tryz.prog fs (#[.pointer (some ⟨sb, 0, none⟩)] ++ cs) W1 fun e W' => e = .returned (.tuple #[]) ∧ Ob W' (Z ++ [s]) F ∧ WkI c W' K O os' ∧ QSt W' 0 (c.Q.at bb) sb mb v s := by
  have hs : s ∈ K := (h.df.split s).2 (.inr (by simp))
  obtain ⟨q, hq1, hq2⟩ := h.wk.mem hs
  have hl := h.df.len
  have hfl := h.fl
  rw [List.length_append] at hl
  refine (hO.see W1 Z F sb mb bb v s q (hO.keep _ _ _ _ h.ob hf) hq hq2 (by omega) (by omega) (by omega) hw.low).mono fun e W' ⟨he, h1, h2⟩ => ⟨he, h1, hw.kept h2 (fun k cs t ht => hO.n1 k cs t (ht.imp id Or.inl)) hO.n2 hO.n3, Fr.qst hq h2 hO.n3⟩
theorem WlI.followed {fs ff : Nat} {cs cf : Array Value} (hc : WcOk c) (hO : Obs c fs ff cs cf N Ob) {s : Sx} {W1 : World} (h : WlI c Ob W K Z (O ++ [s]) F os) {os' : List Nat} (hw : WkI c W1 K O os') (hob : Ob W1 (Z ++ [s]) F) {sb mb bb : Nat} {v : Rp → Value} (hq : QSt W1 0 (c.Q.at bb) sb mb v s) (hK : K.length ≤ 4000) :
    Calls Tryz.prog 75 #[.pointer (some ⟨sb, 0, none⟩), .func (.func 73) #[] #[.pointer (some ⟨c.tb, 0, none⟩), .pointer (some ⟨c.kb, 0, none⟩), .pointer (some ⟨c.ob, 0, none⟩)], .func (.func ff) #[] cf] W1 fun e W' => e = .returned (.tuple #[]) ∧ ∃ K' O' F' os', WlI c Ob W' K' (Z ++ [s]) O' F' os' := by
  have hs : s ∈ K := (h.df.split s).2 (.inr (by simp))
  obtain ⟨q, hat⟩ := mem_index hs
  have hl := h.df.len
  have hfl := h.fl
  rw [List.length_append] at hl
  refine (follow_any c hc N Ob fs ff cs cf hO W1 Z (Z ++ [s]) s q sb mb bb v K O F os' hw hob h.df.pop hq hat (by simp) (by omega) (by rw [List.length_append, List.length_singleton]; omega) (by omega)).mono ?_
  rintro e W' ⟨he, K', O', F', os2, h1, h2, h3, h4, h5, h6⟩
  exact ⟨he, K', O', F', os2, h1, h2, h3.gone h4, by omega, by rw [List.length_append, List.length_singleton]; omega⟩
end

set_option maxRecDepth 100000 in
set_option maxHeartbeats 3200000 in
/-- All states are gone through. -/
theorem walk_any (c : Wc) (hc : WcOk c) (N : Nat → Obj → Prop) (Ob : World → List Sx → List Sx → Prop) (fs ff : Nat) (cs cf : Array Value) (hO : Obs c fs ff cs cf N Ob) (w : World) (hkm : c.km = w.heap.size) (hkb : c.kb = w.heap.size + 1) (hobb : c.ob = w.heap.size + 1 + 1) (htb : c.tb = w.heap.size + 1 + 1 + 1) (hlow : Below c.B c.w0 w) (sb mb bb : Nat) (v : Rp → Value) (hst : QSt w 0 (c.Q.at bb) sb mb v c.s0) (hs0 : StP c 0 c.s0) (hob : ∀ V, Below w.heap.size w V → w.heap.size < V.heap.size → Ob V [] []) :
    Calls Tryz.prog 39 #[.pointer (some ⟨sb, 0, none⟩), .func (.func fs) #[] cs, .func (.func ff) #[] cf] w fun e W' => ∃ K Z O F os, e = .returned (.bool (decide (K.length ≤ 4000))) ∧ WlI c Ob W' K Z O F os ∧ (K.length ≤ 4000 → O = []) := by
  have hBw : c.B ≤ w.heap.size := by rw [hc.Bw]; exact hlow.size
  obtain ⟨w4, hw4⟩ : ∃ V, V = (((w.alloc (.map #[] 0)).alloc (.cells #[.map (some w.heap.size)] 143)).alloc (.cells #[nilV] 144)).alloc (.cells #[nilV] 145) := ⟨_, rfl⟩
  have hb4 : Below w.heap.size w w4 := by rw [hw4]; exact ((((Below.refl _ _).alloc (Nat.le_refl _) _).alloc (by simp) _).alloc (by simp; omega) _).alloc (by simp; omega) _
  have hwk0 : WkI c w4 [] [] [] := by
    have n0 := heap_alloc_new w (.map #[] 0)
    have n1 := heap_alloc_new (w.alloc (.map #[] 0)) (.cells #[.map (some w.heap.size)] 143)
    have n2 := heap_alloc_new ((w.alloc (.map #[] 0)).alloc (.cells #[.map (some w.heap.size)] 143)) (.cells #[nilV] 144)
    have n3 := heap_alloc_new (((w.alloc (.map #[] 0)).alloc (.cells #[.map (some w.heap.size)] 143)).alloc (.cells #[nilV] 144)) (.cells #[nilV] 145)
    simp only [World.size_alloc] at n1 n2 n3
    have up : ∀ (V : World) (o o' : Obj) (k : Nat), V.heap[k]? = some o → (V.alloc o').heap[k]? = some o := fun V o o' k hk => (Below.heap_alloc _ _ _ (box_lt hk)).trans hk
    have e0 : w4.heap[w.heap.size]? = some (.map #[] 0) := by rw [hw4]; exact up _ _ _ _ (up _ _ _ _ (up _ _ _ _ n0))
    have e1 : w4.heap[w.heap.size + 1]? = some (.cells #[.map (some w.heap.size)] 143) := by rw [hw4]; exact up _ _ _ _ (up _ _ _ _ n1)
    have e2 : w4.heap[w.heap.size + 1 + 1]? = some (.cells #[nilV] 144) := by rw [hw4]; exact up _ _ _ _ n2
    have e3 : w4.heap[w.heap.size + 1 + 1 + 1]? = some (.cells #[nilV] 145) := by rw [hw4]; exact n3
    refine ⟨⟨[], _, by rw [htb]; exact e3, World.ownsRow_nil _ _ _ _⟩, by rw [hkb, hkm]; exact e1, ⟨0, .map [], Nat.le_refl _, ?_, rfl, fun l => ?_⟩, ⟨_, by rw [hobb]; exact e2, World.ownsRow_nil _ _ _ _⟩, rfl, fun i hi => absurd hi (Nat.not_lt_zero _), fun k hk => absurd hk (Nat.not_lt_zero _), hlow.trans (hb4.mono hBw)⟩
    · have := World.ownsMap_made (H := Unit) w Tryz.prog 9 (unitElem (H := Unit))
      rw [hkm]
      refine ownsMap_kept this ?_
      rw [e0, n0]
    · simp [Maps.has]
  have hob4 := hob w4 hb4 (by rw [hw4]; simp; omega)
  have HC1 : Hid (Calls Tryz.prog 73 #[.pointer (some ⟨sb, 0, none⟩), .pointer (some ⟨c.tb, 0, none⟩), .pointer (some ⟨c.kb, 0, none⟩), .pointer (some ⟨c.ob, 0, none⟩)] w4 (fun e W' => e = .returned (.tuple #[]) ∧ ∃ os, WlI c Ob W' [c.s0] [] [c.s0] [] os)) := by
    refine (come_any c hc w4 [] [] [] hwk0 sb mb bb 0 v c.s0 (hst.below hb4) hs0 (by simp) (Nat.le_refl _)).mono ?_
    rintro e W' ⟨he, hfr, hq⟩
    rcases hq with ⟨hin, _⟩ | ⟨_, hw⟩
    · cases hin
    · exact ⟨he, _, hw, hO.keep _ _ _ _ hob4 hfr, Df.begin, by simp, by simp⟩
  have kS := hO.fnS
  have kF := hO.fnF
  have HCC := Hid.out (p := Hid _) hc
  have HOO := Hid.out (p := Hid _) hO
  have HW4 : Hid ((((w.alloc (.map #[] 0)).alloc (.cells #[.map (some w.heap.size)] 143)).alloc (.cells #[nilV] 144)).alloc (.cells #[nilV] 145) = w4) := hw4.symm
  have hmm := @run_makeMap Tryz.prog
  clear hc hO hlow hst hs0 hob hBw hb4 hwk0 hob4 hw4
  go_enter Tryz.func39, Tryz.ntmps39
  rw [htb, hkb, hobb] at HC1
  go_wp2_with fail
  rw [HW4.out]
  refine Calls.mono HC1.out ?_
  rintro e w5 ⟨rfl, os0, h5⟩
  have H5 := Hid.out (p := Hid _) h5
  clear HC1 h5 HW4
  go_wp2_with fail
  go_loopg [11] 4300 (fun g x wr => ∃ (K Z O F : List Sx) (os : List Nat), Hid (WlI c Ob wr K Z O F os ∧ g + Z.length = 4300))
  case atStart => exact ⟨[c.s0], [], [c.s0], [], os0, H5.out, rfl⟩
  case round =>
    obtain ⟨K, Z, O, F, os, HL⟩ := hrel
    clear H5
    obtain ⟨nk, D, hnk, hm, hsz, hhas⟩ := HL.out.1.wk.known
    have hlen := fun ty => hm.len Tryz.underlying143 ty
    obtain ⟨oa, oc, ob1, or1⟩ := HL.out.1.wk.openB
    have kc : wr.cell? ⟨c.kb, 0, none⟩ = some (.map (some c.km)) := box_cell HL.out.1.wk.kbox rfl
    have occ : wr.cell? ⟨c.ob, 0, none⟩ = some (.slice oa O.length oc) := box_cell ob1 rfl
    rw [hkb] at kc
    rw [hobb] at occ
    rw [hsz, hkm] at hlen
    rw [hkm] at kc
    have hkl := HL.out.1.kl
    have hdl := HL.out.1.df.len
    obtain ⟨kn, hkn⟩ : ∃ k, K.length = k := ⟨_, rfl⟩
    have HKN : Hid (K.length = kn) := hkn
    obtain ⟨on, hon⟩ : ∃ k, O.length = k := ⟨_, rfl⟩
    have HON : Hid (O.length = on) := hon
    rw [hkn] at hlen hkl hdl
    rw [hon] at occ hdl
    have hon4 : on ≤ 4016 := by omega
    clear hnk hm hsz hhas ob1 or1 hkn hon
    by_cases hgo : 0 < on ∧ kn ≤ 4000
    · obtain ⟨ho0, hk4⟩ := hgo
      obtain ⟨O', s, rfl⟩ : ∃ O' s, O = O' ++ [s] := by
        rcases List.eq_nil_or_concat O with e | ⟨l, b, e⟩
        · have := HON.out; rw [e] at this; simp at this; omega
        · exact ⟨l, b, by rw [e]; simp⟩
      obtain ⟨g, oc2, sb', os', hos, o1, ocl, o2, o3, HP⟩ := HL.out.1.wk.pop HCC.out
      rw [hobb] at o1 o2 HP
      obtain ⟨hfr, hw2, mb', bb', v', hq2⟩ := HP.out
      have hn1 : O'.length + 1 = on := by have := HON.out; simpa using this
      obtain ⟨n1, hn1'⟩ : ∃ k, O'.length = k := ⟨_, rfl⟩
      have HN1 : Hid (O'.length = n1) := hn1'
      rw [hn1'] at o1 o3 hn1 hfr hw2 hq2 ocl
      subst hn1
      have HS1 := Hid.out (p := Hid _) (HL.out.1.seen HOO.out hfr hw2 hq2 (by rw [HKN.out]; exact hk4))
      have hb2 : (((n1 + 1 : Nat) : Int)) - 1 = (n1 : Int) := by omega
      clear hos HP hfr hw2 hq2 occ hn1'
      go_wp2_with fail
      refine Calls.mono HS1.out ?_
      rintro e w6 ⟨rfl, hob6, hw6, hq6⟩
      have HC6 := Hid.out (p := Hid _) (HL.out.1.followed HCC.out HOO.out hw6 hob6 hq6 (by rw [HKN.out]; exact hk4))
      rw [htb, hkb, hobb] at HC6
      have HZ : Hid (Z.length < 4001 ∧ gk + Z.length = 4300) := ⟨by
        have h1 := HL.out.1.df.len
        rw [HKN.out, List.length_append] at h1
        simp only [List.length_singleton] at h1
        omega, HL.out.2⟩
      clear HS1 hob6 hw6 hq6 HL o1 o2 o3 kc hlen
      go_wp2_with fail
      refine Calls.mono HC6.out ?_
      rintro e w7 ⟨rfl, K7, O7, F7, os7, h7⟩
      have H7 := Hid.out (p := Hid _) h7
      clear HC6 h7
      go_wp2_with fail
      go_roundg (gk - 1)
      case rel =>
        refine ⟨K7, Z ++ [s], O7, F7, os7, H7.out, ?_⟩
        have h1 := HZ.out
        rw [List.length_append, List.length_singleton]
        omega
      case measure => have h1 := HZ.out; omega
    · have HR : Hid (∃ K Z O F os, Ending.returned (.bool (decide (kn ≤ 4000))) = Ending.returned (.bool (decide (K.length ≤ 4000))) ∧ WlI c Ob wr K Z O F os ∧ (K.length ≤ 4000 → O = [])) := by
        refine ⟨K, Z, O, F, os, by rw [HKN.out], HL.out.1, fun hk => ?_⟩
        refine List.eq_nil_of_length_eq_zero ?_
        rw [HON.out]
        rw [HKN.out] at hk
        omega
      by_cases ho0 : 0 < on
      · have hk4 : ¬ kn ≤ 4000 := fun h => hgo ⟨ho0, h⟩
        have hk4' : (4000 : Int) < (kn : Int) := by omega
        clear HL hgo
        go_wp2_with fail
        go_ret
        obtain ⟨K', Z', O', F', os', h1, h2⟩ := HR.out
        refine ⟨K', Z', O', F', os', ?_, h2⟩
        rw [← h1]
        exact ret_bool (by first | rfl | (rw [Bool.eq_iff_iff]; simp; omega) | (rw [Bool.eq_iff_iff]; simp))
      · obtain rfl : on = 0 := by omega
        clear HL hgo
        go_wp2_with fail
        go_ret
        obtain ⟨K', Z', O', F', os', h1, h2⟩ := HR.out
        refine ⟨K', Z', O', F', os', ?_, h2⟩
        rw [← h1]
        exact ret_bool (by first | rfl | (rw [Bool.eq_iff_iff]; simp; omega) | (rw [Bool.eq_iff_iff]; simp))
end

section
open Go.RowKit Go.Sort Go.Shelf

/-- An outcome whose lists are the program's own. -/
structure EnJ (w : World) (B : Nat) (e : En) : Prop where
  ws : w.ownsRow B 3 1 (.slice e.wa e.o.ws.length e.wc) e.o.ws.length (intsV e.o.ws)
  pr : w.ownsRow B 3 1 (.slice e.pa e.o.pr.length e.pc) e.o.pr.length (intsV e.o.pr)
  wl : e.o.ws.length ≤ 100000
  pl : e.o.pr.length ≤ 100000
section
variable {w w' : World} {B : Nat} {e : En}
theorem EnJ.ok (h : EnJ w B e) : EnOk w e := ⟨IsI.iin ⟨rfl, h.ws⟩, IsI.iin ⟨rfl, h.pr⟩, h.wl, h.pl⟩
theorem EnJ.off (h : EnJ w B e) {g : Nat} {cs : Array Value} {t : TypeId} (hg : w.heap[g]? = some (.cells cs t (0, 0))) (ht : 3 ≠ t) : EnX w g e :=
  ⟨h.ok, fun p hp _ hb => own_type h.ws hg ht (by rw [hp]; exact congrArg some hb), fun p hp _ hb => own_type h.pr hg ht (by rw [hp]; exact congrArg some hb)⟩
theorem EnJ.fr {N : Nat → Obj → Prop} {C : Nat} (h : EnJ w B e) (hf : Fr C N w w') (hN : ∀ k c, ¬ N k (.cells c 3)) : EnJ w' B e := ⟨Fr.own h.ws hf hN, Fr.own h.pr hf hN, h.wl, h.pl⟩
theorem EnJ.below (h : EnJ w B e) (hb : Below w.heap.size w w') : EnJ w' B e := ⟨fam_keeps h.ws (fun g hg => hb.block g (h.ws.lt g hg).2), fam_keeps h.pr (fun g hg => hb.block g (h.pr.lt g hg).2), h.wl, h.pl⟩
end
/-- What those who look on may turn. -/
def NO (km : Nat) (k : Nat) (o : Obj) : Prop := k ≠ km ∧ ∃ c t fz, o = .cells c t fz ∧ (t = 50 ∨ t = 27)
theorem no_cells {km k : Nat} {c : Array Value} {t : TypeId} (h1 : t ≠ 50) (h2 : t ≠ 27) : ¬ NO km k (.cells c t) := fun h => by
  obtain ⟨_, c', t', fz, e, h⟩ := h
  injection e with _ e2
  rcases h with h | h
  · exact h1 (e2.trans h)
  · exact h2 (e2.trans h)
/-- The list as it lies. -/
structure OlI (W : World) (B km lb : Nat) (es : List En) : Prop where
  box : ∃ a c, W.heap[lb]? = some (.cells #[.slice a es.length c] 27) ∧ IsO W B a es.length c es ∧ ∀ p, a = some p → p.block ≠ km
  ok : ∀ e, e ∈ es → EnJ W B e
  up : km < W.heap.size
  low : B ≤ lb
  off : lb ≠ km
section
variable {W W' : World} {B km lb : Nat} {es : List En}
theorem OlI.fr {N : Nat → Obj → Prop} (h : OlI W B km lb es) (hf : Fr B N W W') (h1 : ∀ k c, ¬ N k (.cells c 3)) (h2 : ∀ k c, ¬ N k (.cells c 50)) (h3 : ∀ k c, ¬ N k (.cells c 27)) : OlI W' B km lb es := by
  obtain ⟨a, c, e1, e2, e3⟩ := h.box
  exact ⟨⟨a, c, hf.kept _ _ e1 (h3 _ _), ⟨e2.is, Fr.own e2.own hf h2⟩, e3⟩, fun e he => (h.ok e he).fr hf h1, Nat.lt_of_lt_of_le h.up hf.below.size, h.low, h.off⟩
theorem OlI.below (h : OlI W B km lb es) (hB : B ≤ W.heap.size) (hb : Below W.heap.size W W') : OlI W' B km lb es :=
  h.fr (N := fun _ _ => False) (Fr.of_below hB hb) (fun _ _ h => h) (fun _ _ h => h) (fun _ _ h => h)
/-- One more. -/
theorem OlI.push (h : OlI W B km lb es) (hB : B ≤ W.heap.size) (hlen : es.length ≤ 90000) (e : En) (he : EnJ W B e) : ∃ a c, W.cell? ⟨lb, 0, none⟩ = some (.slice a es.length c) ∧
    ∃ g cap w3, (AppS #[27, 27] 27 #[.slice a es.length c, .slice (some ⟨W.heap.size, 0, none⟩) 1 1]).run Tryz.prog (W.alloc (.cells #[.int .i64 e.o.st, .slice e.wa e.o.ws.length e.wc, .slice e.pa e.o.pr.length e.pc] 50)) = .ok (.slice (some ⟨g, 0, none⟩) (es.length + 1) cap) w3 ∧ w3.cell? ⟨lb, 0, none⟩ = some (.slice a es.length c) ∧ w3.frozen? ⟨lb, 0, none⟩ = false ∧
      Hid (OlI (w3.setCell ⟨lb, 0, none⟩ (.slice (some ⟨g, 0, none⟩) (es.length + 1) cap)) B km lb (es ++ [e]) ∧ Fr B (NO km) W (w3.setCell ⟨lb, 0, none⟩ (.slice (some ⟨g, 0, none⟩) (es.length + 1) cap))) := by
  obtain ⟨a, c, e1, e2, e3⟩ := h.box
  refine ⟨a, c, box_cell e1 rfl, ?_⟩
  obtain ⟨g, cap, w3, r1, r2, r3, r4⟩ := app_row (T := 27) Tryz.underlying27 infoOutcome rfl (by omega) e2.own (Below.refl _ _) hB 1 #[.int .i64 e.o.st, .slice e.wa e.o.ws.length e.wc, .slice e.pa e.o.pr.length e.pc] rfl (by simp [Value.oneCell']) (by omega) (by omega) (by omega)
  have hsz : W.heap.size + 1 ≤ w3.heap.size := by have := r3.size; simpa using this
  have hkeep : ∀ k, k < W.heap.size → (∀ p, a = some p → p.block ≠ k) → w3.heap[k]? = W.heap[k]? := fun k hk hne => by
    refine (r3.block k (by simp; omega) (fun e => ?_)).trans (Below.heap_alloc _ _ _ hk)
    cases a with
    | none => cases e
    | some p => exact hne p rfl (Option.some.inj e).symm
  have hlb := box_lt e1
  have hal : ∀ p, a = some p → p.block ≠ lb := fun p hp hb => own_type e2.own e1 (by decide) (by rw [hp]; exact congrArg some hb)
  have e1' : w3.heap[lb]? = some (.cells #[.slice a es.length c] 27) := (hkeep lb hlb hal).trans e1
  have hgl : g ≠ lb := fun e => by
    rcases r4 with r4 | r4
    · cases a with
      | none => cases r4
      | some p => exact hal p rfl ((Option.some.inj r4).trans e)
    · omega
  have hgk : g ≠ km := fun e => by
    have := h.up
    rcases r4 with r4 | r4
    · cases a with
      | none => cases r4
      | some p => exact e3 p rfl ((Option.some.inj r4).trans e)
    · omega
  have hfr : Fr B (NO km) W (w3.setCell ⟨lb, 0, none⟩ (.slice (some ⟨g, 0, none⟩) (es.length + 1) cap)) := by
    refine ⟨?_, fun k o hk hn => ?_⟩
    · exact (((Below.refl B W).alloc hB _).grown r3 (by simp; omega) (fun k hk => (e2.own.lt k hk).1)).setCell h.low _
    · have hkl : k ≠ lb := fun e => hn (by
        rw [e, e1] at hk
        rw [← Option.some.inj hk, e]
        exact ⟨h.off, _, _, _, rfl, Or.inr rfl⟩)
      rw [Below.heap_setCell _ _ _ _ hkl]
      refine (hkeep k (box_lt hk) (fun p hp hb => hn ?_)).trans hk
      rcases e2.own.2 with ⟨h0, _⟩ | ⟨g', cap', cur, hv, _, hh, _⟩
      · simp only [Value.slice.injEq] at h0
        rw [h0.1] at hp; cases hp
      · simp only [Value.slice.injEq] at hv
        rw [hv.1] at hp
        rw [← Option.some.inj hp] at hb
        have hb' : g' = k := hb
        rw [← hb', hh] at hk
        rw [← Option.some.inj hk]
        refine ⟨fun e => e3 _ hv.1 (hb'.trans e), _, _, _, rfl, Or.inl rfl⟩
  refine ⟨g, cap, w3, r1, box_cell e1' rfl, box_free e1', ⟨⟨some ⟨g, 0, none⟩, cap, ?_, ⟨rfl, ?_⟩, ?_⟩, ?_, ?_, h.low, h.off⟩, hfr⟩
  · rw [List.length_append, List.length_singleton]; exact heap_set_same e1'
  · rw [List.length_append, List.length_singleton, ensV_snoc]
    exact fam_keeps r2 (fun k hk => Below.heap_setCell _ _ _ _ (fun e => hgl ((Option.some.inj hk).trans e)))
  · intro p hp
    rw [← Option.some.inj hp]; exact hgk
  · intro x hx
    rcases List.mem_append.mp hx with hx | hx
    · exact (h.ok x hx).fr hfr (fun k c => no_cells (by decide) (by decide))
    · rw [List.mem_singleton.mp hx]; exact he.fr hfr (fun k c => no_cells (by decide) (by decide))
  · have := h.up
    show km < (w3.setCell _ _).heap.size
    simp [World.setCell]; omega
end
set_option maxRecDepth 100000 in
set_option maxHeartbeats 800000 in
/-- Prints. -/
theorem prints_any (w : World) (B : Nat) (Q : Cd) (sb mb : Nat) (v : Rp → Value) (s : Sx) (hs : QSt w B Q sb mb v s) (hn : s.prints.length ≤ 1000000) :
    Calls Tryz.prog 51 #[.pointer (some ⟨sb, 0, none⟩)] w fun e w' => ∃ a c, e = .returned (.slice a s.prints.length c) ∧ w'.ownsRow w.heap.size 3 1 (.slice a s.prints.length c) s.prints.length (intsV s.prints) ∧ Below w.heap.size w w' := by
  obtain ⟨pa, pc, hv⟩ := hs.form .prints
  change v .prints = .slice pa s.prints.length pc at hv
  have c2 := hs.c2
  rw [hv] at c2
  have hown := hs.fam.own .prints
  rw [hv] at hown
  have HC : Hid (Calls Tryz.prog 57 #[.slice pa s.prints.length pc] w fun e w' => ∃ a' c', e = .returned (.slice a' s.prints.length c') ∧ w'.ownsRow w.heap.size 3 1 (.slice a' s.prints.length c') s.prints.length (intsV s.prints) ∧ Below w.heap.size w w') := cloneI_row w B pa pc s.prints hown hn
  obtain ⟨n, hnn⟩ : ∃ n, s.prints.length = n := ⟨_, rfl⟩
  rw [hnn] at c2 HC ⊢
  clear hs hv hown hn hnn
  go_enter Tryz.func51, Tryz.ntmps51
  go_wp2_with fail
  refine Calls.mono HC.out ?_
  rintro e w1 ⟨a', c', rfl, h1, h2⟩
  go_wp2_with fail
  go_ret
  exact ⟨a', c', rfl, h1, h2⟩
end

section
open Go.ChangeShapes Go.WideShapes Go.ChangeAt Go.RowKit Go.Joins Go.Deep

theorem i64n_of {v : Int} (h : (Lit.int .i64 v).wf = true) : I64n v := by
  have e : IntKind.i64.min = -9223372036854775808 := rfl
  simpa [Lit.wf, I64n, e] using h
set_option maxRecDepth 100000 in
theorem open_prog3 {H : Type} {enc : TypeId × Value → H} {W : World} {b0 : Nat} {v : Value} {d : DataW H} {p : List MemPlace} (hv : Value.okWide Tryz.prog W .any b0 25 v) (h : DataW.Trod enc Tryz.prog W 0 (fun _ => true) true 25 v d p) :
    ∃ (ca : Option Addr) (n cc : Nat) (wa : Option Addr) (words : List Int) (wc : Nat) (lk rg : Int) (A : Nat → Option Addr) (L C : Nat → Nat) (X : Nat → Nat → Nat → Int), v = prgV ca n cc wa words.length wc lk rg ∧ words.length ≤ 9223372036854775807 ∧ PIn W ca n A L C X ∧ SIs W wa words ∧ (wa = none → words = [] ∧ wc = 0) ∧ (∀ t i, t < n → i < L t → I64n (X t i 2)) ∧ ∀ x, x ∈ words → I64n x := by
  obtain ⟨c0, c1, c2, c3, y0, y1, y2, y3, m, rfl, _, _, h0, h1, h2, h3⟩ := open_agg4 Tryz.underlying25 (by kernel_rfl) cells25 hv h
  obtain ⟨ca, n, cc, A, L, C, X, rfl, hp, hwf⟩ := read_code h0
  obtain ⟨lk, e2, _, _⟩ := DataW.trod_int Tryz.underlying3 h2
  obtain ⟨rg, e3, _, _⟩ := DataW.trod_int Tryz.underlying3 h3
  simp at e2 e3
  subst e2 e3
  have hx2 : ∀ t i, t < n → i < L t → I64n (X t i 2) := fun t i ht hi => i64n_of (hwf t i 2 ht hi (by omega))
  rcases open_slice1 Tryz.underlying23 cells3 h1 with ⟨hcs, _⟩ | ⟨a, len, cap, _, _, V, _, _, hcs, _, hl, hm, hmm, _, hx⟩
  · simp at hcs
    subst hcs
    exact ⟨ca, n, cc, none, [], 0, lk, rg, A, L, C, X, rfl, by simp, hp, fun i hi => absurd hi (Nat.not_lt_zero _), fun _ => ⟨rfl, rfl⟩, hx2, fun v hv => by cases hv⟩
  · simp at hcs hmm
    subst hcs
    obtain ⟨Y, hY⟩ := choose_lt (α := Int) (p := fun i (y : Int) => W.cell? (a.add i) = some (.int .i64 y) ∧ I64n y) (n := len) (fun i hi => by
      obtain ⟨x1, x2⟩ := hx i (by omega)
      obtain ⟨y, e, _, wf⟩ := DataW.trod_int Tryz.underlying3 x2
      simp at e
      exact ⟨y, by rw [x1, e], i64n_of wf⟩)
    have hlen : ((List.range len).map Y).length = len := by simp
    refine ⟨ca, n, cc, some a, (List.range len).map Y, cap, lk, rg, A, L, C, X, by rw [hlen], by rw [hlen]; unfold maxLen at hm; omega, hp, fun i hi => ?_, fun e => (by cases e), hx2, fun v hv => ?_⟩
    · rw [hlen] at hi
      obtain ⟨b, o, sp⟩ := a
      have hsp : sp = none := by simpa [Addr.add] using World.cell?_spot (hY 0 (by omega)).1
      subst hsp
      refine ⟨b, o, rfl, ?_⟩
      rw [← Go.WideShapes.add_plain, (hY i hi).1]
      simp [List.getD, hi]
    · simp only [List.mem_map, List.mem_range] at hv
      obtain ⟨i, hi, rfl⟩ := hv
      exact (hY i hi).2
end

end Go.Proofs.YtgofbkgfonlceabGreatDoor
