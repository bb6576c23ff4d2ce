/-
  Whether two outcomes are the same, by the program; a list's parts that are laid bare again.
  Of outcomes that are the same one stays, by the program.
  The list of outcomes, while the program goes through states.
  A program that is handed in, opened, with the bounds of its numbers; the table of powers.
-/
import Derived.Test.YtefnmbnakphhfadGreatDoorSpnS
import Derived.Test.YtefnmbnakphhfadGreatDoorPBuf4
import Derived.Test.YtefnmbnakphhfadGreatDoorSameI
import Derived.Test.YtefnmbnakphhfadGreatDoorWFollow
import Derived.Test.YtefnmbnakphhfadGreatDoorDSt
import Derived.Test.YtefnmbnakphhfadGreatDoorTelP
import Derived.Test.YtefnmbnakphhfadGreatDoorWText
import Derived.Shelf.Vars
import Derived.Lib.LaidTab
namespace Go.Proofs.YtefnmbnakphhfadGreatDoor
section
open Go.RowKit Go.Sort Go.Shelf

/-- Worlds that were only grown. -/
theorem grown_below {w : World} {q : Nat} {os : Array Obj} : Below w.heap.size w (grow (w.drewN q) os) := by
  refine ⟨rfl, rfl, rfl, ?_, fun k hk => ?_⟩
  · rw [size_grow]; exact Nat.le_add_right _ _
  · rw [heap_grow_old _ _ (show k < (w.drewN q).heap.size from hk)]; rfl
set_option maxRecDepth 100000 in
set_option maxHeartbeats 800000 in
/-- same. -/
theorem same_any (w : World) (x y : En) (hx : EnOk w x) (hy : EnOk w y) :
    Calls Tryz.prog 44 #[enV x, enV y] w fun e w' => e = .returned (.bool (decide (x.o = y.o))) ∧ Below w.heap.size w w' := by
  have hz : ∀ (a b : Value), Below w.heap.size w ((w.alloc (.cells a.cells 46)).alloc (.cells b.cells 46)) := fun a b => ((Below.refl _ _).alloc (Nat.le_refl _) _).alloc (by simp) _
  have HC : Hid (∀ W, Below w.heap.size w W → Calls Tryz.prog 56 #[enV x, enV y] W fun e w' => e = .returned (.int .i64 (cmpO x.o y.o)) ∧ Below w.heap.size w w') := fun W hb => by
    refine Calls.mono (compare_any W x y (hx.below hb) (hy.below hb)) ?_
    rintro e w' ⟨he, q, os, rfl⟩
    exact ⟨he, hb.trans (grown_below.mono hb.size)⟩
  have hd : decide (x.o = y.o) = decide (cmpO x.o y.o = 0) := by
    rw [decide_eq_decide]
    exact (cmpO_ahead _ _).2.symm
  rw [hd]
  obtain ⟨R, hR⟩ : ∃ R, cmpO x.o y.o = R := ⟨_, rfl⟩
  rw [hR] at HC ⊢
  obtain ⟨⟨⟨st, ws, pr⟩, wa, wc, pa, pc⟩, rfl⟩ : ∃ z, x = z := ⟨_, rfl⟩
  obtain ⟨⟨⟨st2, ws2, pr2⟩, wa2, wc2, pa2, pc2⟩, rfl⟩ : ∃ z, y = z := ⟨_, rfl⟩
  rw [show enV (En.mk ⟨st, ws, pr⟩ wa wc pa pc) = .agg #[.int .i64 st, .slice wa ws.length wc, .slice pa pr.length pc] from rfl, show enV (En.mk ⟨st2, ws2, pr2⟩ wa2 wc2 pa2 pc2) = .agg #[.int .i64 st2, .slice wa2 ws2.length wc2, .slice pa2 pr2.length pc2] from rfl] at HC ⊢
  obtain ⟨n1, hn1⟩ : ∃ n, ws.length = n := ⟨_, rfl⟩
  obtain ⟨n2, hn2⟩ : ∃ n, pr.length = n := ⟨_, rfl⟩
  obtain ⟨n3, hn3⟩ : ∃ n, ws2.length = n := ⟨_, rfl⟩
  obtain ⟨n4, hn4⟩ : ∃ n, pr2.length = n := ⟨_, rfl⟩
  rw [hn1, hn2, hn3, hn4] at HC ⊢
  have HB : Hid (∀ A B, Below w.heap.size w ((w.alloc A).alloc B)) := fun A B => ((Below.refl _ _).alloc (Nat.le_refl _) _).alloc (by simp) _
  have HB1 : Hid (∀ A B, Below w.heap.size w ((w.alloc A).alloc B).drew) := fun A B => (HB.out A B).drew
  clear hx hy hz hd hR hn1 hn2 hn3 hn4
  go_enter Tryz.func44, Tryz.ntmps44
  go_wp2_with fail
  refine Calls.mono (HC.out _ (by first | exact HB.out _ _ | exact HB1.out _ _)) ?_
  rintro e w1 ⟨rfl, hb⟩
  go_wp2_with fail
  go_ret
  exact ⟨rfl, hb⟩
end

section
open Go.RowKit Go.Sort Go.Shelf

theorem ensV_len (es : List En) : (ensV es).length = es.length * 3 := rows3_len _ _
theorem ensV_at (es : List En) {k j : Nat} (hk : k < es.length) (hj : j < 3) : (ensV es)[k * 3 + j]? = some (enC (es.getD k default) j) := rows3_get hk hj
theorem ensV_put (es : List En) (k : Nat) (e : En) (hk : k < es.length) : putL (ensV es) (k * 3) [.int .i64 e.o.st, .slice e.wa e.o.ws.length e.wc, .slice e.pa e.o.pr.length e.pc] = ensV (es.set k e) := by
  have hg : ∀ i, (es.set k e).getD i default = if i = k then e else es.getD i default := fun i => by
    rw [List.getD_eq_getElem?_getD, List.getElem?_set, List.getD_eq_getElem?_getD]
    by_cases h : k = i
    · subst h; simp [hk]
    · rw [if_neg h, if_neg (fun e => h e.symm)]
  show ((((ensV es).set (k * 3) _).set (k * 3 + 1) _).set (k * 3 + 1 + 1) _) = _
  refine List.ext_getElem? fun i => ?_
  rw [List.getElem?_set, List.getElem?_set, List.getElem?_set]
  simp only [List.length_set, ensV_len]
  unfold ensV
  rw [rows3_at, rows3_at, List.length_set, hg]
  by_cases h2 : k * 3 + 1 + 1 = i
  · subst h2
    rw [if_pos rfl, if_pos (by omega), if_pos (by omega), if_pos (by omega), show (k * 3 + 1 + 1) % 3 = 2 by omega]
    rfl
  · rw [if_neg h2]
    by_cases h1 : k * 3 + 1 = i
    · subst h1
      rw [if_pos rfl, if_pos (by omega), if_pos (by omega), if_pos (by omega), show (k * 3 + 1) % 3 = 1 by omega]
      rfl
    · rw [if_neg h1]
      by_cases h0 : k * 3 = i
      · subst h0
        rw [if_pos rfl, if_pos (by omega), if_pos (by omega), if_pos (by omega), show (k * 3) % 3 = 0 by omega]
        rfl
      · rw [if_neg h0]
        split
        · rw [if_neg (by omega)]
        · rfl
theorem ensV_take (es : List En) (k : Nat) (hk : k ≤ es.length) : (ensV es).take (k * 3) = ensV (es.take k) := by
  refine List.ext_getElem? fun i => ?_
  rw [List.getElem?_take]
  unfold ensV
  rw [rows3_at, rows3_at, List.length_take, Nat.min_eq_left hk]
  by_cases h : i < k * 3
  · rw [if_pos h, if_pos h, if_pos (by omega)]
    congr 2
    rw [List.getD_eq_getElem?_getD, List.getD_eq_getElem?_getD, List.getElem?_take, if_pos (by omega)]
  · rw [if_neg h, if_neg h]
theorem Srt.refl (B : Nat) (w : World) (a : Option Addr) : Srt B w w a := ⟨Below.refl _ _, fun _ _ _ => rfl⟩
section
variable {B g : Nat} {w W W' : World}
theorem Srt.then_below (h : Srt B w W (some ⟨g, 0, none⟩)) (hB : B ≤ w.heap.size) (hb : Below W.heap.size W W') : Srt B w W' (some ⟨g, 0, none⟩) :=
  ⟨h.below.trans (hb.mono (Nat.le_trans hB h.below.size)), fun k hk hne => (hb.block k (Nat.lt_of_lt_of_le hk h.below.size)).trans (h.kept k hk hne)⟩
theorem Srt.puts (h : Srt B w W (some ⟨g, 0, none⟩)) (hg : B ≤ g) (o : Nat) (vs : List Value) : Srt B w (W.setCells g o vs) (some ⟨g, 0, none⟩) := by
  have hG := grown_puts g vs o W
  refine ⟨h.below.trans ⟨hG.os, hG.tape, hG.output, hG.size, fun k hk => ?_⟩, fun k hk hne => ?_⟩
  · rcases Nat.lt_or_ge k W.heap.size with h1 | h1
    · exact hG.block k h1 (fun e => by have : k = g := Option.some.inj e; omega)
    · have hz : ∀ (vs : List Value) (o : Nat) (V : World), (V.setCells g o vs).heap.size = V.heap.size := fun vs => by
        induction vs with
        | nil => exact fun _ _ => rfl
        | cons v r ih => exact fun o V => (ih (o + 1) _).trans (by simp [World.setCell])
      rw [Array.getElem?_eq_none h1, Array.getElem?_eq_none (by rw [hz]; exact h1)]
  · exact (hG.block k (Nat.lt_of_lt_of_le hk h.below.size) (fun e => hne _ rfl (Option.some.inj e).symm)).trans (h.kept k hk hne)
theorem EnX.ok_at {e : En} (h : EnX w g e) (hs : Srt B w W (some ⟨g, 0, none⟩)) : EnOk W e := by
  have hL : ∀ (a : Option Addr) (x : List Int), LI w a x → (∀ p, a = some p → 0 < x.length → p.block ≠ g) → LI W a x := fun a x h1 h2 i hi => by
    obtain ⟨b, o, e1, e2⟩ := h1 i hi
    refine ⟨b, o, e1, ?_⟩
    have hne : b ≠ g := h2 ⟨b, o, none⟩ e1 (by omega)
    rw [World.cell?_of_block (hs.kept b (lt_of_cell e2) (fun p hp => by injection hp with hp; rw [← hp]; exact fun e => hne e.symm))]
    exact e2
  exact ⟨hL _ _ h.ok.ws h.wx, hL _ _ h.ok.pr h.px, h.ok.wl, h.ok.pl⟩
end
theorem getD_in {es : List En} {k : Nat} (hk : k < es.length) : es.getD k default ∈ es := by
  rw [List.getD_eq_getElem?_getD, List.getElem?_eq_getElem hk]; exact List.getElem_mem hk
/-- Cells of a list. -/
theorem IsO.cells {w : World} {B g n c : Nat} {es : List En} (h : IsO w B (some ⟨g, 0, none⟩) n c es) {k : Nat} (hk : k < n) : w.cell? ⟨g, k * 3, none⟩ = some (.int .i64 (es.getD k default).o.st) ∧ w.cell? ⟨g, k * 3 + 1, none⟩ = some (.slice (es.getD k default).wa (es.getD k default).o.ws.length (es.getD k default).wc) ∧ w.cell? ⟨g, k * 3 + 2, none⟩ = some (.slice (es.getD k default).pa (es.getD k default).o.pr.length (es.getD k default).pc) := by
  have hk' : k < es.length := by rw [h.is]; exact hk
  exact ⟨fam_cell h.own rfl (ensV_at es (j := 0) hk' (by omega)), fam_cell h.own rfl (ensV_at es (j := 1) hk' (by omega)), fam_cell h.own rfl (ensV_at es (j := 2) hk' (by omega))⟩
theorem IsO.put {w : World} {B g n c : Nat} {es : List En} (h : IsO w B (some ⟨g, 0, none⟩) n c es) {k : Nat} (hk : k < n) (e : En) : IsO (w.setCells g (k * 3) [.int .i64 e.o.st, .slice e.wa e.o.ws.length e.wc, .slice e.pa e.o.pr.length e.pc]) B (some ⟨g, 0, none⟩) n c (es.set k e) :=
  ⟨by rw [List.length_set]; exact h.is, by rw [← ensV_put es k e (by rw [h.is]; exact hk)]; exact fam_puts rfl _ _ _ _ h.own⟩
/-- What is known while like ones are sought: the first of them stands at k0. -/
structure CpI (w W : World) (B g n c : Nat) (es es2 : List En) (k0 k k2 : Nat) : Prop where
  is : IsO W B (some ⟨g, 0, none⟩) n c es2
  srt : Srt B w W (some ⟨g, 0, none⟩)
  take : es2.take k = compE es (k0 + k2)
  rest : ∀ j, k ≤ j → es2.getD j default = es.getD j default
  k1 : k < k0 + k2
  k0 : 0 < k0
theorem CpI.same {w W : World} {B g n c : Nat} {es es2 : List En} {k0 k k2 : Nat} (h : CpI w W B g n c es es2 k0 k k2) (he : (es.getD (k0 + k2) default).o = (es.getD (k0 + k2 - 1) default).o) : CpI w W B g n c es es2 k0 k (k2 + 1) :=
  ⟨h.is, h.srt, by rw [← Nat.add_assoc, compE_same (by have := h.k0; omega) he]; exact h.take, h.rest, by have := h.k1; omega, h.k0⟩
theorem CpI.new {w W : World} {B g n c : Nat} {es es2 : List En} {k0 k k2 : Nat} (h : CpI w W B g n c es es2 k0 k k2) (hg : B ≤ g) (hn : k0 + k2 < n) (he : (es.getD (k0 + k2) default).o ≠ (es.getD (k0 + k2 - 1) default).o) : CpI w (W.setCells g (k * 3) [.int .i64 (es.getD (k0 + k2) default).o.st, .slice (es.getD (k0 + k2) default).wa (es.getD (k0 + k2) default).o.ws.length (es.getD (k0 + k2) default).wc, .slice (es.getD (k0 + k2) default).pa (es.getD (k0 + k2) default).o.pr.length (es.getD (k0 + k2) default).pc]) B g n c es (es2.set k (es.getD (k0 + k2) default)) k0 (k + 1) (k2 + 1) := by
  have hk := h.k1
  have hl : k < es2.length := by rw [h.is.is]; omega
  refine ⟨h.is.put (by omega) _, h.srt.puts hg _ _, ?_, fun j hj => ?_, by omega, h.k0⟩
  · rw [← Nat.add_assoc, compE_new (Or.inr he), ← h.take, take_snoc (by simpa using hl), List.take_set_of_le (Nat.le_refl _)]
    congr 2
    rw [List.getD_eq_getElem?_getD, List.getElem?_set_self hl]
    rfl
  · rw [List.getD_eq_getElem?_getD, List.getElem?_set_ne (by omega), ← List.getD_eq_getElem?_getD]
    exact h.rest j (by omega)
end

section
open Go.RowKit Go.Sort Go.Shelf

/-- An outcome whose lists are the program's own. -/
structure EnJ (w : World) (B : Nat) (e : En) : Prop where
  ws : w.ownsRow B 3 1 (.slice e.wa e.o.ws.length e.wc) e.o.ws.length (intsV e.o.ws)
  pr : w.ownsRow B 3 1 (.slice e.pa e.o.pr.length e.pc) e.o.pr.length (intsV e.o.pr)
  wl : e.o.ws.length ≤ 100000
  pl : e.o.pr.length ≤ 100000
section
variable {w w' : World} {B : Nat} {e : En}
theorem EnJ.ok (h : EnJ w B e) : EnOk w e := ⟨IsI.iin ⟨rfl, h.ws⟩, IsI.iin ⟨rfl, h.pr⟩, h.wl, h.pl⟩
theorem EnJ.off (h : EnJ w B e) {g : Nat} {cs : Array Value} {t : TypeId} (hg : w.heap[g]? = some (.cells cs t (0, 0))) (ht : 3 ≠ t) : EnX w g e :=
  ⟨h.ok, fun p hp _ hb => own_type h.ws hg ht (by rw [hp]; exact congrArg some hb), fun p hp _ hb => own_type h.pr hg ht (by rw [hp]; exact congrArg some hb)⟩
theorem EnJ.fr {N : Nat → Obj → Prop} {C : Nat} (h : EnJ w B e) (hf : Fr C N w w') (hN : ∀ k c, ¬ N k (.cells c 3)) : EnJ w' B e := ⟨Fr.own h.ws hf hN, Fr.own h.pr hf hN, h.wl, h.pl⟩
end
/-- What those who look on may turn. -/
def NO (km : Nat) (k : Nat) (o : Obj) : Prop := k ≠ km ∧ ∃ c t fz, o = .cells c t fz ∧ (t = 46 ∨ t = 42)
theorem no_cells {km k : Nat} {c : Array Value} {t : TypeId} (h1 : t ≠ 46) (h2 : t ≠ 42) : ¬ NO km k (.cells c t) := fun h => by
  obtain ⟨_, c', t', fz, e, h⟩ := h
  injection e with _ e2
  rcases h with h | h
  · exact h1 (e2.trans h)
  · exact h2 (e2.trans h)
/-- The list as it lies. -/
structure OlI (W : World) (B km lb : Nat) (es : List En) : Prop where
  box : ∃ a c, W.heap[lb]? = some (.cells #[.slice a es.length c] 42) ∧ IsO W B a es.length c es ∧ ∀ p, a = some p → p.block ≠ km
  ok : ∀ e, e ∈ es → EnJ W B e
  up : km < W.heap.size
  low : B ≤ lb
  off : lb ≠ km
section
variable {W W' : World} {B km lb : Nat} {es : List En}
theorem OlI.fr {N : Nat → Obj → Prop} (h : OlI W B km lb es) (hf : Fr B N W W') (h1 : ∀ k c, ¬ N k (.cells c 3)) (h2 : ∀ k c, ¬ N k (.cells c 46)) (h3 : ∀ k c, ¬ N k (.cells c 42)) : OlI W' B km lb es := by
  obtain ⟨a, c, e1, e2, e3⟩ := h.box
  exact ⟨⟨a, c, hf.kept _ _ e1 (h3 _ _), ⟨e2.is, Fr.own e2.own hf h2⟩, e3⟩, fun e he => (h.ok e he).fr hf h1, Nat.lt_of_lt_of_le h.up hf.below.size, h.low, h.off⟩
theorem OlI.below (h : OlI W B km lb es) (hB : B ≤ W.heap.size) (hb : Below W.heap.size W W') : OlI W' B km lb es :=
  h.fr (N := fun _ _ => False) (Fr.of_below hB hb) (fun _ _ h => h) (fun _ _ h => h) (fun _ _ h => h)
/-- One more. -/
theorem OlI.push (h : OlI W B km lb es) (hB : B ≤ W.heap.size) (hlen : es.length ≤ 90000) (e : En) (he : EnJ W B e) : ∃ a c, W.cell? ⟨lb, 0, none⟩ = some (.slice a es.length c) ∧
    ∃ g cap w3, (AppS #[42, 42] 42 #[.slice a es.length c, .slice (some ⟨W.heap.size, 0, none⟩) 1 1]).run Tryz.prog (W.alloc (.cells #[.int .i64 e.o.st, .slice e.wa e.o.ws.length e.wc, .slice e.pa e.o.pr.length e.pc] 46)) = .ok (.slice (some ⟨g, 0, none⟩) (es.length + 1) cap) w3 ∧ w3.cell? ⟨lb, 0, none⟩ = some (.slice a es.length c) ∧ w3.frozen? ⟨lb, 0, none⟩ = false ∧
      Hid (OlI (w3.setCell ⟨lb, 0, none⟩ (.slice (some ⟨g, 0, none⟩) (es.length + 1) cap)) B km lb (es ++ [e]) ∧ Fr B (NO km) W (w3.setCell ⟨lb, 0, none⟩ (.slice (some ⟨g, 0, none⟩) (es.length + 1) cap))) := by
  obtain ⟨a, c, e1, e2, e3⟩ := h.box
  refine ⟨a, c, box_cell e1 rfl, ?_⟩
  obtain ⟨g, cap, w3, r1, r2, r3, r4⟩ := app_row (T := 42) Tryz.underlying42 infoOutcome rfl (by omega) e2.own (Below.refl _ _) hB 1 #[.int .i64 e.o.st, .slice e.wa e.o.ws.length e.wc, .slice e.pa e.o.pr.length e.pc] rfl (by simp [Value.oneCell']) (by omega) (by omega) (by omega)
  have hsz : W.heap.size + 1 ≤ w3.heap.size := by have := r3.size; simpa using this
  have hkeep : ∀ k, k < W.heap.size → (∀ p, a = some p → p.block ≠ k) → w3.heap[k]? = W.heap[k]? := fun k hk hne => by
    refine (r3.block k (by simp; omega) (fun e => ?_)).trans (Below.heap_alloc _ _ _ hk)
    cases a with
    | none => cases e
    | some p => exact hne p rfl (Option.some.inj e).symm
  have hlb := box_lt e1
  have hal : ∀ p, a = some p → p.block ≠ lb := fun p hp hb => own_type e2.own e1 (by decide) (by rw [hp]; exact congrArg some hb)
  have e1' : w3.heap[lb]? = some (.cells #[.slice a es.length c] 42) := (hkeep lb hlb hal).trans e1
  have hgl : g ≠ lb := fun e => by
    rcases r4 with r4 | r4
    · cases a with
      | none => cases r4
      | some p => exact hal p rfl ((Option.some.inj r4).trans e)
    · omega
  have hgk : g ≠ km := fun e => by
    have := h.up
    rcases r4 with r4 | r4
    · cases a with
      | none => cases r4
      | some p => exact e3 p rfl ((Option.some.inj r4).trans e)
    · omega
  have hfr : Fr B (NO km) W (w3.setCell ⟨lb, 0, none⟩ (.slice (some ⟨g, 0, none⟩) (es.length + 1) cap)) := by
    refine ⟨?_, fun k o hk hn => ?_⟩
    · exact (((Below.refl B W).alloc hB _).grown r3 (by simp; omega) (fun k hk => (e2.own.lt k hk).1)).setCell h.low _
    · have hkl : k ≠ lb := fun e => hn (by
        rw [e, e1] at hk
        rw [← Option.some.inj hk, e]
        exact ⟨h.off, _, _, _, rfl, Or.inr rfl⟩)
      rw [Below.heap_setCell _ _ _ _ hkl]
      refine (hkeep k (box_lt hk) (fun p hp hb => hn ?_)).trans hk
      rcases e2.own.2 with ⟨h0, _⟩ | ⟨g', cap', cur, hv, _, hh, _⟩
      · simp only [Value.slice.injEq] at h0
        rw [h0.1] at hp; cases hp
      · simp only [Value.slice.injEq] at hv
        rw [hv.1] at hp
        rw [← Option.some.inj hp] at hb
        have hb' : g' = k := hb
        rw [← hb', hh] at hk
        rw [← Option.some.inj hk]
        refine ⟨fun e => e3 _ hv.1 (hb'.trans e), _, _, _, rfl, Or.inl rfl⟩
  refine ⟨g, cap, w3, r1, box_cell e1' rfl, box_free e1', ⟨⟨some ⟨g, 0, none⟩, cap, ?_, ⟨rfl, ?_⟩, ?_⟩, ?_, ?_, h.low, h.off⟩, hfr⟩
  · rw [List.length_append, List.length_singleton]; exact heap_set_same e1'
  · rw [List.length_append, List.length_singleton, ensV_snoc]
    exact fam_keeps r2 (fun k hk => Below.heap_setCell _ _ _ _ (fun e => hgl ((Option.some.inj hk).trans e)))
  · intro p hp
    rw [← Option.some.inj hp]; exact hgk
  · intro x hx
    rcases List.mem_append.mp hx with hx | hx
    · exact (h.ok x hx).fr hfr (fun k c => no_cells (by decide) (by decide))
    · rw [List.mem_singleton.mp hx]; exact he.fr hfr (fun k c => no_cells (by decide) (by decide))
  · have := h.up
    show km < (w3.setCell _ _).heap.size
    simp [World.setCell]; omega
end
set_option maxRecDepth 100000 in
set_option maxHeartbeats 800000 in
/-- Prints. -/
theorem prints_any (w : World) (B : Nat) (Q : Cd) (sb mb : Nat) (v : Rp → Value) (s : Sx) (hs : QSt w B Q sb mb v s) (hn : s.prints.length ≤ 1000000) :
    Calls Tryz.prog 51 #[.pointer (some ⟨sb, 0, none⟩)] w fun e w' => ∃ a c, e = .returned (.slice a s.prints.length c) ∧ w'.ownsRow w.heap.size 3 1 (.slice a s.prints.length c) s.prints.length (intsV s.prints) ∧ Below w.heap.size w w' := by
  obtain ⟨pa, pc, hv⟩ := hs.form .prints
  change v .prints = .slice pa s.prints.length pc at hv
  have c2 := hs.c2
  rw [hv] at c2
  have hown := hs.fam.own .prints
  rw [hv] at hown
  have HC : Hid (Calls Tryz.prog 46 #[.slice pa s.prints.length pc] w fun e w' => ∃ a' c', e = .returned (.slice a' s.prints.length c') ∧ w'.ownsRow w.heap.size 3 1 (.slice a' s.prints.length c') s.prints.length (intsV s.prints) ∧ Below w.heap.size w w') := cloneI_row w B pa pc s.prints hown hn
  obtain ⟨n, hnn⟩ : ∃ n, s.prints.length = n := ⟨_, rfl⟩
  rw [hnn] at c2 HC ⊢
  clear hs hv hown hn hnn
  go_enter Tryz.func51, Tryz.ntmps51
  go_wp2_with fail
  refine Calls.mono HC.out ?_
  rintro e w1 ⟨a', c', rfl, h1, h2⟩
  go_wp2_with fail
  go_ret
  exact ⟨a', c', rfl, h1, h2⟩
end

section
open Go.ChangeShapes Go.WideShapes Go.ChangeAt Go.RowKit Go.Joins Go.Deep

theorem i64n_of {v : Int} (h : (Lit.int .i64 v).wf = true) : I64n v := by
  have e : IntKind.i64.min = -9223372036854775808 := rfl
  simpa [Lit.wf, I64n, e] using h
set_option maxRecDepth 100000 in
theorem open_prog3 {H : Type} {enc : TypeId × Value → H} {W : World} {b0 : Nat} {v : Value} {d : DataW H} {p : List MemPlace} (hv : Value.okWide Tryz.prog W .any b0 25 v) (h : DataW.Trod enc Tryz.prog W 0 (fun _ => true) true 25 v d p) :
    ∃ (ca : Option Addr) (n cc : Nat) (wa : Option Addr) (words : List Int) (wc : Nat) (lk rg : Int) (A : Nat → Option Addr) (L C : Nat → Nat) (X : Nat → Nat → Nat → Int), v = prgV ca n cc wa words.length wc lk rg ∧ words.length ≤ 9223372036854775807 ∧ PIn W ca n A L C X ∧ SIs W wa words ∧ (wa = none → words = [] ∧ wc = 0) ∧ (∀ t i, t < n → i < L t → I64n (X t i 2)) ∧ ∀ x, x ∈ words → I64n x := by
  obtain ⟨c0, c1, c2, c3, y0, y1, y2, y3, m, rfl, _, _, h0, h1, h2, h3⟩ := open_agg4 Tryz.underlying25 (by kernel_rfl) cells25 hv h
  obtain ⟨ca, n, cc, A, L, C, X, rfl, hp, hwf⟩ := read_code h0
  obtain ⟨lk, e2, _, _⟩ := DataW.trod_int Tryz.underlying3 h2
  obtain ⟨rg, e3, _, _⟩ := DataW.trod_int Tryz.underlying3 h3
  simp at e2 e3
  subst e2 e3
  have hx2 : ∀ t i, t < n → i < L t → I64n (X t i 2) := fun t i ht hi => i64n_of (hwf t i 2 ht hi (by omega))
  rcases open_slice1 Tryz.underlying23 cells3 h1 with ⟨hcs, _⟩ | ⟨a, len, cap, _, _, V, _, _, hcs, _, hl, hm, hmm, _, hx⟩
  · simp at hcs
    subst hcs
    exact ⟨ca, n, cc, none, [], 0, lk, rg, A, L, C, X, rfl, by simp, hp, fun i hi => absurd hi (Nat.not_lt_zero _), fun _ => ⟨rfl, rfl⟩, hx2, fun v hv => by cases hv⟩
  · simp at hcs hmm
    subst hcs
    obtain ⟨Y, hY⟩ := choose_lt (α := Int) (p := fun i (y : Int) => W.cell? (a.add i) = some (.int .i64 y) ∧ I64n y) (n := len) (fun i hi => by
      obtain ⟨x1, x2⟩ := hx i (by omega)
      obtain ⟨y, e, _, wf⟩ := DataW.trod_int Tryz.underlying3 x2
      simp at e
      exact ⟨y, by rw [x1, e], i64n_of wf⟩)
    have hlen : ((List.range len).map Y).length = len := by simp
    refine ⟨ca, n, cc, some a, (List.range len).map Y, cap, lk, rg, A, L, C, X, by rw [hlen], by rw [hlen]; unfold maxLen at hm; omega, hp, fun i hi => ?_, fun e => (by cases e), hx2, fun v hv => ?_⟩
    · rw [hlen] at hi
      obtain ⟨b, o, sp⟩ := a
      have hsp : sp = none := by simpa [Addr.add] using World.cell?_spot (hY 0 (by omega)).1
      subst hsp
      refine ⟨b, o, rfl, ?_⟩
      rw [← Go.WideShapes.add_plain, (hY i hi).1]
      simp [List.getD, hi]
    · simp only [List.mem_map, List.mem_range] at hv
      obtain ⟨i, hi, rfl⟩ := hv
      exact (hY i hi).2
end

end Go.Proofs.YtefnmbnakphhfadGreatDoor
