/-
  The program's colours of one thread.
-/
import Derived.Test.YtocfocjnnjdcgaaDoorAlcA
import Derived.Test.YtocfocjnnjdcgaaDoorAlcD
import Derived.Test.YtocfocjnnjdcgaaDoorZSame
import Derived.Test.YtocfocjnnjdcgaaDoorBox
import Derived.Test.YtocfocjnnjdcgaaDoorBase
namespace Go.Proofs.YtocfocjnnjdcgaaDoor
open Go.RowKit Go.Shelf

attribute [local go_sem] Oper.semAt_some

theorem cnt_set1 : ∀ {R : List Bool} {j : Nat}, j < R.length → R.getD j false = false → cntF (R.set j true) + 1 = cntF R
  | [], j, h, _ => absurd h (Nat.not_lt_zero _)
  | b :: R, 0, _, h => by
    have : b = false := h
    subst this
    simp [cntF]
  | b :: R, j + 1, hj, h => by
    have := cnt_set1 (R := R) (j := j) (by simpa using hj) (by simpa using h)
    cases b
    · simpa [cntF] using this
    · simpa [cntF] using this
theorem cnt_ex : ∀ {R : List Bool}, 0 < cntF R → ∃ r, r < R.length ∧ R.getD r false = false
  | [], h => absurd h (by simp [cntF])
  | false :: R, _ => ⟨0, by simp, rfl⟩
  | true :: R, h => by
    obtain ⟨r, h1, h2⟩ := cnt_ex (R := R) (by simpa [cntF] using h)
    exact ⟨r + 1, by simpa using h1, by simpa using h2⟩
theorem cnt_rep (n : Nat) : cntF (List.replicate n false) = n := by simp [cntF]
/-- While registers are laid aside: k of them. -/
structure AsI (w W0 W : World) (gb ub rb rc ab rg pb : Nat) (clV pv : Value) (k : Nat) (R : List Bool) (P : List Int) : Prop where
  gr : GrV w W gb ub rb rc ab rg clV R
  lts : gb < W0.heap.size ∧ ub < W0.heap.size ∧ rb < W0.heap.size ∧ ab < W0.heap.size ∧ pb < W0.heap.size
  cnt : cntF R + k = rg
  pbx : W.heap[pb]? = some (.cells #[.pointer (some ⟨gb, 0, none⟩)] 81)
  own : OwL W W0.heap.size pv P
  len : P.length = k
  reg : ∀ x, x ∈ P → ∃ s : Nat, x = (s : Int) ∧ s < rg
  size : W0.heap.size ≤ W.heap.size
/-- What a thread's told clashes are. -/
def TldC (yss : List (List Int)) (rg : Nat) (cl : Nat → Nat → Prop) : Prop := yss.length = rg ∧ ∀ r, r < rg → (∀ x, x ∈ yss.getD r [] → ∃ s : Nat, x = (s : Int) ∧ s < rg) ∧ (∀ s : Nat, s < rg → ((s : Int) ∈ yss.getD r [] ↔ cl r s)) ∧ (yss.getD r []).length ≤ 256
/-- What colours tells. -/
def GcQ (w : World) (W : World) (rg : Nat) (cl : Nat → Nat → Prop) (e : Ending) (w' : World) : Prop := ∃ (k : List Int) (fb fc : Nat), e = .returned (.slice (some ⟨fb, 0, none⟩) rg fc) ∧ OwL w' W.heap.size (.slice (some ⟨fb, 0, none⟩) rg fc) k ∧ k.length = rg ∧ (∀ r, r < rg → ColR k cl r) ∧ Below w.heap.size w w'
theorem AsI.step {w W0 W V V3 : World} {gb ub rb rc ab rg pb k r : Nat} {clV pv : Value} {R : List Bool} {P : List Int} (h : AsI w W0 W gb ub rb rc ab rg pb clV pv k R P) (hb : Below W.heap.size W V) (hg : GrV w V3 gb ub rb rc ab rg clV (R.set r true)) (hk : KpL V.heap.size rb ab V V3) (hne : pb ≠ rb ∧ pb ≠ ab) (hr : r < rg) (hR : R.getD r false = false) (hl : k ≤ 1000) :
    ∃ g cap w3, (AppS #[23, 23] 23 #[pv, .slice (some ⟨V3.heap.size, 0, none⟩) 1 1]).run Tryd.prog (V3.alloc (.cells #[.int .i64 (r : Int)] 3)) = .ok (.slice (some ⟨g, 0, none⟩) (k + 1) cap) w3 ∧ AsI w W0 w3 gb ub rb rc ab rg pb clV (.slice (some ⟨g, 0, none⟩) (k + 1) cap) (k + 1) (R.set r true) (P ++ [(r : Int)]) := by
  obtain ⟨l1, l2, l3, l4, l5⟩ := h.lts
  have hs : W0.heap.size ≤ V3.heap.size := Nat.le_trans h.size (Nat.le_trans hb.size hk.size)
  have hVs := hb.size
  have hWs := h.size
  have hown : OwL V3 W0.heap.size pv P := fam_keeps (h.own.below hb) fun b hb2 => by
    have h1 := (h.own.lt b hb2)
    exact hk.block b (by omega) (by omega) (by omega)
  have hp : V3.heap[pb]? = some (.cells #[.pointer (some ⟨gb, 0, none⟩)] 81) := (hk.block pb (by omega) hne.1 hne.2).trans (blk hb h.pbx)
  obtain ⟨g, cap, w3, r1, r2, r3⟩ := app_num hown (Below.refl _ V3) hs (r : Int) (by rw [h.len]; omega)
  rw [h.len] at r1 r2
  have hb3 : Below W0.heap.size V3 w3 := r3 V3 (Below.refl _ _ |>.mono hs)
  have hlow : Below w.heap.size w w3 := hg.low.trans (hb3.mono (by have := hg.lo.1; omega))
  refine ⟨g, cap, w3, r1, hg.keepN hlow (fun b hb => hb3.block b hb) ⟨l1, l2, l3, l4⟩, h.lts, ?_, (hb3.block pb l5).trans hp, r2, by simp [h.len], fun x hx => ?_, Nat.le_trans hs hb3.size⟩
  · have := cnt_set1 (R := R) (j := r) (by rw [h.gr.len]; exact hr) hR
    have := h.cnt
    omega
  · rcases List.mem_append.1 hx with hx | hx
    · exact h.reg x hx
    · exact ⟨r, List.mem_singleton.1 hx, hr⟩

/-- While colours are being found. -/
structure FdI (W7 : World) (fb rg : Nat) (cl : Nat → Nat → Prop) (W : World) (kk : List Int) : Prop where
  len : kk.length = rg
  cells : W.heap[fb]? = some (.cells (intsV kk).toArray 3)
  bnd : ∀ s, s < rg → -1 ≤ kk.getD s 0 ∧ kk.getD s 0 < 6
  val : ∀ a b, a < rg → b < rg → cl a b → kk.getD a 0 ≠ -1 → kk.getD a 0 ≠ kk.getD b 0
  kp : KpL W7.heap.size fb fb W7 W
  low : Below fb W7 W
theorem FdI.sis {W7 W : World} {fb rg : Nat} {cl : Nat → Nat → Prop} {kk : List Int} (h : FdI W7 fb rg cl W kk) : SIs W (some ⟨fb, 0, none⟩) kk := fun i hi => by
  refine ⟨fb, 0, rfl, ?_⟩
  rw [Nat.zero_add]
  exact box_cell h.cells (by simpa using intsV_at hi)
theorem fdI_own {W7 : World} {fb rg : Nat} {cl : Nat → Nat → Prop} {α : Type} (hf : fb < W7.heap.size) : OwnFrom W7.heap.size (fun (_ : List α) W => ∃ kk, FdI W7 fb rg cl W kk) := by
  rintro pre A C row ⟨kk, h⟩ hg hr
  have hr2 : ∀ r, row = some r → ∃ o : Obj, A.heap[r]? = some o ∧ o.isCells = false := fun r e => (hr r e).2
  have hrow : ∀ k, k < W7.heap.size → row ≠ some k := fun k hk e => by have := (hr k e).1; omega
  refine ⟨kk, h.len, (grownBy_keeps_cells hg hr2 h.cells rfl).trans h.cells, h.bnd, h.val, kpL_t h.kp ⟨hg.size, fun k hk _ _ => hg.block k (Nat.lt_of_lt_of_le hk h.kp.size) (fun e => hrow k hk e.symm)⟩, ?_⟩
  have hs := h.kp.size
  exact h.low.trans ⟨hg.os, hg.tape, hg.output, hg.size, fun k hk => hg.block k (by omega) (fun e => hrow k (by omega) e.symm)⟩
theorem kf_kpl {B fb : Nat} {W V : World} (h : KpL W.heap.size fb fb W V) {c : Array Value} {t : TypeId} (hf : W.heap[fb]? = some (.cells c t)) : KeepsFrom B W V := ⟨h.size, fun k o _ hk ho => by
  have hne : k ≠ fb := fun e => by
    rw [e, hf] at hk
    obtain rfl := Option.some.inj hk
    simp [Obj.isCells] at ho
  exact (h.block k (Array.getElem?_eq_some_iff.1 hk).1 hne hne).trans hk⟩
/-- One colour more. -/
theorem FdI.step {W7 W V : World} {fb rg r : Nat} {cl : Nat → Nat → Prop} {kk : List Int} {c : Int} (h : FdI W7 fb rg cl W kk) (hb : Below W.heap.size W V) (hr : r < rg) (_hf7 : fb < W7.heap.size) (hc : -1 ≤ c ∧ c < 6) (hv : c ≠ -1 → ∀ s : Nat, s < rg → cl r s → kk.getD s 0 ≠ c) (hsym : ∀ a b, cl a b → cl b a) (hirr : ∀ a, ¬ cl a a) :
    KeepsFrom W7.heap.size W (V.setCell ⟨fb, r, none⟩ (.int .i64 c)) ∧ KpL W7.heap.size fb fb W (V.setCell ⟨fb, r, none⟩ (.int .i64 c)) ∧ ∃ kk, FdI W7 fb rg cl (V.setCell ⟨fb, r, none⟩ (.int .i64 c)) kk := by
  have hk : KpL W.heap.size fb fb W (V.setCell ⟨fb, r, none⟩ (.int .i64 c)) := (KpL.of_below hb (Nat.le_refl _)).putE (Or.inl rfl) _
  have hs := h.kp.size
  have hk7 : KpL W7.heap.size fb fb W (V.setCell ⟨fb, r, none⟩ (.int .i64 c)) := ⟨hk.size, fun b h1 h2 h3 => hk.block b (by omega) h2 h3⟩
  have hg : ∀ s, s < rg → (kk.set r c).getD s 0 = if s = r then c else kk.getD s 0 := fun s hs => by
    rw [List.getD_eq_getElem?_getD, List.getD_eq_getElem?_getD]
    by_cases e : s = r
    · subst e
      rw [List.getElem?_set_self (by rw [h.len]; exact hs), if_pos rfl]
      rfl
    · rw [List.getElem?_set_ne (fun x => e x.symm), if_neg e]
  refine ⟨kf_kpl hk h.cells, hk7, kk.set r c, by simpa using h.len, ?_, fun s hs => ?_, fun a b ha hb' hcl hne => ?_, kpL_t h.kp hk7, ?_⟩
  · have h1 := heap_set_same (i := r) (u := .int .i64 c) (blk hb h.cells)
    refine h1.trans ?_
    rw [List.setIfInBounds_toArray, intsV_set]
  · rw [hg s hs]
    split
    · exact hc
    · exact h.bnd s hs
  · rw [hg a ha] at hne ⊢
    rw [hg b hb']
    by_cases ea : a = r
    · have eb : b ≠ r := fun e => hirr r (by rw [ea, e] at hcl; exact hcl)
      rw [if_pos ea, if_neg eb]
      rw [if_pos ea] at hne
      rw [ea] at hcl
      exact fun e => hv hne b hb' hcl e.symm
    · rw [if_neg ea] at hne ⊢
      by_cases eb : b = r
      · rw [if_pos eb]
        rw [eb] at hcl
        intro e
        exact hv (by rw [← e]; exact hne) a ha (hsym a r hcl) e
      · rw [if_neg eb]
        exact h.val a b ha hb' hcl hne
  · have hfw : fb < W.heap.size := (Array.getElem?_eq_some_iff.1 h.cells).1
    exact h.low.trans ((hb.mono (Nat.le_of_lt hfw)).setCell (p := ⟨fb, r, none⟩) (Nat.le_refl _) _)

attribute [local go_sem ↓] appS_eq in
set_option maxRecDepth 100000 in
set_option maxHeartbeats 6400000 in
theorem gcolours_any (w W : World) (gb ub rb rc ab rg : Nat) (ca : Option Addr) (cc B : Nat) (yss : List (List Int)) (cl : Nat → Nat → Prop) (h : GrV w W gb ub rb rc ab rg (.slice ca rg cc) (List.replicate rg false)) (hO : O2 w B (.slice ca rg cc) yss) (hy : TldC yss rg cl) (hrg0 : 0 < rg) (hrg : rg ≤ 200) (hsym : ∀ a b, cl a b → cl b a) (hirr : ∀ a, ¬ cl a a) :
    Calls Tryd.prog 45 #[.pointer (some ⟨gb, 0, none⟩)] W (GcQ w W rg cl) := by
  obtain ⟨W0, hW0⟩ : ∃ V, W.alloc (.cells #[.pointer (some ⟨gb, 0, none⟩)] 81) = V := ⟨_, rfl⟩
  have hB0 : Below W.heap.size W W0 := by rw [← hW0]; exact below_one _ _
  have hs0 : W0.heap.size = W.heap.size + 1 := by rw [← hW0]; simp
  have HA0 : Hid (AsI w W0 W0 gb ub rb rc ab rg W.heap.size (.slice ca rg cc) nilV 0 (List.replicate rg false) []) := by
    have hg := h.below hB0
    have l1 := box_lt h.box
    have l2 := h.uses.lt
    have l3 := h.rest.lt
    have l4 := h.aside.lt
    exact ⟨hg, ⟨by omega, by omega, by omega, by omega, by omega⟩, by rw [cnt_rep, Nat.add_zero], by rw [← hW0]; exact heap_alloc_new _ _, owL_nil _ _, rfl, fun x hx => (by cases hx), Nat.le_refl _⟩
  have HNE : Hid (W.heap.size ≠ rb ∧ W.heap.size ≠ ab) := ⟨by have := h.rest.lt; omega, by have := h.aside.lt; omega⟩
  have HW0 := Hid.out (p := Hid _) hW0
  have HWS := Hid.out (p := Hid _) (And.intro hs0 h.low)
  have HO : Hid (O2 w B (.slice ca rg cc) yss) := hO
  have HY : Hid (TldC yss rg cl) := hy
  have HSI := Hid.out (p := Hid _) (And.intro hsym hirr)
  obtain ⟨pb, hpb⟩ : ∃ q, W.heap.size = q := ⟨_, rfl⟩
  rw [hpb] at HA0 HNE
  have HPB := Hid.out (p := Hid _) hpb
  clear h hO hy hsym hirr hW0 hB0 hs0
  refine (callsIn_wide (n := 5)).1 ?_
  refine callsIn_of_wp_marks Tryd.func45 rfl trivial ?_ rfl
  simp only [Tryd.ntmps45, List.size_toArray, List.length_cons, List.length_nil, Nat.reduceAdd, Nat.reduceSub, Array.replicate_succ, Array.replicate_zero, List.push_toArray, List.append_toArray, List.nil_append, List.cons_append]
  have q0 : W0.cell? ⟨pb, 0, none⟩ = some (.pointer (some ⟨gb, 0, none⟩)) := box_cell HA0.out.pbx rfl
  have q1 := box_cell (i := 0) HA0.out.gr.box rfl
  rw [← HW0.out] at q0 q1
  rw [← hpb] at q0
  clear hpb
  gi_wp2
  rw [HW0.out, HPB.out]
  clear q0 q1
  gi_loopw [3, 13] (fun pv iv wr => ∃ (k : Nat) (R : List Bool) (P : List Int), k ≤ rg ∧ iv = .int .i64 k ∧ Hid (AsI w W0 wr gb ub rb rc ab rg pb (.slice ca rg cc) pv k R P)) (fun _ iv _ => rg - (intOf iv).toNat)
  case atStart => exact ⟨0, _, [], Nat.zero_le _, rfl, HA0.out⟩
  case round =>
    clear HA0
    obtain ⟨k, R, P, hk, rfl, HI⟩ := hrel
    by_cases hkr : k < rg
    · have hkI : (k : Int) < (rg : Int) := by omega
      have p0 : wr.cell? ⟨pb, 0, none⟩ = some (.pointer (some ⟨gb, 0, none⟩)) := box_cell HI.out.pbx rfl
      have hex : ∃ r, r < rg ∧ R.getD r false = false := by
        have h1 := HI.out.cnt
        obtain ⟨r, h2, h3⟩ := cnt_ex (R := R) (by omega)
        exact ⟨r, by rw [← HI.out.gr.len]; exact h2, h3⟩
      have HNX := Hid.out (p := Hid _) (gnext_any w wr gb ub rb rc ab rg ca cc R HI.out.gr hrg hex)
      obtain ⟨pa, pc, hpv⟩ := HI.out.own.form
      subst hpv
      have hpl : P.length = k := HI.out.len
      clear hex
      gi_wp2
      refine ⟨trivial, CallsIn.mono (callsIn_wide.2 HNX.out) ?_⟩
      rintro e V ⟨r, rfl, hr, hR, hbV⟩
      have p0 : V.cell? ⟨pb, 0, none⟩ = some (.pointer (some ⟨gb, 0, none⟩)) := box_cell (blk hbV HI.out.pbx) rfl
      have HAS := Hid.out (p := Hid _) (aside_any w V gb ub rb rc ab rg ca cc B yss R (HI.out.gr.below hbV) hrg HO.out HY.out.1 (fun r hr => ⟨(HY.out.2 r hr).1, (HY.out.2 r hr).2.2⟩) r hr)
      have HV := Hid.out (p := Hid _) (And.intro hr (And.intro hR hbV))
      clear hbV HNX hR
      gi_wp2
      refine ⟨trivial, CallsIn.mono (callsIn_wide.2 HAS.out) ?_⟩
      rintro e V3 ⟨rfl, hg3, hk3⟩
      obtain ⟨g4, cap4, w4, hrun4, hA4⟩ := HI.out.step HV.out.2.2 hg3 hk3 HNE.out hr HV.out.2.1 (by omega)
      have HA4 := Hid.out (p := Hid _) hA4
      rw [hpl] at hrun4
      clear hg3 hk3 hA4 HAS p0
      gi_wp2
      go_roundw
      case rel => exact ⟨k + 1, _, _, by omega, by go_num, HA4.out⟩
      case measure => simp [intOf]; omega
    · obtain rfl : k = rg := by omega
      obtain ⟨pa, pc, hpv⟩ := HI.out.own.form
      have hpl : P.length = k := HI.out.len
      rw [hpl] at hpv
      subst hpv
      -- the numbers that are found, one behind the other
      have hx0 := heap_alloc_new wr (.cells #[.int .i64 (-1)] 3)
      have hbx : Below wr.heap.size wr (wr.alloc (.cells #[.int .i64 (-1)] 3)) := below_one _ _
      have p0 : (wr.alloc (.cells #[.int .i64 (-1)] 3)).cell? ⟨pb, 0, none⟩ = some (.pointer (some ⟨gb, 0, none⟩)) := box_cell (blk hbx HI.out.pbx) rfl
      have g0 := box_cell (i := 0) (blk hbx HI.out.gr.box) rfl
      have HRP := Hid.out (p := Hid _) (repeatS (wr.alloc (.cells #[.int .i64 (-1)] 3)) wr.heap.size k (box_cell hx0 rfl) (by omega))
      have HBX := Hid.out (p := Hid _) hbx
      clear hx0 hbx hpl
      gi_wp2
      refine ⟨trivial, CallsIn.mono (callsIn_wide.2 HRP.out) ?_⟩
      rintro e V5 ⟨rfl, hf5, hb5⟩
      have hbz : Below wr.heap.size wr V5 := HBX.out.trans (hb5.mono HBX.out.size)
      have hfz : (wr.alloc (.cells #[.int .i64 (-1)] 3)).heap.size = wr.heap.size + 1 := by simp
      obtain ⟨fb, hfb⟩ : ∃ q, wr.heap.size + 1 = q := ⟨_, rfl⟩
      rw [hfz, hfb] at hf5
      rw [hfz, hfb]
      have HFB := Hid.out (p := Hid _) hfb
      have HF5 := Hid.out (p := Hid _) (And.intro hf5 hbz)
      have p0 : V5.cell? ⟨pb, 0, none⟩ = some (.pointer (some ⟨gb, 0, none⟩)) := box_cell (blk hbz HI.out.pbx) rfl
      clear hf5 hb5 hbz hfz hfb HRP g0
      gi_wp2
      refine ⟨trivial, (bckI_in Fence.wide 4 trivial rfl pa k pc _).mono ?_⟩
      rintro e w' ⟨rfl, rfl⟩
      gi_wp2
      obtain ⟨W7, hW7⟩ : ∃ V, ((V5.alloc (.cells #[.slice (some ⟨fb, 0, none⟩) k k] 23)).alloc (.cells #[.slice pa k pc] 23)) = V := ⟨_, rfl⟩
      obtain ⟨hb57, hB5, hB6⟩ := two_at V5 (.cells #[.slice (some ⟨fb, 0, none⟩) k k] 23) (.cells #[.slice pa k pc] 23)
      have hs7 : ((V5.alloc (.cells #[.slice (some ⟨fb, 0, none⟩) k k] 23)).alloc (.cells #[.slice pa k pc] 23)).heap.size = V5.heap.size + 1 + 1 := by simp
      rw [hW7] at hb57 hB5 hB6 hs7
      rw [hW7]
      obtain ⟨b5, hb5⟩ : ∃ q, V5.heap.size = q := ⟨_, rfl⟩
      rw [hb5] at hB5 hB6 hs7
      rw [hb5]
      have hbr7 : Below wr.heap.size wr W7 := HF5.out.2.trans (hb57.mono HF5.out.2.size)
      have hf57 := blk hb57 HF5.out.1
      have hfl5 : fb < b5 := by rw [← hb5]; exact (Array.getElem?_eq_some_iff.1 HF5.out.1).1
      have hwr : wr.heap.size < fb := by have := HFB.out; omega
      have hlts := HI.out.lts
      have hsz := HI.out.size
      have hw7 : Below w.heap.size w W7 := HI.out.gr.low.trans (hbr7.mono HI.out.gr.low.size)
      have hpl : P.length = k := HI.out.len
      have hPS : SIs W7 pa P := by
        have h1 := HI.out.own
        rw [← hpl] at h1
        exact (h1.below hbr7).sis
      have HPB7 := Hid.out (p := Hid _) (blk hbr7 HI.out.pbx)
      have HGB7 := Hid.out (p := Hid _) (blk hbr7 HI.out.gr.box)
      have HF0 : Hid (FdI W7 fb k cl W7 (List.replicate k (-1))) := by
        refine ⟨by simp, hf57, fun s hs => ?_, fun a b ha _ _ hne => absurd ?_ hne, KpL.refl _ _ _ _, Below.refl _ _⟩
        · have e : (List.replicate k (-1 : Int)).getD s 0 = -1 := by simp [List.getD, hs]
          omega
        · simp [List.getD, ha]
      have HN := Hid.out (p := Hid _) (And.intro hfl5 (And.intro hwr (And.intro hlts (And.intro hsz (And.intro hs7 hw7)))))
      have HB5 := Hid.out (p := Hid _) hB5
      have HPR := Hid.out (p := Hid _) HI.out.reg
      refine wpIn_rangeFunc_ownH (F := Fence.wide) (n := 5) rfl (by omega) (gf := 90) (lb := #[.pointer (some ⟨b5 + 1, 0, none⟩)]) rfl trivial (enters_of Tryd.func90 (by kernel_rfl) rfl)
        (bckI_stops Fence.wide 4 trivial rfl (by omega) (b5 + 1) W7.heap.size fb fb pa pc P k hpl (by omega) W7 (box_cell hB6 rfl) ⟨by omega, by omega, by omega⟩ (Nat.le_refl _) hPS (fun b o e h0 => by
          have h1 := HI.out.own
          obtain ⟨g, cap, e2, _, _⟩ := fam_block h1 (by omega)
          have h2 := (h1.lt g (by rw [e2]; rfl)).2
          simp only [Value.slice.injEq] at e2
          rw [e] at e2
          have e3 : b = g := by
            have := e2.1
            simp at this
            exact this.1
          omega))
        kpL_t (kpL_b (Nat.le_refl _)) (Below.refl _ _) (fun _ => rfl)
        (fun _ W => ∃ kk, FdI W7 fb k cl W kk)
        (fun _ _ _ => False)
        (fdI_own (by omega))
        (fun c s A B row hs _ _ => hs)
        ⟨_, HF0.out⟩
        (fun y a' _ => a' = { tmps := #[.pointer (some ⟨gb, 0, none⟩), .pointer (some ⟨pb, 0, none⟩), .slice none 0 0, .slice pa k pc, u4, .pointer (some ⟨b5, 0, none⟩), undef, .int .i64 (pth P y.1), .pointer (some ⟨gb, 0, none⟩), .pointer (some ⟨gb, 0, none⟩), .pointer (some ⟨gb, 0, none⟩), .slice ca k cc, .int .i64 (k : Int), .int .i64 (k : Int), .bool false, u15, u16, u17, u18, u19, u20, u21, u22, u23, u24, .slice (some ⟨wr.heap.size, 0, none⟩) 1 1, .pointer (some ⟨gb, 0, none⟩), .pointer (some ⟨gb, 0, none⟩), .pointer (some ⟨gb, 0, none⟩), .slice ca k cc, .int .i64 (k : Int), .slice (some ⟨fb, 0, none⟩) k k, .slice pa k pc, .func (.func 90) #[] #[.pointer (some ⟨b5 + 1, 0, none⟩)], .int .i64 (y.1 : Int), .int .i64 (pth P y.1), undef, undef, undef, undef, undef, undef, undef, undef, undef, undef, undef, undef, undef], defers := [] })
        (fun y a' => ownFrom_pure _ _) ?assign ?body ?done ?stop
      case assign =>
        rintro lp pre y W K hI hK
        simp only [inV] at hK ⊢
        gi_wp2
        exact hK _ _ (KeepsFrom.refl _ _) (KpL.refl _ _ _ _) hI rfl
      case body =>
        rintro lp pre y a' W hlp hlr ⟨kk, hFd⟩ rfl hN'
        obtain ⟨hfl5, hwr, hlts, hsz, hs7, hw7⟩ := HN.out
        have hyp := y.2
        obtain ⟨r, hr1, hr2⟩ := HPR.out (pth P y.1) (by
          unfold pth
          rw [List.getD_eq_getElem?_getD, List.getElem?_eq_getElem (by omega)]
          exact List.getElem_mem _)
        rw [hr1]
        have hrI : (r : Int) < (k : Int) := by omega
        have hwW : Below w.heap.size w W := hw7.trans (hFd.low.mono (by have := HI.out.gr.low.size; omega))
        have hnf : ∀ b, b < W7.heap.size → b ≠ fb → W.heap[b]? = W7.heap[b]? := fun b h1 h2 => hFd.kp.block b h1 h2 h2
        have d5 : W.cell? ⟨b5, 0, none⟩ = some (.slice (some ⟨fb, 0, none⟩) k k) := box_cell ((hnf b5 (by omega) (by omega)).trans HB5.out) rfl
        have dp : W.cell? ⟨pb, 0, none⟩ = some (.pointer (some ⟨gb, 0, none⟩)) := box_cell ((hnf pb (by omega) (by omega)).trans HPB7.out) rfl
        have dg : W.cell? ⟨gb, 0, none⟩ = some (.slice ca k cc) := box_cell ((hnf gb (by omega) (by omega)).trans HGB7.out) rfl
        obtain ⟨cg, x, rfl, -, hx, hxO⟩ := (HO.out.below hwW).at (k := r) (by rw [HY.out.1]; exact hr2)
        obtain ⟨xa, xc, rfl⟩ := hxO.form
        obtain ⟨ys, hys⟩ : ∃ ys, yss.getD r [] = ys := ⟨_, rfl⟩
        have hyr := HY.out.2 r hr2
        rw [hys] at hx hxO hyr
        obtain ⟨yl, hyl⟩ : ∃ q, ys.length = q := ⟨_, rfl⟩
        rw [hyl] at hx hyr
        have hcg : cg < W.heap.size ∧ cg ≠ fb := by
          obtain ⟨g', x', e, -, hx', -⟩ := HO.out.at (k := r) (by rw [HY.out.1]; exact hr2)
          simp only [Option.some.injEq, Addr.mk.injEq, and_true] at e
          have h2 := lt_of_cell hx'
          have h3 := HI.out.gr.low.size
          have h4 := hwW.size
          simp only at h2
          omega
        have HFF := Hid.out (p := Hid _) (ffree_any W.drew xa yl xc ys (some ⟨fb, 0, none⟩) k k kk (hxO.sis.below (Below.refl _ _).drew) hyl hyr.2.2 (hFd.sis.below (Below.refl _ _).drew) hFd.len hrg hyr.1 hFd.bnd)
        have HB := Hid.out (p := Hid _) (And.intro (lt_of_cell d5) (And.intro (lt_of_cell dp) (And.intro (lt_of_cell dg) (And.intro hcg.1 (And.intro hcg.2 (And.intro (show b5 ≠ fb by omega) (And.intro (show pb ≠ fb by omega) (show gb ≠ fb by omega))))))))
        have HFD : Hid (FdI W7 fb k cl W kk) := hFd
        have HYR := Hid.out (p := Hid _) hyr
        have hfW : fb < W.heap.size := (Array.getElem?_eq_some_iff.1 hFd.cells).1
        have hf7 : Hid (fb < W7.heap.size) := (by omega : fb < W7.heap.size)
        have HR1 := Hid.out (p := Hid _) hr1
        have HFW := Hid.out (p := Hid _) hfW
        clear hFd hyr hxO hys hr1 hyp hN' hlr hlp hb57 hB5 hB6 hs7 hW7 hbr7 hf57 hfl5 hwr hlts hsz hw7 hpl hPS hnf hwW hyl hcg hfW
        gi_wp2
        refine region_held_round (S := fun w' : World => KpL W.heap.size fb fb W w') (by kernel_rfl) (by kernel_rfl) (fun ⟨_, _, h⟩ => h) (KpL.of_below (Below.refl _ _).drew (Nat.le_refl _)) (fun hHeld => ?_)
        try simp only [Act.put, List.setIfInBounds_toArray, List.set_cons_zero, List.set_cons_succ, List.getElem_toArray, List.getElem_cons_succ, List.getElem_cons_zero]
        refine wpAnyH_take (i := 0) (v := .slice (some ⟨fb, 0, none⟩) k k) rfl (by kernel_rfl) (by kernel_rfl) (by kernel_rfl) (fun _ _ _ h => h) (Or.inl ⟨by rfl, by intro w' hSw; have e0 := hSw.cell d5 HB.out.1 HB.out.2.2.2.2.2.1 HB.out.2.2.2.2.2.1; first | (go_simp; done) | (go_simp; with_reducible rfl)⟩) (by assumption) ?_
        try simp only [Act.put, List.setIfInBounds_toArray, List.set_cons_zero, List.set_cons_succ, List.getElem_toArray, List.getElem_cons_zero]
        refine wpAnyH_take (i := 1) (v := .int .i64 (r : Int)) rfl (by kernel_rfl) (by kernel_rfl) (by kernel_rfl) (fun _ _ _ h => h) (Or.inl ⟨by rfl, by intro w' hSw; first | (go_simp; done) | (go_simp; with_reducible rfl)⟩) (by assumption) ?_
        try simp only [Act.put, List.setIfInBounds_toArray, List.set_cons_zero, List.set_cons_succ, List.getElem_toArray, List.getElem_cons_succ, List.getElem_cons_zero]
        refine wpAnyH_take (i := 2) (v := .pointer (some ⟨gb, 0, none⟩)) rfl (by kernel_rfl) (by kernel_rfl) (by kernel_rfl) (fun _ _ _ h => h) (Or.inl ⟨by rfl, by intro w' hSw; have e0 := hSw.cell dp HB.out.2.1 HB.out.2.2.2.2.2.2.1 HB.out.2.2.2.2.2.2.1; first | (go_simp; done) | (go_simp; with_reducible rfl)⟩) (by assumption) ?_
        try simp only [Act.put, List.setIfInBounds_toArray, List.set_cons_zero, List.set_cons_succ, List.getElem_toArray, List.getElem_cons_succ, List.getElem_cons_zero]
        refine wpAnyH_take (i := 3) (v := .pointer (some ⟨gb, 0, none⟩)) rfl (by kernel_rfl) (by kernel_rfl) (by kernel_rfl) (fun _ _ _ h => h) (Or.inl ⟨by rfl, by intro w' hSw; first | (go_simp; done) | (go_simp; with_reducible rfl)⟩) (by assumption) ?_
        try simp only [Act.put, List.setIfInBounds_toArray, List.set_cons_zero, List.set_cons_succ, List.getElem_toArray, List.getElem_cons_succ, List.getElem_cons_zero]
        refine wpAnyH_take (i := 4) (v := .pointer (some ⟨gb, 0, none⟩)) rfl (by kernel_rfl) (by kernel_rfl) (by kernel_rfl) (fun _ _ _ h => h) (Or.inl ⟨by rfl, by intro w' hSw; first | (go_simp; done) | (go_simp; with_reducible rfl)⟩) (by assumption) ?_
        try simp only [Act.put, List.setIfInBounds_toArray, List.set_cons_zero, List.set_cons_succ, List.getElem_toArray, List.getElem_cons_succ, List.getElem_cons_zero]
        refine wpAnyH_take (i := 5) (v := .slice (some ⟨cg, 0, none⟩) k cc) rfl (by kernel_rfl) (by kernel_rfl) (by kernel_rfl) (fun _ _ _ h => h) (Or.inl ⟨by rfl, by intro w' hSw; have e0 := hSw.cell dg HB.out.2.2.1 HB.out.2.2.2.2.2.2.2 HB.out.2.2.2.2.2.2.2; first | (go_simp; done) | (go_simp; with_reducible rfl)⟩) (by assumption) ?_
        try simp only [Act.put, List.setIfInBounds_toArray, List.set_cons_zero, List.set_cons_succ, List.getElem_toArray, List.getElem_cons_succ, List.getElem_cons_zero]
        refine wpAnyH_take (i := 6) (v := .int .i64 (r : Int)) rfl (by kernel_rfl) (by kernel_rfl) (by kernel_rfl) (fun _ _ _ h => h) (Or.inl ⟨by rfl, by intro w' hSw; first | (go_simp; done) | (go_simp; with_reducible rfl)⟩) (by assumption) ?_
        try simp only [Act.put, List.setIfInBounds_toArray, List.set_cons_zero, List.set_cons_succ, List.getElem_toArray, List.getElem_cons_succ, List.getElem_cons_zero]
        refine wpAnyH_take (i := 7) (v := .pointer (some ⟨cg, r, none⟩)) rfl (by kernel_rfl) (by kernel_rfl) (by kernel_rfl) (fun _ _ _ h => h) (Or.inl ⟨by rfl, by intro w' hSw; first | (go_simp; done) | (go_simp; with_reducible rfl)⟩) (by assumption) ?_
        try simp only [Act.put, List.setIfInBounds_toArray, List.set_cons_zero, List.set_cons_succ, List.getElem_toArray, List.getElem_cons_succ, List.getElem_cons_zero]
        refine wpAnyH_take (i := 8) (v := .slice xa yl xc) rfl (by kernel_rfl) (by kernel_rfl) (by kernel_rfl) (fun _ _ _ h => h) (Or.inl ⟨by rfl, by intro w' hSw; have e0 := hSw.cell hx HB.out.2.2.2.1 HB.out.2.2.2.2.1 HB.out.2.2.2.2.1; first | (go_simp; done) | (go_simp; with_reducible rfl)⟩) (by assumption) ?_
        try simp only [Act.put, List.setIfInBounds_toArray, List.set_cons_zero, List.set_cons_succ, List.getElem_toArray, List.getElem_cons_succ, List.getElem_cons_zero]
        refine wpAnyH_take (i := 9) (v := .slice (some ⟨fb, 0, none⟩) k k) rfl (by kernel_rfl) (by kernel_rfl) (by kernel_rfl) (fun _ _ _ h => h) (Or.inl ⟨by rfl, by intro w' hSw; have e0 := hSw.cell d5 HB.out.1 HB.out.2.2.2.2.2.1 HB.out.2.2.2.2.2.1; first | (go_simp; done) | (go_simp; with_reducible rfl)⟩) (by assumption) ?_
        try simp only [Act.put, List.setIfInBounds_toArray, List.set_cons_zero, List.set_cons_succ, List.getElem_toArray, List.getElem_cons_succ, List.getElem_cons_zero]
        refine wpAnyH_ready (rs := [10]) (by kernel_rfl) (by simp) (AllReadyH.cons rfl (fun K hK => ?_) AllReadyH.nil)
        go_simp
        refine Calls.mono HFF.out ?_
        rintro e w2 ⟨c, rfl, hc, hcv, hb2⟩
        have hW2 : Below W.heap.size W w2 := (Below.refl _ _).drew.trans hb2
        have f2 := box_free (i := r) (blk hW2 HFD.out.cells)
        obtain ⟨cv, c2⟩ : ∃ v, w2.cell? ⟨fb, r, none⟩ = some v := ⟨_, box_cell (blk hW2 HFD.out.cells) (by simpa using intsV_at (by rw [HFD.out.len]; exact hr2))⟩
        have HST := Hid.out (p := Hid _) (HFD.out.step hW2 hr2 hf7.out hc (fun hne s hs hcl => hcv hne s ((HYR.out.2.1 s hs).2 hcl)) HSI.out.1 HSI.out.2)
        have HW2 := Hid.out (p := Hid _) hW2
        clear hb2 hc hcv hW2
        go_wp2_with fail
        refine hK.out _ _ (KpL.of_below HW2.out (Nat.le_refl _)) (fun _ => ?_)
        clear hK K
        try simp only [Act.put, List.setIfInBounds_toArray, List.set_cons_zero, List.set_cons_succ, List.getElem_toArray, List.getElem_cons_succ, List.getElem_cons_zero]
        refine wpAnyH_ready (rs := [11]) (by kernel_rfl) (by simp) (AllReadyH.cons rfl (fun K hK => ?_) AllReadyH.nil)
        go_simp
        refine hK.out _ _ (KpL.of_below HW2.out (Nat.le_refl _)) (fun _ => ?_)
        clear hK K
        try simp only [Act.put, List.setIfInBounds_toArray, List.set_cons_zero, List.set_cons_succ, List.getElem_toArray, List.getElem_cons_succ, List.getElem_cons_zero]
        refine wpAnyH_ready (rs := [12]) (by kernel_rfl) (by simp) (AllReadyH.cons rfl (fun K hK => ?_) AllReadyH.nil)
        go_simp
        refine hK.out _ _ ((KpL.of_below HW2.out (Nat.le_refl _)).putE (Or.inl rfl) _) (fun _ => ?_)
        clear hK K
        try simp only [Act.put, List.setIfInBounds_toArray, List.set_cons_zero, List.set_cons_succ, List.getElem_toArray, List.getElem_cons_succ, List.getElem_cons_zero]
        refine wpAnyH_done (by kernel_rfl) ?_ _
        gi_wp2
        exact HST.out
      case done =>
        rintro D xs W hD hS9 ⟨kk, hFd⟩ hDD
        obtain ⟨hfl5, hwr, hlts, hsz, hs7, hw7⟩ := HN.out
        have d5 : W.cell? ⟨b5, 0, none⟩ = some (.slice (some ⟨fb, 0, none⟩) k k) := box_cell ((hFd.kp.block b5 (by omega) (by omega) (by omega)).trans HB5.out) rfl
        have hwW : Below w.heap.size w W := hw7.trans (hFd.low.mono (by have := HI.out.gr.low.size; omega))
        have hput : Below W7.heap.size W (W.putObj D (.deferred none)) := belowK_b (n₀ := W7.heap.size) (w := W7) (Nat.le_refl _) W D _ _ (by omega) hDD rfl rfl
        have HPT := Hid.out (p := Hid _) hput
        have HLE : Hid (w.heap.size ≤ W7.heap.size ∧ fb < W7.heap.size ∧ pb ≤ fb) := ⟨hw7.size, by omega, by omega⟩
        have HFD : Hid (FdI W7 fb k cl W kk) := hFd
        have HWW := Hid.out (p := Hid _) hwW
        have HDD := Hid.out (p := Hid _) hDD
        clear hFd hwW hS9 hDD hb57 hB5 hB6 hs7 hW7 hbr7 hf57 hfl5 hwr hlts hsz hw7 hpl hPS hput
        gi_wp2
        refine ⟨by simp, .inl ⟨_, _, rfl, run_takeDeferred HDD.out, ?_⟩⟩
        refine ⟨.slice (some ⟨fb, 0, none⟩) k k, ?_, kk, fb, k, rfl, ?_, HFD.out.len, fun r hr => ⟨(HFD.out.bnd r hr).1, (HFD.out.bnd r hr).2, fun s hs hcl hne => HFD.out.val r s hr (by rw [← HFD.out.len]; exact hs) hcl hne⟩, HWW.out.trans (HPT.out.mono HLE.out.1)⟩
        · simp [results, Tryd.f45, go_sem]
        · have h1 := (HPT.out.block fb HLE.out.2.1).trans HFD.out.cells
          have hl := HFD.out.len
          rw [HPB.out]
          refine ⟨by simp [intsV], .inr ⟨fb, k, _, by rw [hl], HLE.out.2.2, h1, ?_, by unfold maxLen; omega, ?_, ?_⟩⟩
          · rw [hl]; exact Nat.le_refl _
          · simp [intsV, hl]
          · rw [List.take_of_length_le (by simp [intsV])]
      case stop =>
        rintro D c9 pre W hD _ hF
        exact hF.elim

end Go.Proofs.YtocfocjnnjdcgaaDoor
