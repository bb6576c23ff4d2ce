/-
  Which registers clash, by the program: plain functions, and the walk.
-/
import Derived.Test.YtocfocjnnjdcgaaDoorLivF
import Derived.Test.YtocfocjnnjdcgaaDoorLivA
namespace Go.Proofs.YtocfocjnnjdcgaaDoor
open Go.RowKit Go.Shelf

/-- What clashes by the first k orders. -/
def ClN (X : Nat → Nat → Int) (l k a b : Nat) : Prop := a ≠ b ∧ ∃ i, i < k ∧ ((wrX X i = (a : Int) ∧ Bh X l b i) ∨ (wrX X i = (b : Int) ∧ Bh X l a i))
theorem clN_none {X : Nat → Nat → Int} {l k a b : Nat} (h : wrX X k = -1) : ClN X l (k + 1) a b ↔ ClN X l k a b := by
  constructor
  · rintro ⟨hne, i, hi, hc⟩
    refine ⟨hne, i, ?_, hc⟩
    rcases Nat.lt_or_ge i k with h1 | h1
    · exact h1
    · have : i = k := by omega
      subst this
      rw [h] at hc
      rcases hc with ⟨h2, _⟩ | ⟨h2, _⟩ <;> omega
  · rintro ⟨hne, i, hi, hc⟩
    exact ⟨hne, i, by omega, hc⟩
/-- The sets of registers that clash, as the first k orders make them. -/
def CI (X : Nat → Nat → Int) (l k : Nat) (F : Nat → Nat → Nat) : Prop := ∀ a b, has (F a) b = true ↔ ClN X l k a b
/-- The same, with register r that order k writes, and those of the list os that were told. -/
def CJ (X : Nat → Nat → Int) (l k r : Nat) (os : List Int) (F : Nat → Nat → Nat) : Prop := ∀ a b, has (F a) b = true ↔ ClN X l k a b ∨ (a = r ∧ b ≠ r ∧ Bh X l b k) ∨ (b = r ∧ (a : Int) ∈ os)
section
variable {X : Nat → Nat → Int} {l k r : Nat} {F : Nat → Nat → Nat} {g : Nat → Nat}
theorem CI.zero : CI X l 0 (fun _ => noS) := fun a b => by
  rw [has_noS]
  constructor
  · intro h; cases h
  · rintro ⟨_, i, hi, _⟩; omega
theorem CI.join (h : CI X l k F) (hg : ∀ b, has g b = true ↔ Bh X l b k ∧ b ≠ r) : CJ X l k r [] (putS F r (jnd (F r) g)) := fun a b => by
  by_cases e : a = r
  · subst e
    rw [putS_self, has_jnd, Bool.or_eq_true, h a b, hg b]
    simp
    constructor
    · rintro (h1 | ⟨h1, h2⟩)
      · exact Or.inl h1
      · exact Or.inr ⟨h2, h1⟩
    · rintro (h1 | ⟨h1, h2⟩)
      · exact Or.inl h1
      · exact Or.inr ⟨h2, h1⟩
  · rw [putS_ne _ _ e, h a b]
    simp [e]
theorem CJ.more {os : List Int} (h : CJ X l k r os F) (o : Nat) : CJ X l k r (os ++ [(o : Int)]) (putS F o (wth (F o) r)) := fun a b => by
  have hm : (a : Int) ∈ os ++ [(o : Int)] ↔ (a : Int) ∈ os ∨ a = o := by
    rw [List.mem_append, List.mem_singleton]
    refine or_congr Iff.rfl ?_
    omega
  rw [hm]
  by_cases e : a = o
  · subst e
    rw [putS_self, has_wth, Bool.or_eq_true, decide_eq_true_eq, h a b]
    constructor
    · rintro ((h1 | h1 | ⟨h1, h2⟩) | h1)
      · exact Or.inl h1
      · exact Or.inr (Or.inl h1)
      · exact Or.inr (Or.inr ⟨h1, Or.inl h2⟩)
      · exact Or.inr (Or.inr ⟨h1, Or.inr rfl⟩)
    · rintro (h1 | h1 | ⟨h1, h2⟩)
      · exact Or.inl (Or.inl h1)
      · exact Or.inl (Or.inr (Or.inl h1))
      · exact Or.inr h1
  · rw [putS_ne _ _ e, h a b]
    simp [e]
theorem CJ.done {os : List Int} (h : CJ X l k r os F) (hr : wrX X k = (r : Int)) (ho : ∀ a : Nat, (a : Int) ∈ os ↔ Bh X l a k ∧ a ≠ r) : CI X l (k + 1) F := fun a b => by
  rw [h a b]
  constructor
  · rintro (⟨h1, i, hi, h2⟩ | ⟨h1, h2, h3⟩ | ⟨h1, h2⟩)
    · exact ⟨h1, i, by omega, h2⟩
    · exact ⟨fun e => h2 (by rw [← e, h1]), k, by omega, Or.inl ⟨by rw [h1]; exact hr, h3⟩⟩
    · obtain ⟨h3, h4⟩ := (ho a).1 h2
      exact ⟨fun e => h4 (by rw [e, h1]), k, by omega, Or.inr ⟨by rw [h1]; exact hr, h3⟩⟩
  · rintro ⟨h1, i, hi, h2⟩
    by_cases e : i = k
    · subst e
      rw [hr] at h2
      rcases h2 with ⟨h2, h3⟩ | ⟨h2, h3⟩
      · have : a = r := by omega
        exact Or.inr (Or.inl ⟨this, fun e => h1 (by rw [this, e]), h3⟩)
      · have : b = r := by omega
        exact Or.inr (Or.inr ⟨this, (ho a).2 ⟨h3, fun e => h1 (by rw [this, e])⟩⟩)
    · exact Or.inl ⟨h1, i, by omega, h2⟩
theorem W64.putS {f : Nat → Nat} (h : ∀ j, W64 (F j)) (hf : W64 f) : ∀ j, W64 (putS F r f j) := fun j => by
  unfold Go.Proofs.YtocfocjnnjdcgaaDoor.putS
  split
  · exact hf
  · exact h j
end
theorem KpL.mono {n₀ m x y : Nat} {A B : World} (h : KpL n₀ x y A B) (hm : m ≤ n₀) : KpL m x y A B := ⟨h.size, fun k h1 h2 h3 => h.block k (by omega) h2 h3⟩
theorem kpL_store {n₀ x : Nat} (A : World) (i j q t : Nat) (u0 u1 u2 u3 : Value) : KpL n₀ x x A ((((A.setCell ⟨x, i, none⟩ u0).setCell ⟨x, j, none⟩ u1).setCell ⟨x, q, none⟩ u2).setCell ⟨x, t, none⟩ u3) := ((((KpL.refl n₀ x x A).put u0).put u1).put u2).put u3
theorem below_row {w V : World} {ab : Nat} (h : Below w.heap.size w V) (hb : w.heap.size ≤ ab) (i j q t : Nat) (u0 u1 u2 u3 : Value) : Below w.heap.size w ((((V.setCell ⟨ab, i, none⟩ u0).setCell ⟨ab, j, none⟩ u1).setCell ⟨ab, q, none⟩ u2).setCell ⟨ab, t, none⟩ u3) := (((h.setCell hb _).setCell hb _).setCell hb _).setCell hb _
theorem addS_one (f : Nat → Nat) (r : Nat) : addS f [(r : Int)] = wth f r := by simp [addS]
theorem kpL_sets {n₀ x : Nat} {A B : World} (h : KpL n₀ x x A B) {ab n : Nat} {S : Nat → Nat → Nat} (hs : SetsAt A ab n S) (h1 : ab < n₀) (h2 : ab ≠ x) : SetsAt B ab n S := fun j hj => by
  obtain ⟨c0, c1, c2, c3⟩ := hs j hj
  exact ⟨h.cell c0 h1 h2 h2, h.cell c1 h1 h2 h2, h.cell c2 h1 h2 h2, h.cell c3 h1 h2 h2⟩
theorem kpL_sis {n₀ x : Nat} {A B : World} (h : KpL n₀ x x A B) {a : Option Addr} {os : List Int} (hs : SIs A a os) (h1 : ∀ b o, a = some ⟨b, o, none⟩ → 0 < os.length → b < n₀ ∧ b ≠ x) : SIs B a os := fun j hj => by
  obtain ⟨b, o, e, c⟩ := hs j hj
  obtain ⟨h3, h4⟩ := h1 b o e (by omega)
  exact ⟨b, o, e, h.cell c h3 h4 h4⟩

set_option maxRecDepth 100000 in
set_option maxHeartbeats 6400000 in
theorem clashes_any (w : World) (ca : Option Addr) (l cc : Nat) (X : Nat → Nat → Int) (rg m lk : Nat) (hl : l ≤ 1000) (hrg : rg ≤ 200) (hord : ∀ i, i < l → OrdAt w ca i (X i 0) (X i 1) (X i 2) (X i 3)) (hok : ∀ i, i < l → ordE rg m lk l (X i 0) (X i 1) (X i 2) (X i 3) = 0) (hT : TabZ w) :
    Calls Tryd.prog 30 #[.slice ca l cc, .int .i64 rg] w fun e w' => ∃ fb F, e = .returned (.slice (some ⟨fb, 0, none⟩) rg rg) ∧ RowZ w' w.heap.size fb rg F ∧ (∀ j, W64 (F j)) ∧ (∀ a b, has (F a) b = true ↔ Cl X l a b) ∧ Below w.heap.size w w' := by
  obtain ⟨w1, hrun1, hR1, hB1⟩ := sets_start w rg (by omega)
  have HORD := Hid.out (p := Hid _) hord
  have HOK := Hid.out (p := Hid _) hok
  have HT := Hid.out (p := Hid _) hT
  have HR1 : Hid (RowZ w1 w.heap.size w.heap.size rg (fun _ => noS) ∧ Below w.heap.size w w1) := ⟨hR1, hB1⟩
  have HAH : Hid (Calls Tryd.prog 28 #[.slice ca l cc] w1 fun e w' => ∃ ab S, e = .returned (.slice (some ⟨ab, 0, none⟩) (l + 1) (l + 1)) ∧ RowZ w' w1.heap.size ab (l + 1) S ∧ (∀ j, W64 (S j)) ∧ (∀ i r, has (S i) r = true ↔ Lv X l r i) ∧ Below w1.heap.size w1 w') := liveAhead_any w1 ca l cc X rg m lk hl hrg (fun i hi => (hord i hi).below hB1) hok
  clear hord hok hR1 hB1 hT
  go_enter Tryd.func30, Tryd.ntmps30
  go_wp2_with fail
  refine Calls.mono HAH.out ?_
  rintro e w2 ⟨ab, S, rfl, hR2, hW2, hL2, hB2⟩
  have H2 : Hid (SetsAt w2 ab (l + 1) S ∧ (∀ j, W64 (S j)) ∧ (∀ i r, has (S i) r = true ↔ Lv X l r i) ∧ Below w.heap.size w w2 ∧ ab < w2.heap.size ∧ ab ≠ w.heap.size ∧ w.heap.size < w2.heap.size) := by
    have h1 := hR2.lt
    have h2 := HR1.out.1.lt.2
    exact ⟨hR2.sets, hW2, hL2, HR1.out.2.trans (hB2.mono HR1.out.2.size), h1.2, by omega, by omega⟩
  have HI0 : Hid (RowZ w2 w.heap.size w.heap.size rg (fun _ => noS)) := HR1.out.1.below hB2
  clear hR2 hW2 hL2 hB2 hrun1 HAH HR1
  go_wp2_with fail
  go_loopw [20] (fun x wr => ∃ (k : Nat) (F : Nat → Nat → Nat), k ≤ l ∧ x = .int .i64 k ∧ Hid (RowZ wr w.heap.size w.heap.size rg F ∧ (∀ j, W64 (F j)) ∧ CI X l k F ∧ Below w.heap.size w wr ∧ KpL w2.heap.size w.heap.size w.heap.size w2 wr)) (fun x _ => l - (intOf x).toNat)
  case atStart => exact ⟨0, fun _ => noS, Nat.zero_le _, rfl, HI0.out, fun _ => W64.noS, CI.zero, H2.out.2.2.2.1, KpL.refl _ _ _ _⟩
  case round =>
    obtain ⟨k, F, hk, rfl, HI⟩ := hrel
    clear HI0
    by_cases hlt : k < l
    · have hok := HOK.out k hlt
      obtain ⟨b, o, rfl, c0, c1, c2, c3⟩ := (HORD.out k hlt).below HI.out.2.2.2.1
      have HWR : Hid (∀ V, Calls Tryd.prog 52 #[ints4 (X k 0) (X k 1) (X k 2) (X k 3)] V fun e w' => ((∃ x, e = .returned (.tuple #[.int .i64 x, .bool true]) ∧ x = wrX X k ∧ 0 ≤ x ∧ x < rg) ∨ (e = .returned (.tuple #[.int .i64 0, .bool false]) ∧ wrX X k = -1)) ∧ Below V.heap.size V w') := fun V => (writes_any _ _ _ _ (ok_op hok) V).mono fun e w' h => ⟨by
        rcases h.1 with ⟨x, h1, h2, h3⟩ | h1
        · have h4 := wr_some hok h3
          have h5 := ok_wr hok
          exact Or.inl ⟨x, h1, h2, by omega, by omega⟩
        · exact Or.inr h1, h.2⟩
      have HBH : Hid (∀ V, Below wr.heap.size wr V → Calls Tryd.prog 51 #[ints4 (X k 0) (X k 1) (X k 2) (X k 3), .int .i64 k, .slice (some ⟨ab, 0, none⟩) (l + 1) (l + 1)] V fun e w' => e = .returned (setV (bhF X S k)) ∧ Below V.heap.size V w') := fun V hV => behind_any V _ _ _ _ k ab (l + 1) (l + 1) S ((kpL_sets HI.out.2.2.2.2 H2.out.1 H2.out.2.2.2.2.1 H2.out.2.2.2.2.2.1).below hV) H2.out.2.1 (fun j hj => Nat.lt_succ_of_le (ok_nx hlt hok j hj)) (by omega) (fun e => ((ok_lead hok).1 e).1) (fun e => ((ok_lead hok).2 e).1)
      have HG : Hid (∀ b, has (bhF X S k) b = true ↔ Bh X l b k) := fun b => by
        rw [has_bhF]
        exact exists_congr fun j => and_congr Iff.rfl (H2.out.2.2.1 j b)
      have HGW : Hid (W64 (bhF X S k)) := W64.bhF H2.out.2.1
      obtain ⟨g, hg⟩ : ∃ g, bhF X S k = g := ⟨_, rfl⟩
      rw [hg] at HBH HG HGW
      obtain ⟨x0, hx0⟩ : ∃ v, X k 0 = v := ⟨_, rfl⟩
      obtain ⟨x1, hx1⟩ : ∃ v, X k 1 = v := ⟨_, rfl⟩
      obtain ⟨x2, hx2⟩ : ∃ v, X k 2 = v := ⟨_, rfl⟩
      obtain ⟨x3, hx3⟩ : ∃ v, X k 3 = v := ⟨_, rfl⟩
      rw [hx0, hx1, hx2, hx3] at HBH HWR
      rw [hx0] at c0
      rw [hx1] at c1
      rw [hx2] at c2
      rw [hx3] at c3
      have HXX := Hid.out (p := Hid _) (And.intro hx0 (And.intro hx1 (And.intro hx2 hx3)))
      clear hok hg hx0 hx1 hx2 hx3
      have hlt' : (k : Int) < (l : Int) := by omega
      go_wp2_with fail
      refine Calls.mono (HWR.out _) ?_
      rintro e w3 ⟨h3, hb3⟩
      have hS3 : Below wr.heap.size wr w3 := (below_one wr _).trans (hb3.mono (by simp))
      have hx3 : w3.heap[wr.heap.size]? = some (.cells #[.int .i64 x0, .int .i64 x1, .int .i64 x2, .int .i64 x3] 55) := (hb3.block _ (by simp)).trans (heap_alloc_new wr _)
      have d0 := box_cell (i := 0) hx3 rfl
      have d1 := box_cell (i := 1) hx3 rfl
      have d2 := box_cell (i := 2) hx3 rfl
      have d3 := box_cell (i := 3) hx3 rfl
      have HS3 := Hid.out (p := Hid _) hS3
      clear hb3 hS3 hx3 c0 c1 c2 c3 HWR
      rcases h3 with ⟨x, rfl, hx, hxl, hxr⟩ | ⟨rfl, hx⟩
      · obtain ⟨r, hr, hrr⟩ : ∃ r : Nat, x = (r : Int) ∧ r < rg := ⟨x.toNat, by omega, by omega⟩
        subst hr
        have HRN : Hid (wrX X k = (r : Int) ∧ r < rg ∧ True) := ⟨hx.symm, hrr, trivial⟩
        have hri : (r : Int) < (rg : Int) := by omega
        clear hx hxl hxr
        go_wp2_with fail
        refine Calls.mono (HBH.out _ HS3.out) ?_
        rintro e w4 ⟨rfl, hb4⟩
        have HS4 := Hid.out (p := Hid _) (HS3.out.trans (hb4.mono HS3.out.size))
        clear hb4 d0 d1 d2 d3 HBH
        go_wp2_with fail
        refine Calls.mono (without_any g r (by omega) _) ?_
        rintro e w5 ⟨rfl, hb5⟩
        have HOTH : Hid (∀ b, has (wout g r) b = true ↔ Bh X l b k ∧ b ≠ r) := fun b => by
          rw [has_wout HGW.out, Bool.and_eq_true, HG.out b]
          simp
        have HOW : Hid (W64 (wout g r)) := W64.wout HGW.out r
        obtain ⟨oth, hoth⟩ : ∃ f, wout g r = f := ⟨_, rfl⟩
        rw [hoth] at HOTH HOW
        rw [hoth]
        have HS5 := Hid.out (p := Hid _) (HS4.out.trans (hb5.mono HS4.out.size))
        clear hb5 hoth HG HGW
        go_wp2_with fail
        have H6 : Hid (Below w.heap.size w (w5.alloc (setO oth)) ∧ Below wr.heap.size wr (w5.alloc (setO oth))) := ⟨HI.out.2.2.2.1.trans ((HS5.out.alloc HS5.out.size _).mono HI.out.2.2.2.1.size), HS5.out.alloc HS5.out.size _⟩
        have hn6 := heap_alloc_new w5 (setO oth)
        have HOB : Hid (w5.heap.size < (w5.alloc (setO oth)).heap.size ∧ w5.heap.size ≠ w.heap.size) := ⟨by simp, by have := HI.out.1.lt.2; have := HS5.out.size; omega⟩
        obtain ⟨W6, hW6⟩ : ∃ V, w5.alloc (setO oth) = V := ⟨_, rfl⟩
        rw [hW6] at H6 hn6 HOB
        rw [hW6]
        obtain ⟨p0, p1, p2, p3⟩ := set_lay hn6
        have HR6 := Hid.out (p := Hid _) (HI.out.1.below H6.out.2)
        obtain ⟨r0, r1, r2, r3⟩ := RowZ.sets HR6.out r hrr
        have HJN : Hid (∀ V, Calls Tryd.prog 54 #[setV (F r), setV oth] V fun e w' => e = .returned (setV (jnd (F r) oth)) ∧ Below V.heap.size V w') := fun V => setJoined_any (F r) oth (HI.out.2.1 r) HOW.out V
        clear hW6 hn6 hrr
        refine wp_region_held_drew (S := fun w' : World => KpL W6.heap.size w.heap.size w.heap.size W6 w') (by kernel_rfl) (KpL.of_below ((Below.refl W6.heap.size W6).drew) (Nat.le_refl _)) (fun hHeld => ?_)
        try simp only [Act.put, List.setIfInBounds_toArray, List.set_cons_zero, List.set_cons_succ, List.getElem_toArray, List.getElem_cons_succ, List.getElem_cons_zero]
        refine wpAnyH_take (i := 0) (v := .slice (some ⟨w.heap.size, 0, none⟩) rg rg) rfl (by kernel_rfl) (by kernel_rfl) (by kernel_rfl) (fun _ _ _ h => h) (Or.inl ⟨by rfl, by intro w' hSw; first | (go_simp; done) | (go_simp; with_reducible rfl)⟩) (by assumption) ?_
        try simp only [Act.put, List.setIfInBounds_toArray, List.set_cons_zero, List.set_cons_succ, List.getElem_toArray, List.getElem_cons_zero]
        refine wpAnyH_take (i := 1) (v := .int .i64 (r : Int)) rfl (by kernel_rfl) (by kernel_rfl) (by kernel_rfl) (fun _ _ _ h => h) (Or.inl ⟨by rfl, by intro w' hSw; first | (go_simp; done) | (go_simp; with_reducible rfl)⟩) (by assumption) ?_
        try simp only [Act.put, List.setIfInBounds_toArray, List.set_cons_zero, List.set_cons_succ, List.getElem_toArray, List.getElem_cons_succ, List.getElem_cons_zero]
        refine wpAnyH_take (i := 2) (v := .slice (some ⟨w.heap.size, 0, none⟩) rg rg) rfl (by kernel_rfl) (by kernel_rfl) (by kernel_rfl) (fun _ _ _ h => h) (Or.inl ⟨by rfl, by intro w' hSw; first | (go_simp; done) | (go_simp; with_reducible rfl)⟩) (by assumption) ?_
        try simp only [Act.put, List.setIfInBounds_toArray, List.set_cons_zero, List.set_cons_succ, List.getElem_toArray, List.getElem_cons_succ, List.getElem_cons_zero]
        refine wpAnyH_take (i := 3) (v := .int .i64 (r : Int)) rfl (by kernel_rfl) (by kernel_rfl) (by kernel_rfl) (fun _ _ _ h => h) (Or.inl ⟨by rfl, by intro w' hSw; first | (go_simp; done) | (go_simp; with_reducible rfl)⟩) (by assumption) ?_
        try simp only [Act.put, List.setIfInBounds_toArray, List.set_cons_zero, List.set_cons_succ, List.getElem_toArray, List.getElem_cons_succ, List.getElem_cons_zero]
        refine wpAnyH_take (i := 4) (v := .pointer (some ⟨w.heap.size, r * 4, none⟩)) rfl (by kernel_rfl) (by kernel_rfl) (by kernel_rfl) (fun _ _ _ h => h) (Or.inl ⟨by rfl, by intro w' hSw; first | (go_simp; done) | (go_simp; with_reducible rfl)⟩) (by assumption) ?_
        try simp only [Act.put, List.setIfInBounds_toArray, List.set_cons_zero, List.set_cons_succ, List.getElem_toArray, List.getElem_cons_succ, List.getElem_cons_zero]
        refine wpAnyH_take (i := 6) (v := setV oth) rfl (by kernel_rfl) (by kernel_rfl) (by kernel_rfl) (fun _ _ _ h => h) (Or.inl ⟨by rfl, by intro w' hSw; have e0 := hSw.cell p0 HOB.out.1 HOB.out.2 HOB.out.2; have e1 := hSw.cell p1 HOB.out.1 HOB.out.2 HOB.out.2; have e2 := hSw.cell p2 HOB.out.1 HOB.out.2 HOB.out.2; have e3 := hSw.cell p3 HOB.out.1 HOB.out.2 HOB.out.2; first | (go_simp; done) | (go_simp; with_reducible rfl)⟩) (by assumption) ?_
        try simp only [Act.put, List.setIfInBounds_toArray, List.set_cons_zero, List.set_cons_succ, List.getElem_toArray, List.getElem_cons_succ, List.getElem_cons_zero]
        refine wpAnyH_ready (rs := [5]) (by kernel_rfl) (by simp) (AllReadyH.cons rfl (fun K hK => ?_) AllReadyH.nil)
        go_simp
        refine hK.out _ _ hHeld (fun _ => ?_)
        clear hK K
        try simp only [Act.put, List.setIfInBounds_toArray, List.set_cons_zero, List.set_cons_succ, List.getElem_toArray, List.getElem_cons_succ, List.getElem_cons_zero]
        refine wpAnyH_ready (rs := [7]) (by kernel_rfl) (by simp) (AllReadyH.cons rfl (fun K hK => ?_) AllReadyH.nil)
        go_simp
        refine Calls.mono (HJN.out _) ?_
        rintro e w7 ⟨rfl, hb7⟩
        have hS7 : Below W6.heap.size W6 w7 := ((Below.refl W6.heap.size W6).drew).trans hb7
        have HS7 := Hid.out (p := Hid _) hS7
        obtain ⟨q0, q1, q2, q3⟩ := (RowZ.below HR6.out hS7).sets r HRN.out.2.1
        have hfr := (RowZ.below HR6.out hS7).free
        have fr0 := hfr (r * 4)
        have fr1 := hfr (r * 4 + 1)
        have fr2 := hfr (r * 4 + 2)
        have fr3 := hfr (r * 4 + 3)
        clear hb7 hfr
        go_wp2_with fail
        refine hK.out _ _ (KpL.of_below hS7 (Nat.le_refl _)) (fun _ => ?_)
        clear hK K
        try simp only [Act.put, List.setIfInBounds_toArray, List.set_cons_zero, List.set_cons_succ, List.getElem_toArray, List.getElem_cons_succ, List.getElem_cons_zero]
        refine wpAnyH_take (i := 8) (v := .pointer (some ⟨w.heap.size, r * 4, none⟩)) rfl (by kernel_rfl) (by kernel_rfl) (by kernel_rfl) (fun _ _ _ h => h) (Or.inl ⟨by rfl, by intro w' hSw; first | (go_simp; done) | (go_simp; with_reducible rfl)⟩) (by assumption) ?_
        try simp only [Act.put, List.setIfInBounds_toArray, List.set_cons_zero, List.set_cons_succ, List.getElem_toArray, List.getElem_cons_succ, List.getElem_cons_zero]
        refine wpAnyH_ready (rs := [9]) (by kernel_rfl) (by simp) (AllReadyH.cons rfl (fun K hK => ?_) AllReadyH.nil)
        go_simp
        refine hK.out _ _ (kpL_t (KpL.of_below hS7 (Nat.le_refl _)) (kpL_store _ _ _ _ _ _ _ _ _)) (fun _ => ?_)
        clear hK K
        try simp only [Act.put, List.setIfInBounds_toArray, List.set_cons_zero, List.set_cons_succ, List.getElem_toArray, List.getElem_cons_succ, List.getElem_cons_zero]
        refine wpAnyH_done (by kernel_rfl) ?_ _
        have HR8 := Hid.out (p := Hid _) ((RowZ.below HR6.out hS7).put r (jnd (F r) oth))
        have HB8 := Hid.out (p := Hid _) (below_row (w := w) (ab := w.heap.size) (H6.out.1.trans (hS7.mono H6.out.1.size)) (Nat.le_refl _) (r * 4) (r * 4 + 1) (r * 4 + 2) (r * 4 + 3) (.int .u64 (jnd (F r) oth 0)) (.int .u64 (jnd (F r) oth 1)) (.int .u64 (jnd (F r) oth 2)) (.int .u64 (jnd (F r) oth 3)))
        have HK8 := Hid.out (p := Hid _) (kpL_t (KpL.of_below hS7 (Nat.le_refl _)) (kpL_store (n₀ := W6.heap.size) (x := w.heap.size) w7 (r * 4) (r * 4 + 1) (r * 4 + 2) (r * 4 + 3) (.int .u64 (jnd (F r) oth 0)) (.int .u64 (jnd (F r) oth 1)) (.int .u64 (jnd (F r) oth 2)) (.int .u64 (jnd (F r) oth 3))))
        obtain ⟨W8, hW8⟩ : ∃ V, (((w7.setCell ⟨w.heap.size, r * 4, none⟩ (.int .u64 (jnd (F r) oth 0))).setCell ⟨w.heap.size, r * 4 + 1, none⟩ (.int .u64 (jnd (F r) oth 1))).setCell ⟨w.heap.size, r * 4 + 2, none⟩ (.int .u64 (jnd (F r) oth 2))).setCell ⟨w.heap.size, r * 4 + 3, none⟩ (.int .u64 (jnd (F r) oth 3)) = V := ⟨_, rfl⟩
        rw [hW8] at HR8 HB8 HK8
        rw [hW8]
        have y0 := HK8.out.cell p0 HOB.out.1 HOB.out.2 HOB.out.2
        have y1 := HK8.out.cell p1 HOB.out.1 HOB.out.2 HOB.out.2
        have y2 := HK8.out.cell p2 HOB.out.1 HOB.out.2 HOB.out.2
        have y3 := HK8.out.cell p3 HOB.out.1 HOB.out.2 HOB.out.2
        clear hW8 hS7 q0 q1 q2 q3 fr0 fr1 fr2 fr3 p0 p1 p2 p3 hHeld
        go_wp2_with fail
        refine Calls.mono (list_any oth HOW.out W8 (TabZ.below HT.out HB8.out)) ?_
        rintro e w9 ⟨u, rfl, hu9, hb9⟩
        obtain ⟨la, lc, rfl⟩ := hu9.form
        obtain ⟨os, hos⟩ : ∃ os, lstP (has oth) 256 = os := ⟨_, rfl⟩
        have HOS : Hid (∀ a : Nat, (a : Int) ∈ os ↔ Bh X l a k ∧ a ≠ r) := fun a => by
          rw [← hos]
          constructor
          · intro h
            obtain ⟨q, h1, h2, h3⟩ := lstP_mem h
            have : a = q := by omega
            rw [this]
            exact (HOTH.out q).1 h3
          · intro h
            have := h.1.reg HOK.out
            exact lstP_in (by omega) ((HOTH.out a).2 h)
        have HON : Hid (∀ j, j < os.length → ∃ q : Nat, os.getD j 0 = (q : Int) ∧ q < rg ∧ os.take (j + 1) = os.take j ++ [(q : Int)]) := fun j hj => by
          have hm := List.getElem_mem hj
          have hm2 : os[j] ∈ lstP (has oth) 256 := by rw [hos]; exact hm
          obtain ⟨q, h1, h2, h3⟩ := lstP_mem hm2
          have hq := ((HOTH.out q).1 h3).1.reg HOK.out
          have hx : os[j] = (q : Int) := h1
          refine ⟨q, by simp [List.getD, hj, hx], hq, ?_⟩
          rw [List.take_add_one, List.getElem?_eq_getElem hj, hx]
          rfl
        rw [hos] at hu9
        rw [hos]
        have hlb : ∀ b o, la = some ⟨b, o, none⟩ → 0 < os.length → b < w9.heap.size ∧ b ≠ w.heap.size := fun b o e h0 => by
          obtain ⟨gg, cp, e1, hg, h1, h2⟩ := fam_block hu9 h0
          rw [e] at e1
          simp only [Value.slice.injEq, Option.some.injEq, Addr.mk.injEq] at e1
          have := HB8.out.size
          have := (RowZ.lt HR8.out).2
          omega
        have H9 : Hid (SIs w9 la os ∧ (∀ b o, la = some ⟨b, o, none⟩ → 0 < os.length → b < w9.heap.size ∧ b ≠ w.heap.size) ∧ KpL w2.heap.size w.heap.size w.heap.size w2 w9) := by
          refine ⟨hu9.sis, hlb, kpL_t HI.out.2.2.2.2 ?_⟩
          have h2r := HI.out.2.2.2.2.size
          exact kpL_t (KpL.of_below H6.out.2 h2r) (kpL_t (HK8.out.mono (Nat.le_trans h2r H6.out.2.size)) (KpL.of_below hb9 (Nat.le_trans h2r (Nat.le_trans H6.out.2.size HK8.out.size))))
        have HI9 : Hid (RowZ w9 w.heap.size w.heap.size rg (putS F r (jnd (F r) oth)) ∧ (∀ j, W64 (putS F r (jnd (F r) oth) j)) ∧ CJ X l k r [] (putS F r (jnd (F r) oth)) ∧ Below w.heap.size w w9 ∧ KpL w9.heap.size w.heap.size w.heap.size w9 w9) := ⟨RowZ.below HR8.out hb9, W64.putS HI.out.2.1 (W64.jnd (HI.out.2.1 r) HOW.out), HI.out.2.2.1.join HOTH.out, HB8.out.trans (hb9.mono HB8.out.size), KpL.refl _ _ _ _⟩
        obtain ⟨mm, hmm⟩ : ∃ m, os.length = m := ⟨_, rfl⟩
        have HMM := Hid.out (p := Hid _) hmm
        have hm256 : mm ≤ 256 := by rw [← hmm, ← hos]; exact lstP_len _ _
        rw [hmm]
        obtain ⟨F9, hF9⟩ : ∃ G, putS F r (jnd (F r) oth) = G := ⟨_, rfl⟩
        rw [hF9] at HI9
        clear hF9 hmm hos hu9 hb9 hlb HI y0 y1 y2 y3 HR8 HB8 HK8 HJN
        go_wp2_with fail
        go_loopw [50] (fun x wi => ∃ (j : Nat) (G : Nat → Nat → Nat), j ≤ mm ∧ x = .int .i64 j ∧ Hid (RowZ wi w.heap.size w.heap.size rg G ∧ (∀ j, W64 (G j)) ∧ CJ X l k r (os.take j) G ∧ Below w.heap.size w wi ∧ KpL w9.heap.size w.heap.size w.heap.size w9 wi)) (fun x _ => mm - (intOf x).toNat)
        case atStart => exact ⟨0, F9, Nat.zero_le _, rfl, HI9.out⟩
        case round =>
          obtain ⟨j, G, hj, rfl, HJ⟩ := hrel
          clear HI9
          by_cases hjl : j < mm
          · obtain ⟨q, hq1, hq2, hq3⟩ := HON.out j (by rw [HMM.out]; exact hjl)
            obtain ⟨lb, lo, rfl, hc⟩ := (kpL_sis HJ.out.2.2.2.2 H9.out.1 H9.out.2.1) j (by rw [HMM.out]; exact hjl)
            rw [hq1] at hc
            obtain ⟨s0, s1, s2, s3⟩ := HJ.out.1.sets q hq2
            have hqr : (q : Int) < (rg : Int) := by omega
            have hup : Below wr.heap.size wr (wr.alloc (.cells #[.int .i64 (r : Int)] 3)) := (Below.refl _ _).alloc (Nat.le_refl _) _
            have HWI : Hid (Calls Tryd.prog 55 #[setV (G q), .slice (some ⟨wr.heap.size, 0, none⟩) 1 1] (wr.alloc (.cells #[.int .i64 (r : Int)] 3)) fun e w' => e = .returned (setV (wth (G q) r)) ∧ Below wr.heap.size wr w') := by
              have h := with_any (G q) (HJ.out.2.1 q) [(r : Int)] (some ⟨wr.heap.size, 0, none⟩) 1 (fun z hz => by rw [List.mem_singleton] at hz; have := HRN.out.2.1; omega) (by simp) (wr.alloc (.cells #[.int .i64 (r : Int)] 3)) (sis_new _ [(r : Int)] _ (heap_alloc_new wr _))
              rw [addS_one] at h
              exact h.mono fun e w' hh => ⟨hh.1, hup.trans (hh.2.mono (by simp))⟩
            have HQ := Hid.out (p := Hid _) (And.intro hq2 hq3)
            clear hq1 hq2 hq3 hup
            go_wp2_with fail
            refine Calls.mono HWI.out ?_
            rintro e wA ⟨rfl, hbA⟩
            have HBA := Hid.out (p := Hid _) hbA
            have hRA := HJ.out.1.below hbA
            obtain ⟨t0, t1, t2, t3⟩ := hRA.sets q HQ.out.1
            have hfr := hRA.free
            have fr0 := hfr (q * 4)
            have fr1 := hfr (q * 4 + 1)
            have fr2 := hfr (q * 4 + 2)
            have fr3 := hfr (q * 4 + 3)
            clear hbA hRA hfr s0 s1 s2 s3 HWI
            go_wp2_with fail
            go_roundw
            case rel =>
              refine ⟨j + 1, putS G q (wth (G q) r), by omega, by go_num, ?_⟩
              refine (⟨(HJ.out.1.below HBA.out).put q (wth (G q) r), W64.putS HJ.out.2.1 (W64.wth (HJ.out.2.1 q) r), ?_, below_row (HJ.out.2.2.2.1.trans (HBA.out.mono HJ.out.2.2.2.1.size)) (Nat.le_refl _) _ _ _ _ _ _ _ _, kpL_t HJ.out.2.2.2.2 (kpL_t (KpL.of_below HBA.out HJ.out.2.2.2.2.size) (kpL_store _ _ _ _ _ _ _ _ _))⟩ : _ ∧ _ ∧ _ ∧ _ ∧ _)
              rw [HQ.out.2]
              exact HJ.out.2.2.1.more q
            case measure => simp [intOf]; omega
          · obtain rfl : j = mm := by omega
            have hcj := HJ.out.2.2.1
            rw [List.take_of_length_le (by rw [HMM.out]; exact Nat.le_refl _)] at hcj
            have HCI := Hid.out (p := Hid _) (hcj.done HRN.out.1 HOS.out)
            clear hcj
            go_wp2_with fail
            go_roundw
            case rel => exact ⟨k + 1, G, by omega, by go_num, HJ.out.1, HJ.out.2.1, HCI.out, HJ.out.2.2.2.1, kpL_t H9.out.2.2 (HJ.out.2.2.2.2.mono H9.out.2.2.size)⟩
            case measure => simp [intOf]; omega
      · have HCI : Hid (CI X l (k + 1) F) := fun a b => by rw [HI.out.2.2.1 a b, clN_none hx]
        clear hx
        go_wp2_with fail
        go_roundw
        case rel => exact ⟨k + 1, F, by omega, by go_num, HI.out.1.below HS3.out, HI.out.2.1, HCI.out, HI.out.2.2.2.1.trans (HS3.out.mono HI.out.2.2.2.1.size), kpL_t HI.out.2.2.2.2 (KpL.of_below HS3.out HI.out.2.2.2.2.size)⟩
        case measure => simp [intOf]; omega
    · obtain rfl : k = l := by omega
      have HN := HI.out
      go_wp2_with fail
      refine bodyPost_ret (v := .slice (some ⟨w.heap.size, 0, none⟩) rg rg) (by simp [results, Tryd.results30, go_sem]) rfl ⟨_, F, rfl, HN.1, HN.2.1, HN.2.2.1, HN.2.2.2.1⟩

end Go.Proofs.YtocfocjnnjdcgaaDoor
