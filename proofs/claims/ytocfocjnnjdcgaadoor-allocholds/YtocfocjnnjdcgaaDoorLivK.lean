/-
  Lists of lists of registers that are made; what the program tells of each thread.
-/
import Derived.Test.YtocfocjnnjdcgaaDoorLivA
import Derived.Test.YtocfocjnnjdcgaaDoorLivD
import Derived.Test.YtocfocjnnjdcgaaDoorBox
import Derived.Test.YtocfocjnnjdcgaaDoorCheckA
namespace Go.Proofs.YtocfocjnnjdcgaaDoor
open Go.RowKit Go.Shelf

/-- Lists of numbers in a list that was made; lists of these. -/
def O2 (w : World) (B : Nat) (u : Value) (yss : List (List Int)) : Prop := ∃ xs, w.ownsRow B 23 1 u yss.length xs ∧ ∀ k, k < yss.length → OwL w B (xs.getD k nilV) (yss.getD k [])
def O3 (w : World) (B : Nat) (u : Value) (ysss : List (List (List Int))) : Prop := ∃ xs, w.ownsRow B 37 1 u ysss.length xs ∧ ∀ k, k < ysss.length → O2 w B (xs.getD k nilV) (ysss.getD k [])
section
variable {w w' : World} {B B' : Nat} {u : Value} {yss : List (List Int)} {ysss : List (List (List Int))}
theorem O2.below (h : O2 w B u yss) (hb : Below w.heap.size w w') : O2 w' B u yss := by
  obtain ⟨xs, h1, h2⟩ := h
  exact ⟨xs, owns_below2 h1 hb, fun k hk => (h2 k hk).below hb⟩
theorem O2.low (h : O2 w B u yss) (hB : B' ≤ B) : O2 w B' u yss := by
  obtain ⟨xs, h1, h2⟩ := h
  exact ⟨xs, own_low h1 hB, fun k hk => (h2 k hk).low hB⟩
theorem O2.form (h : O2 w B u yss) : ∃ a c, u = .slice a yss.length c := by
  obtain ⟨xs, h1, _⟩ := h
  exact fam_form h1
theorem O3.below (h : O3 w B u ysss) (hb : Below w.heap.size w w') : O3 w' B u ysss := by
  obtain ⟨xs, h1, h2⟩ := h
  exact ⟨xs, owns_below2 h1 hb, fun k hk => (h2 k hk).below hb⟩
theorem O3.form (h : O3 w B u ysss) : ∃ a c, u = .slice a ysss.length c := by
  obtain ⟨xs, h1, _⟩ := h
  exact fam_form h1
theorem o2_nil (w : World) (B : Nat) : O2 w B nilV [] := ⟨[], World.ownsRow_nil _ _ _ _, fun _ h => absurd h (Nat.not_lt_zero _)⟩
theorem o3_nil (w : World) (B : Nat) : O3 w B nilV [] := ⟨[], World.ownsRow_nil _ _ _ _, fun _ h => absurd h (Nat.not_lt_zero _)⟩
theorem OwL.grown {v : Value} {l : List Int} (h : OwL w B v l) {r : Option Nat} (hg : w.grownBy w' r) (hne : ∀ g, v.ownBlock = some g → r ≠ some g) : OwL w' B v l := own_grown h hg hne
theorem O2.grown (h : O2 w B u yss) {r : Option Nat} (hg : w.grownBy w' r) {e : TypeId} {z : Nat} {v : Value} {n B2 : Nat} {vs : List Value} (hv : w.ownsRow B2 e z v n vs) (hr : r = v.ownBlock) (h1 : e ≠ 23) (h2 : e ≠ 3) : O2 w' B u yss := by
  obtain ⟨xs, g1, g2⟩ := h
  subst hr
  exact ⟨xs, own_grown g1 hg (fun g e => owns_two g1 hv (fun x => h1 x.symm) e), fun k hk => (g2 k hk).grown hg (fun g e => owns_two (g2 k hk) hv (fun x => h2 x.symm) e)⟩
end
theorem own_far {w w' : World} {B b : Nat} {e ty : TypeId} {z n : Nat} {v : Value} {xs : List Value} {c : Array Value} (h : w.ownsRow B e z v n xs) (hb : w.heap[b]? = some (.cells c ty)) (hne : e ≠ ty) (ho : ∀ g, g ≠ b → w'.heap[g]? = w.heap[g]?) : w'.ownsRow B e z v n xs :=
  fam_keeps h fun g hg => ho g fun x => own_type h hb hne (by rw [← x]; exact hg)
theorem O3.far {w w' : World} {B b : Nat} {u : Value} {ysss : List (List (List Int))} {ty : TypeId} {c : Array Value} (h : O3 w B u ysss) (hb : w.heap[b]? = some (.cells c ty)) (h1 : 3 ≠ ty) (h2 : 23 ≠ ty) (h3 : 37 ≠ ty) (ho : ∀ g, g ≠ b → w'.heap[g]? = w.heap[g]?) : O3 w' B u ysss := by
  obtain ⟨xs, g1, g2⟩ := h
  refine ⟨xs, own_far g1 hb h3 ho, fun k hk => ?_⟩
  obtain ⟨zs, q1, q2⟩ := g2 k hk
  exact ⟨zs, own_far q1 hb h2 ho, fun j hj => own_far (q2 j hj) hb h1 ho⟩
theorem O2.at {w : World} {B : Nat} {a : Option Addr} {m c : Nat} {yss : List (List Int)} (h : O2 w B (.slice a m c) yss) {k : Nat} (hk : k < yss.length) : ∃ g x, a = some ⟨g, 0, none⟩ ∧ m = yss.length ∧ w.cell? ⟨g, k, none⟩ = some x ∧ OwL w B x (yss.getD k []) := by
  obtain ⟨xs, h1, h2⟩ := h
  obtain ⟨g, cap, e, hg, _⟩ := fam_block h1 (by omega)
  simp only [Value.slice.injEq] at e
  have hxl : xs.length = yss.length := by have := h1.1; omega
  refine ⟨g, xs.getD k nilV, e.1, e.2.1, fam_cell h1 hg ?_, h2 k hk⟩
  rw [List.getD_eq_getElem?_getD, List.getElem?_eq_getElem (by omega)]
  rfl
theorem O3.at {w : World} {B : Nat} {a : Option Addr} {m c : Nat} {ysss : List (List (List Int))} (h : O3 w B (.slice a m c) ysss) {k : Nat} (hk : k < ysss.length) : ∃ g x, a = some ⟨g, 0, none⟩ ∧ m = ysss.length ∧ w.cell? ⟨g, k, none⟩ = some x ∧ O2 w B x (ysss.getD k []) := by
  obtain ⟨xs, h1, h2⟩ := h
  obtain ⟨g, cap, e, hg, _⟩ := fam_block h1 (by omega)
  simp only [Value.slice.injEq] at e
  have hxl : xs.length = ysss.length := by have := h1.1; omega
  refine ⟨g, xs.getD k nilV, e.1, e.2.1, fam_cell h1 hg ?_, h2 k hk⟩
  rw [List.getD_eq_getElem?_getD, List.getElem?_eq_getElem (by omega)]
  rfl
theorem getD_snoc {α : Type} (xs : List α) (x d : α) (k : Nat) : (xs ++ [x]).getD k d = if k < xs.length then xs.getD k d else if k = xs.length then x else d := by
  simp only [List.getD_eq_getElem?_getD]
  by_cases h : k < xs.length
  · rw [if_pos h, List.getElem?_append_left h]
  · rw [if_neg h, List.getElem?_append_right (by omega)]
    by_cases e : k = xs.length
    · rw [if_pos e, e, Nat.sub_self]; rfl
    · rw [if_neg e, List.getElem?_eq_none (by simp; omega)]; rfl
theorem infoL1 : (Tryd.prog.info? 23).map (fun i => (i.zero, i.size, i.bytes)) = some (some nilV, 1, 24) := by kernel_rfl
theorem infoL2 : (Tryd.prog.info? 37).map (fun i => (i.zero, i.size, i.bytes)) = some (some nilV, 1, 24) := by kernel_rfl
/-- One more list. -/
theorem app_lst {w W : World} {B : Nat} {v u : Value} {yss : List (List Int)} {ys : List Int} (h : O2 w B v yss) (hb : Below w.heap.size w W) (hB : B ≤ w.heap.size) (hu : OwL W B u ys) (hl : yss.length ≤ 100000) :
    ∃ g cap w3, (AppS #[37, 37] 37 #[v, .slice (some ⟨W.heap.size, 0, none⟩) 1 1]).run Tryd.prog (W.alloc (.cells #[u] 23)) = .ok (.slice (some ⟨g, 0, none⟩) (yss.length + 1) cap) w3 ∧ O2 w3 B (.slice (some ⟨g, 0, none⟩) (yss.length + 1) cap) (yss ++ [ys]) ∧ ∀ S, Below B S W → Below B S w3 := by
  obtain ⟨xs, h1, h2⟩ := h
  obtain ⟨a, c, hua⟩ := hu.form
  have hA : Below W.heap.size W (W.alloc (.cells #[u] 23)) := (Below.refl _ _).alloc (Nat.le_refl _) _
  have hbs := hb.size
  obtain ⟨g, cap, w3, r1, r2, r3, r4⟩ := app_row Tryd.underlying37 infoL1 rfl (by decide) h1 hb hB 1 #[u] rfl (by intro x hx; simp at hx; subst hx; rw [hua]; rfl) (by decide) (by omega) (by decide)
  have h1A : (W.alloc (.cells #[u] 23)).ownsRow B 23 1 v yss.length xs := owns_below2 h1 (hb.trans (hA.mono hbs))
  have hxl : xs.length = yss.length := by have := h1.1; omega
  refine ⟨g, cap, w3, r1, ⟨xs ++ [u], ?_, fun k hk => ?_⟩, fun S hS => (hS.alloc (by omega) _).grown r3 (by simp; omega) (fun k hk => (h1.lt k hk).1)⟩
  · rw [List.length_append]
    exact r2
  · rw [List.length_append, List.length_singleton] at hk
    rw [getD_snoc, getD_snoc, hxl]
    by_cases e : k < yss.length
    · rw [if_pos e, if_pos e]
      have h3 := ((h2 k e).below hb).below hA
      exact h3.grown r3 (fun g' e' => owns_two h3 h1A (by decide) e')
    · rw [if_neg e, if_neg e, if_pos (by omega), if_pos (by omega)]
      have h3 := hu.below hA
      exact h3.grown r3 (fun g' e' => owns_two h3 h1A (by decide) e')
theorem app_lls {w W : World} {B : Nat} {v u : Value} {ysss : List (List (List Int))} {yss : List (List Int)} (h : O3 w B v ysss) (hb : Below w.heap.size w W) (hB : B ≤ w.heap.size) (hu : O2 W B u yss) (hl : ysss.length ≤ 100000) :
    ∃ g cap w3, (AppS #[27, 27] 27 #[v, .slice (some ⟨W.heap.size, 0, none⟩) 1 1]).run Tryd.prog (W.alloc (.cells #[u] 37)) = .ok (.slice (some ⟨g, 0, none⟩) (ysss.length + 1) cap) w3 ∧ O3 w3 B (.slice (some ⟨g, 0, none⟩) (ysss.length + 1) cap) (ysss ++ [yss]) ∧ (∀ S, Below B S W → Below B S w3) ∧ ∀ (q : Nat) (c : Array Value) (ty : TypeId), W.heap[q]? = some (Obj.cells c ty) → ty ≠ 37 → w3.heap[q]? = some (Obj.cells c ty) := by
  obtain ⟨xs, h1, h2⟩ := h
  obtain ⟨a, c, hua⟩ := hu.form
  have hA : Below W.heap.size W (W.alloc (.cells #[u] 37)) := (Below.refl _ _).alloc (Nat.le_refl _) _
  have hbs := hb.size
  obtain ⟨g, cap, w3, r1, r2, r3, r4⟩ := app_row Tryd.underlying27 infoL2 rfl (by decide) h1 hb hB 1 #[u] rfl (by intro x hx; simp at hx; subst hx; rw [hua]; rfl) (by decide) (by omega) (by decide)
  have h1A : (W.alloc (.cells #[u] 37)).ownsRow B 37 1 v ysss.length xs := owns_below2 h1 (hb.trans (hA.mono hbs))
  have hxl : xs.length = ysss.length := by have := h1.1; omega
  refine ⟨g, cap, w3, r1, ⟨xs ++ [u], ?_, fun k hk => ?_⟩, fun S hS => (hS.alloc (by omega) _).grown r3 (by simp; omega) (fun k hk => (h1.lt k hk).1), fun q c ty hq hne => ?_⟩
  · rw [List.length_append]
    exact r2
  · rw [List.length_append, List.length_singleton] at hk
    rw [getD_snoc, getD_snoc, hxl]
    by_cases e : k < ysss.length
    · rw [if_pos e, if_pos e]
      exact (((h2 k e).below hb).below hA).grown r3 h1A rfl (by decide) (by decide)
    · rw [if_neg e, if_neg e, if_pos (by omega), if_pos (by omega)]
      exact (hu.below hA).grown r3 h1A rfl (by decide) (by decide)
  · have hqA := (hA.block q (Array.getElem?_eq_some_iff.1 hq).1).trans hq
    exact (grown_block r3 (Array.getElem?_eq_some_iff.1 hqA).1 (own_type h1A hqA (fun e => hne e.symm))).trans hqA

/-- What is told of a thread's sets. -/
def tellS (S : Nat → Nat → Nat) (n : Nat) : List (List Int) := (List.range n).map fun j => lstP (has (S j)) 256
theorem tellS_len (S : Nat → Nat → Nat) (n : Nat) : (tellS S n).length = n := by simp [tellS]
theorem tellS_snoc (S : Nat → Nat → Nat) (n : Nat) : tellS S (n + 1) = tellS S n ++ [lstP (has (S n)) 256] := by simp [tellS, List.range_succ]
theorem tellS_at {S : Nat → Nat → Nat} {n j : Nat} (hj : j < n) : (tellS S n).getD j [] = lstP (has (S j)) 256 := by simp [tellS, List.getD, hj]

section
attribute [local go_sem ↓] appS_eq
set_option maxRecDepth 100000 in
set_option maxHeartbeats 6400000 in
theorem told_no (w : World) (fv : Value) (ca : Option Addr) (n cc : Nat) (wa : Option Addr) (m wc : Nat) (lk rg x y z : Int) (hx : x ≠ 0) (HC : Hid (∀ W, Below w.heap.size w W → Calls Tryd.prog 41 #[prgV ca n cc wa m wc lk rg] W fun e w' => e = .returned (ints3 x y z) ∧ Below W.heap.size W w')) :
    Calls Tryd.prog 27 #[prgV ca n cc wa m wc lk rg, fv] w fun e w' => e = .returned (.tuple #[nilV, ints3 x y z]) ∧ Below w.heap.size w w' := by
  have hx0 : (x != 0) = true := by simpa using hx
  have HB : Hid (Below w.heap.size w ((w.alloc (.cells #[.slice ca n cc, .slice wa m wc, .int .i64 lk, .int .i64 rg] 25)).alloc (.cells #[.int .i64 0, .int .i64 0, .int .i64 0] 30))) := below_two w _ _
  go_enter Tryd.func27, Tryd.ntmps27
  go_wp2_with fail
  refine Calls.mono (HC.out _ HB.out) ?_
  rintro e w2 ⟨rfl, hb2⟩
  have h2 := HB.out.trans (hb2.mono (by simp; omega))
  have hr : w2.heap[w.heap.size + 1]? = some (.cells #[.int .i64 0, .int .i64 0, .int .i64 0] 30) := (hb2.block (w.heap.size + 1) (by simp)).trans (by
    have := heap_alloc_new (w.alloc (.cells #[.slice ca n cc, .slice wa m wc, .int .i64 lk, .int .i64 rg] 25)) (.cells #[.int .i64 0, .int .i64 0, .int .i64 0] 30)
    rwa [World.size_alloc] at this)
  have hr2 : ∀ o, (w2.alloc o).heap[w.heap.size + 1]? = some (.cells #[.int .i64 0, .int .i64 0, .int .i64 0] 30) := fun o => box_later hr o
  have c0 := fun o => box_cell (i := 0) (hr2 o) rfl
  have c1 := fun o => box_cell (i := 1) (hr2 o) rfl
  have c2 := fun o => box_cell (i := 2) (hr2 o) rfl
  have f0 := fun o => box_free (i := 0) (hr2 o)
  have f1 := fun o => box_free (i := 1) (hr2 o)
  have f2 := fun o => box_free (i := 2) (hr2 o)
  have H2 : Hid (∀ o, Below w.heap.size w (w2.alloc o) ∧ (w2.alloc o).heap[w.heap.size + 1]? = some (.cells #[.int .i64 0, .int .i64 0, .int .i64 0] 30)) := fun o => ⟨h2.alloc h2.size o, hr2 o⟩
  clear hb2 hr hr2 h2
  go_wp2_with fail
  go_region
  all_goals go_wp2
  all_goals
    obtain ⟨g1, g2⟩ := H2.out (.cells #[.int .i64 x, .int .i64 y, .int .i64 z] 30)
    have hs : (((((w2.alloc (.cells #[.int .i64 x, .int .i64 y, .int .i64 z] 30)).setCell ⟨w.heap.size + 1, 0, none⟩ (.int .i64 x)).setCell ⟨w.heap.size + 1, 1, none⟩ (.int .i64 y)).setCell ⟨w.heap.size + 1, 2, none⟩ (.int .i64 z))).heap[w.heap.size + 1]? = some (.cells #[.int .i64 x, .int .i64 y, .int .i64 z] 30) := (heap_set_same (heap_set_same (heap_set_same g2))).trans rfl
    have hb := ((g1.setCell (p := ⟨w.heap.size + 1, 0, none⟩) (by show w.heap.size ≤ w.heap.size + 1; omega) (.int .i64 x)).setCell (p := ⟨w.heap.size + 1, 1, none⟩) (by show w.heap.size ≤ w.heap.size + 1; omega) (.int .i64 y)).setCell (p := ⟨w.heap.size + 1, 2, none⟩) (by show w.heap.size ≤ w.heap.size + 1; omega) (.int .i64 z)
    obtain ⟨V, hV⟩ : ∃ V, ((((w2.alloc (.cells #[.int .i64 x, .int .i64 y, .int .i64 z] 30)).setCell ⟨w.heap.size + 1, 0, none⟩ (.int .i64 x)).setCell ⟨w.heap.size + 1, 1, none⟩ (.int .i64 y)).setCell ⟨w.heap.size + 1, 2, none⟩ (.int .i64 z)) = V := ⟨_, rfl⟩
    rw [hV] at hs hb ⊢
    have t0 : V.drew.cell? ⟨w.heap.size + 1, 0, none⟩ = _ := box_cell (i := 0) hs rfl
    have t1 : V.drew.cell? ⟨w.heap.size + 1, 1, none⟩ = _ := box_cell (i := 1) hs rfl
    have t2 : V.drew.cell? ⟨w.heap.size + 1, 2, none⟩ = _ := box_cell (i := 2) hs rfl
    refine bodyPost_ret (v := .tuple #[nilV, ints3 x y z]) ?_ rfl ⟨rfl, hb.drew⟩
    simp [results, Tryd.results27, go_sem, t0, t1, t2]

set_option maxRecDepth 100000 in
set_option maxHeartbeats 6400000 in
theorem told_yes (w : World) (fid : Nat) (caps : Array Value) (hfn : ∀ (xs : Array Value) (w : World), (callFunc fid xs).run Tryd.prog w = .ok (.enter fid xs) w) (ca : Option Addr) (n cc : Nat) (wa : Option Addr) (m wc : Nat) (lk rg : Int) (A : Nat → Option Addr) (L C : Nat → Nat) (X : Nat → Nat → Nat → Int) (N : Nat → Nat) (Q : Nat → (Nat → Nat → Nat) → Prop) (hn : n ≤ 4) (hN : ∀ t, t < n → N t ≤ 1001) (hp : PIn w ca n A L C X) (hT : TabZ w)
    (HC : Hid (∀ W, Below w.heap.size w W → Calls Tryd.prog 41 #[prgV ca n cc wa m wc lk rg] W fun e w' => e = .returned (ints3 0 0 0) ∧ Below W.heap.size W w'))
    (HFD : Hid (∀ V, Below w.heap.size w V → ∀ t, t < n → Calls Tryd.prog fid (#[.slice (A t) (L t) (C t)] ++ caps) V fun e w' => ∃ sb S, e = .returned (.slice (some ⟨sb, 0, none⟩) (N t) (N t)) ∧ RowZ w' V.heap.size sb (N t) S ∧ (∀ j, W64 (S j)) ∧ Q t S ∧ Below V.heap.size V w')) :
    Calls Tryd.prog 27 #[prgV ca n cc wa m wc lk rg, .func (.func fid) #[] caps] w fun e w' => ∃ u ysss, e = .returned (.tuple #[u, ints3 0 0 0]) ∧ O3 w' w.heap.size u ysss ∧ ysss.length = n ∧ (∀ t, t < n → ∃ S, Q t S ∧ ysss.getD t [] = tellS S (N t)) ∧ Below w.heap.size w w' := by
  have HT := Hid.out (p := Hid _) hT
  have HP := Hid.out (p := Hid _) hp
  have HNN := Hid.out (p := Hid _) hN
  have HB : Hid (Below w.heap.size w ((w.alloc (.cells #[.slice ca n cc, .slice wa m wc, .int .i64 lk, .int .i64 rg] 25)).alloc (.cells #[.int .i64 0, .int .i64 0, .int .i64 0] 30))) := below_two w _ _
  clear hT hp hN
  go_enter Tryd.func27, Tryd.ntmps27
  go_wp2_with fail
  refine Calls.mono (HC.out _ HB.out) ?_
  rintro e w2 ⟨rfl, hb2⟩
  have h2 := HB.out.trans (hb2.mono (by simp; omega))
  have hr : w2.heap[w.heap.size + 1]? = some (.cells #[.int .i64 0, .int .i64 0, .int .i64 0] 30) := (hb2.block (w.heap.size + 1) (by simp)).trans (by
    have := heap_alloc_new (w.alloc (.cells #[.slice ca n cc, .slice wa m wc, .int .i64 lk, .int .i64 rg] 25)) (.cells #[.int .i64 0, .int .i64 0, .int .i64 0] 30)
    rwa [World.size_alloc] at this)
  have hpb : w2.heap[w.heap.size]? = some (.cells #[.slice ca n cc, .slice wa m wc, .int .i64 lk, .int .i64 rg] 25) := (hb2.block w.heap.size (by simp; omega)).trans (box_later (heap_alloc_new w _) _)
  have b0 := fun o => cell_up (box_cell (i := 0) hpb rfl) o
  have H2 : Hid (∀ o, Below w.heap.size w (w2.alloc o) ∧ (w2.alloc o).heap[w.heap.size + 1]? = some (.cells #[.int .i64 0, .int .i64 0, .int .i64 0] 30) ∧ (w2.alloc o).heap[w.heap.size]? = some (.cells #[.slice ca n cc, .slice wa m wc, .int .i64 lk, .int .i64 rg] 25)) := fun o => ⟨h2.alloc h2.size o, box_later hr o, box_later hpb o⟩
  clear hb2 hr h2 hpb
  go_wp2_with fail
  obtain ⟨V0, hV0⟩ : ∃ V, w2.alloc (.cells #[.int .i64 0, .int .i64 0, .int .i64 0] 30) = V := ⟨_, rfl⟩
  have H0 := H2.out (.cells #[.int .i64 0, .int .i64 0, .int .i64 0] 30)
  rw [hV0] at H0
  have HI0 : Hid (O3 V0 w.heap.size nilV [] ∧ (∀ t, t < 0 → ∃ S, Q t S ∧ ([] : List (List (List Int))).getD t [] = tellS S (N t)) ∧ Below w.heap.size w V0 ∧ V0.heap[w.heap.size + 1]? = some (.cells #[.int .i64 0, .int .i64 0, .int .i64 0] 30)) := ⟨o3_nil _ _, fun t h => absurd h (Nat.not_lt_zero _), H0.1, H0.2.1⟩
  rw [hV0]
  clear hV0 H0 H2 b0
  go_loopw [7, 22] (fun u x wr => ∃ (t : Nat) (ysss : List (List (List Int))), t ≤ n ∧ x = .int .i64 t ∧ ysss.length = t ∧ Hid (O3 wr w.heap.size u ysss ∧ (∀ q, q < t → ∃ S, Q q S ∧ ysss.getD q [] = tellS S (N q)) ∧ Below w.heap.size w wr ∧ wr.heap[w.heap.size + 1]? = some (.cells #[.int .i64 0, .int .i64 0, .int .i64 0] 30))) (fun _ x _ => n - (intOf x).toNat)
  case atStart => exact ⟨0, [], Nat.zero_le _, rfl, rfl, HI0.out⟩
  case round =>
    obtain ⟨t, ysss, ht, rfl, hyl, HI⟩ := hrel
    clear HI0
    by_cases htl : t < n
    · obtain ⟨cb, co, rfl, hc⟩ := (HP.out.below HI.out.2.2.1).code t htl
      have hti : (t : Int) < (n : Int) := by omega
      obtain ⟨k, hk⟩ : ∃ k, N t = k := ⟨_, rfl⟩
      have hk1 : k ≤ 1001 := by rw [← hk]; exact HNN.out t htl
      have HF := Hid.out (p := Hid _) (HFD.out wr HI.out.2.2.1 t htl)
      rw [hk] at HF
      have HKN := Hid.out (p := Hid _) hk
      have HYL := Hid.out (p := Hid _) hyl
      clear hk hyl
      go_wp2_with fail
      refine Calls.mono HF.out ?_
      rintro e w4 ⟨sb, S, rfl, hR4, hW4, hQ4, hb4⟩
      have H4 : Hid (RowZ w4 wr.heap.size sb k S ∧ (∀ j, W64 (S j)) ∧ Q t S ∧ Below wr.heap.size wr w4 ∧ TabZ w4 ∧ w.heap.size ≤ w4.heap.size) := ⟨hR4, hW4, hQ4, hb4, (TabZ.below HT.out HI.out.2.2.1).below hb4, Nat.le_trans HI.out.2.2.1.size hb4.size⟩
      have HK0 : Hid (O2 w4 w4.heap.size nilV (tellS S 0) ∧ Below w4.heap.size w4 w4) := ⟨o2_nil _ _, Below.refl _ _⟩
      clear hR4 hW4 hQ4 hb4 HF
      go_wp2_with fail
      go_loopw [10, 30] (fun u x wi => ∃ j : Nat, j ≤ k ∧ x = .int .i64 j ∧ Hid (O2 wi w4.heap.size u (tellS S j) ∧ Below w4.heap.size w4 wi)) (fun _ x _ => k - (intOf x).toNat)
      case atStart => exact ⟨0, Nat.zero_le _, rfl, HK0.out⟩
      case round =>
        obtain ⟨j, hj, rfl, HJ⟩ := hrel
        clear HK0
        by_cases hjk : j < k
        · obtain ⟨s0, s1, s2, s3⟩ := (H4.out.1.below HJ.out.2).sets j hjk
          have hji : (j : Int) < (k : Int) := by omega
          have hbA : Below wr.heap.size wr (wr.alloc (setO (S j))) := (Below.refl _ _).alloc (Nat.le_refl _) _
          have HLI : Hid (Calls Tryd.prog 48 #[setV (S j)] (wr.alloc (setO (S j))) fun e w' => ∃ u, e = .returned u ∧ OwL w' w4.heap.size u (lstP (has (S j)) 256) ∧ Below wr.heap.size wr w') := (list_any (S j) (H4.out.2.1 j) (wr.alloc (setO (S j))) ((H4.out.2.2.2.2.1.below HJ.out.2).below hbA)).mono fun e w' h => by
            obtain ⟨u, h1, h2, h3⟩ := h
            exact ⟨u, h1, h2.low (Nat.le_trans HJ.out.2.size hbA.size), hbA.trans (h3.mono hbA.size)⟩
          clear hbA
          go_wp2_with fail
          refine Calls.mono HLI.out ?_
          rintro e w5 ⟨u1, rfl, hu1, hb5⟩
          obtain ⟨l1, k1, hl1⟩ := hu1.form
          obtain ⟨n1, hn1⟩ : ∃ n, (lstP (has (S j)) 256).length = n := ⟨_, rfl⟩
          rw [hn1] at hl1
          obtain ⟨g9, cap, w6, r1, r2, r3⟩ := app_lst HJ.out.1 hb5 HJ.out.2.size hu1 (by rw [tellS_len]; omega)
          rw [← tellS_snoc] at r2
          obtain ⟨ua, uc, hu⟩ := HJ.out.1.form
          rw [hu] at r1
          rw [tellS_len] at r1 r2 hu
          have HX : Hid (O2 w6 w4.heap.size (.slice (some ⟨g9, 0, none⟩) (j + 1) cap) (tellS S (j + 1)) ∧ Below w4.heap.size w4 w6) := ⟨r2, r3 w4 (HJ.out.2.trans (hb5.mono HJ.out.2.size))⟩
          subst hu
          subst hl1
          clear r2 r3 hu1 hb5 s0 s1 s2 s3 HLI hn1
          go_wp2_with fail
          go_roundw
          case rel => exact ⟨j + 1, by omega, by go_num, HX.out⟩
          case measure => simp [intOf]; omega
        · obtain rfl : j = k := by omega
          obtain ⟨g9, cap, w6, r1, r2, r3, r4⟩ := app_lls HI.out.1 (H4.out.2.2.2.1.trans (HJ.out.2.mono H4.out.2.2.2.1.size)) HI.out.2.2.1.size (HJ.out.1.low H4.out.2.2.2.2.2) (by rw [HYL.out]; omega)
          obtain ⟨ua, uc, hu⟩ := HI.out.1.form
          rw [hu] at r1
          rw [HYL.out] at r1 r2 hu
          have hbM := H4.out.2.2.2.1.trans (HJ.out.2.mono H4.out.2.2.2.1.size)
          have HX : Hid (O3 w6 w.heap.size (.slice (some ⟨g9, 0, none⟩) (t + 1) cap) (ysss ++ [tellS S j]) ∧ (∀ q, q < t + 1 → ∃ S', Q q S' ∧ (ysss ++ [tellS S j]).getD q [] = tellS S' (N q)) ∧ Below w.heap.size w w6 ∧ w6.heap[w.heap.size + 1]? = some (.cells #[.int .i64 0, .int .i64 0, .int .i64 0] 30)) := by
            refine ⟨r2, fun q hq => ?_, r3 w (HI.out.2.2.1.trans (hbM.mono HI.out.2.2.1.size)), r4 _ _ _ ((hbM.block _ (Array.getElem?_eq_some_iff.1 HI.out.2.2.2).1).trans HI.out.2.2.2) (by decide)⟩
            by_cases e : q < t
            · obtain ⟨S', h1, h2⟩ := HI.out.2.1 q e
              refine ⟨S', h1, ?_⟩
              rw [getD_snoc, if_pos (by rw [HYL.out]; exact e)]
              exact h2
            · obtain rfl : q = t := by omega
              refine ⟨S, H4.out.2.2.1, ?_⟩
              rw [getD_snoc, if_neg (by rw [HYL.out]; omega), if_pos HYL.out.symm, HKN.out]
          have HLL : Hid ((ysss ++ [tellS S j]).length = t + 1) := by
            show _ = _
            rw [List.length_append, HYL.out]
            rfl
          obtain ⟨va, vc, hv⟩ := HJ.out.1.form
          rw [tellS_len] at hv
          subst hu
          subst hv
          clear r2 r3 r4 hbM
          go_wp2_with fail
          go_roundw
          case rel => exact ⟨t + 1, _, by omega, by go_num, HLL.out, HX.out⟩
          case measure => simp [intOf]; omega
    · obtain rfl : t = n := by omega
      have hfb := HI.out.2.2.2
      have c0 := box_cell (i := 0) hfb rfl
      have c1 := box_cell (i := 1) hfb rfl
      have c2 := box_cell (i := 2) hfb rfl
      have f0 := box_free (i := 0) hfb
      have f1 := box_free (i := 1) hfb
      have f2 := box_free (i := 2) hfb
      have HYL := Hid.out (p := Hid _) hyl
      clear hfb hyl
      go_wp2_with fail
      have hs : (((wr.setCell ⟨w.heap.size + 1, 0, none⟩ (.int .i64 0)).setCell ⟨w.heap.size + 1, 1, none⟩ (.int .i64 0)).setCell ⟨w.heap.size + 1, 2, none⟩ (.int .i64 0)).heap[w.heap.size + 1]? = some (.cells #[.int .i64 0, .int .i64 0, .int .i64 0] 30) := (heap_set_same (heap_set_same (heap_set_same HI.out.2.2.2))).trans rfl
      have hb := ((HI.out.2.2.1.setCell (p := ⟨w.heap.size + 1, 0, none⟩) (by show w.heap.size ≤ w.heap.size + 1; omega) (.int .i64 0)).setCell (p := ⟨w.heap.size + 1, 1, none⟩) (by show w.heap.size ≤ w.heap.size + 1; omega) (.int .i64 0)).setCell (p := ⟨w.heap.size + 1, 2, none⟩) (by show w.heap.size ≤ w.heap.size + 1; omega) (.int .i64 0)
      have ho : ∀ g, g ≠ w.heap.size + 1 → (((wr.setCell ⟨w.heap.size + 1, 0, none⟩ (.int .i64 0)).setCell ⟨w.heap.size + 1, 1, none⟩ (.int .i64 0)).setCell ⟨w.heap.size + 1, 2, none⟩ (.int .i64 0)).heap[g]? = wr.heap[g]? := fun g hg => by
        have e : ∀ (Z : World) (q : Nat) (u : Value), (Z.setCell ⟨w.heap.size + 1, q, none⟩ u).heap[g]? = Z.heap[g]? := fun Z q u => Below.heap_setCell _ _ _ _ (fun x => hg (by simpa using x))
        rw [e, e, e]
      have hO := HI.out.1.far HI.out.2.2.2 (by decide) (by decide) (by decide) ho
      obtain ⟨V, hV⟩ : ∃ V, ((wr.setCell ⟨w.heap.size + 1, 0, none⟩ (.int .i64 0)).setCell ⟨w.heap.size + 1, 1, none⟩ (.int .i64 0)).setCell ⟨w.heap.size + 1, 2, none⟩ (.int .i64 0) = V := ⟨_, rfl⟩
      rw [hV] at hs hb hO ⊢
      have t0 : V.cell? ⟨w.heap.size + 1, 0, none⟩ = _ := box_cell (i := 0) hs rfl
      have t1 : V.cell? ⟨w.heap.size + 1, 1, none⟩ = _ := box_cell (i := 1) hs rfl
      have t2 : V.cell? ⟨w.heap.size + 1, 2, none⟩ = _ := box_cell (i := 2) hs rfl
      refine bodyPost_ret (v := .tuple #[u7, ints3 0 0 0]) ?_ rfl ⟨u7, ysss, rfl, hO, HYL.out, HI.out.2.1, hb⟩
      simp [results, Tryd.results27, go_sem, t0, t1, t2]
end

end Go.Proofs.YtocfocjnnjdcgaaDoor
