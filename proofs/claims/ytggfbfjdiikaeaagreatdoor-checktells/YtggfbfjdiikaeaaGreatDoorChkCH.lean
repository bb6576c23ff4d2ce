/-
  The program's Read.
  The program's Check, which is Read and a field.
  The law of programs that may be.
-/
import Derived.Test.YtggfbfjdiikaeaaGreatDoorSqW
import Derived.Test.YtggfbfjdiikaeaaGreatDoorPlain
namespace Go.Proofs.YtggfbfjdiikaeaaGreatDoor
section
open Go.RowKit

theorem two_boxes (w : World) (o1 o2 : Obj) : ((w.alloc o1).alloc o2).heap[w.heap.size]? = some o1 ∧ ((w.alloc o1).alloc o2).heap[w.heap.size + 1]? = some o2 := by
  have h1 := heap_alloc_new w o1
  have h2 := heap_alloc_new (w.alloc o1) o2
  rw [World.size_alloc] at h2
  exact ⟨(((Below.refl (w.heap.size + 1) (w.alloc o1)).alloc (by simp) o2).block w.heap.size (by omega)).trans h1, h2⟩
theorem row_keep {w w' : World} {B n sz : Nat} {T : TypeId} {v : Value} {xs : List Value} (h : w.ownsRow B T sz v n xs) (hk : ∀ (g : Nat) (c : Array Value), w.heap[g]? = some (Obj.cells c T) → w'.heap[g]? = w.heap[g]?) : w'.ownsRow B T sz v n xs := fam_keeps h fun k hb => by
  rcases h.2 with ⟨h0, _⟩ | ⟨g, cap, cur, hv, _, hh, _⟩
  · rw [h0] at hb; simp [Value.ownBlock] at hb
  · rw [hv] at hb
    have e : g = k := by simpa [Value.ownBlock] using hb
    subst e
    exact hk g cur hh
/-- Nodes, where blocks of other types alone turn. -/
theorem NodesIn.keepT {w w' : World} {B : Nat} {v : Value} {rows : List Row} (h : NodesIn w B v rows) (h1 : ∀ (g : Nat) (c : Array Value), w.heap[g]? = some (Obj.cells c 60) → w'.heap[g]? = w.heap[g]?) (h2 : ∀ (g : Nat) (c : Array Value), w.heap[g]? = some (Obj.cells c 3) → w'.heap[g]? = w.heap[g]?) : NodesIn w' B v rows := by
  obtain ⟨ys, a1, a2, a3⟩ := h
  exact ⟨ys, row_keep a1 h1, a2, fun y hy => row_keep (a3 y hy) h2⟩
/-- What Read tells: a fault, or nodes and of what their names are. -/
def RdQ (B : Nat) (ks : List Nd) (R : Except (Int × Int) (List Int)) (e : Ending) (w' : World) : Prop := match R with
  | .error f => e = .returned (.tuple #[.agg #[nilV, nilV], .agg #[.int .i64 f.1, .int .i64 0, .int .i64 f.2]])
  | .ok us => ∃ la lc ua uc, e = .returned (.tuple #[.agg #[.slice la (rowsP ks).length lc, .slice ua us.length uc], .agg #[.int .i64 0, .int .i64 0, .int .i64 0]]) ∧ NdsR w' la (rowsP ks) ∧ IIn w' ua us.length (fun j => us.getD j 0) ∧ (∀ b o, ua = some ⟨b, o, none⟩ → B ≤ b)
set_option maxRecDepth 100000 in
set_option maxHeartbeats 1600000 in
theorem read_bad (s : ByteArray) (w : World) (hE : LEnv w) (c a : Int) (hs : parseT s.data.toList = ([], (c, a))) (hc0 : c ≠ 0) (ks : List Nd) :
    Calls Tryz.prog 13 #[.string s] w fun e w' => RdQ w.heap.size ks (.error (c, a)) e w' ∧ Below w.heap.size w w' := by
  have hc : (c != 0) = true := by simpa using hc0
  have HS := Hid.out (p := Hid _) hs
  have hA : Below w.heap.size w ((w.alloc (.cells #[nilV, nilV] 47)).alloc (.cells #[.int .i64 0, .int .i64 0, .int .i64 0] 25)) := ((Below.refl _ _).alloc (Nat.le_refl _) _).alloc (by simp) _
  have HE := Hid.out (p := Hid _) (hE.below hA)
  clear hs hc0 hE hA
  go_enter Tryz.func13, Tryz.ntmps13
  go_wp2_with fail
  refine Calls.mono (parse_any s _ HE.out) ?_
  rintro e w1 ⟨⟨v, rfl, hown⟩, hb1⟩
  rw [HS.out] at hown ⊢
  obtain ⟨la, lc, rfl, -⟩ := hown.read
  obtain ⟨hz0, hz1⟩ := two_boxes w (.cells #[nilV, nilV] 47) (.cells #[.int .i64 0, .int .i64 0, .int .i64 0] 25)
  have hx0 := (hb1.block w.heap.size (by simp; omega)).trans hz0
  have hx1 := (hb1.block (w.heap.size + 1) (by simp)).trans hz1
  have p0 := box_cell (i := 0) hx0 rfl
  have p1 := box_cell (i := 1) hx0 rfl
  have pf := fun j => box_free (i := j) hx0
  have q0 := box_cell (i := 0) hx1 rfl
  have q1 := box_cell (i := 1) hx1 rfl
  have q2 := box_cell (i := 2) hx1 rfl
  have qf := fun j => box_free (i := j) hx1
  have hl1 : w.heap.size + 1 < w1.heap.size := Nat.lt_of_lt_of_le (by simp) hb1.size
  have hl0 : w.heap.size < w1.heap.size := by omega
  have HB1 : Hid (Below w.heap.size w w1) := (((Below.refl w.heap.size w).alloc (Nat.le_refl _) _).alloc (by simp) _).trans (hb1.mono (by simp; omega))
  clear hx0 hx1 hz0 hz1 hown hb1
  simp only at p0 p1 q0 q1 q2 ⊢
  go_wp2_with fail
  go_region
  go_wp2_with fail
  refine bodyPost_ret (v := .tuple #[.agg #[nilV, nilV], .agg #[.int .i64 c, .int .i64 0, .int .i64 a]]) (by simp [results, Tryz.results13, go_sem, p0, p1, q0, q1, q2, hl0, hl1]) rfl ⟨rfl, ?_⟩
  exact ((((((HB1.out.setCell (Nat.le_refl _) _).setCell (Nat.le_refl _) _).setCell (Nat.le_succ _) _).setCell (Nat.le_succ _) _).setCell (Nat.le_succ _) _).alloc (by have := HB1.out.size; simp [World.setCell]; omega) _).drew
set_option maxRecDepth 100000 in
set_option maxHeartbeats 1600000 in
theorem read_good (s : ByteArray) (w : World) (hE : LEnv w) {ks : List Nd} (hs : parseT s.data.toList = (rowsP ks, (0, 0))) (hw : WfP ks) (hsz : ndsSize ks + 1 ≤ 600) (hne : ∀ f, checkC ks = .error f → f.1 ≠ 0) :
    Calls Tryz.prog 13 #[.string s] w fun e w' => RdQ w.heap.size ks (checkC ks) e w' ∧ Below w.heap.size w w' := by
  have HS := Hid.out (p := Hid _) hs
  have hA : Below w.heap.size w ((w.alloc (.cells #[nilV, nilV] 47)).alloc (.cells #[.int .i64 0, .int .i64 0, .int .i64 0] 25)) := ((Below.refl _ _).alloc (Nat.le_refl _) _).alloc (by simp) _
  have HE := Hid.out (p := Hid _) (hE.below hA)
  have HCA : Hid (∀ (W : World) (a : Option Addr) (c : Nat), NdsR W a (rowsP ks) → Calls Tryz.prog 24 #[.slice a (rowsP ks).length c] W fun e w' => ChkQ W.heap.size (checkC ks) e w' ∧ Below W.heap.size W w') := fun W a c h => checkAll_any W a c h hw hsz (txt_prog hw)
  obtain ⟨R, hR⟩ : ∃ R, R = checkC ks := ⟨_, rfl⟩
  rw [← hR] at HCA hne ⊢
  have HNE : Hid (∀ f, R = .error f → f.1 ≠ 0) := hne
  clear hs hE hA hw hsz hR hne
  go_enter Tryz.func13, Tryz.ntmps13
  go_wp2_with fail
  refine Calls.mono (parse_any s _ HE.out) ?_
  rintro e w1 ⟨⟨v, rfl, hown⟩, hb1⟩
  rw [HS.out] at hown ⊢
  obtain ⟨la, lc, rfl, hr1⟩ := hown.read
  simp only at hr1 ⊢
  obtain ⟨hz0, hz1⟩ := two_boxes w (.cells #[nilV, nilV] 47) (.cells #[.int .i64 0, .int .i64 0, .int .i64 0] 25)
  have hx0 := (hb1.block w.heap.size (by simp; omega)).trans hz0
  have hx1 := (hb1.block (w.heap.size + 1) (by simp)).trans hz1
  have hl1 : w.heap.size + 1 < w1.heap.size := Nat.lt_of_lt_of_le (by simp) hb1.size
  have HB1 : Hid (Below w.heap.size w w1) := (((Below.refl w.heap.size w).alloc (Nat.le_refl _) _).alloc (by simp) _).trans (hb1.mono (by simp; omega))
  have hB2 := (Below.refl w1.heap.size w1).alloc (Nat.le_refl _) (.cells #[.int .i64 0, .int .i64 0, .int .i64 0] 25)
  have HC2 : Hid (Calls Tryz.prog 24 #[.slice la (rowsP ks).length lc] (w1.alloc (.cells #[.int .i64 0, .int .i64 0, .int .i64 0] 25)) fun e w' => ChkQ (w1.heap.size + 1) R e w' ∧ Below (w1.heap.size + 1) (w1.alloc (.cells #[.int .i64 0, .int .i64 0, .int .i64 0] 25)) w') := by
    have := HCA.out _ la lc (hr1.below hB2)
    rw [World.size_alloc] at this
    exact this
  have HX : Hid (∀ W', Below (w1.heap.size + 1) (w1.alloc (.cells #[.int .i64 0, .int .i64 0, .int .i64 0] 25)) W' → W'.heap[w.heap.size]? = some (.cells #[nilV, nilV] 47) ∧ W'.heap[w.heap.size + 1]? = some (.cells #[.int .i64 0, .int .i64 0, .int .i64 0] 25) ∧ W'.heap[w1.heap.size]? = some (.cells #[.int .i64 0, .int .i64 0, .int .i64 0] 25) ∧ Below w.heap.size w W') := fun W' h => ⟨(h.block w.heap.size (by omega)).trans ((hB2.block w.heap.size (by omega)).trans hx0), (h.block (w.heap.size + 1) (by omega)).trans ((hB2.block (w.heap.size + 1) hl1).trans hx1), (h.block w1.heap.size (by omega)).trans (heap_alloc_new w1 _), HB1.out.trans ((hB2.mono (by omega)).trans (h.mono (by omega)))⟩
  have HNR : Hid (∀ W' W'', Below (w1.heap.size + 1) (w1.alloc (.cells #[.int .i64 0, .int .i64 0, .int .i64 0] 25)) W' → (∀ g, g ≠ w.heap.size → g ≠ w.heap.size + 1 → g ≠ w1.heap.size → W''.heap[g]? = W'.heap[g]?) → NdsR W'' la (rowsP ks)) := fun W' W'' h hW => by
    have hx := HX.out W' h
    have h9 : ∀ T, T ≠ 47 → T ≠ 25 → ∀ (g : Nat) (c : Array Value), w1.heap[g]? = some (Obj.cells c T) → W''.heap[g]? = w1.heap[g]? := fun T n1 n2 g c hg => by
      have hlt := heap_ltD hg
      have e1 : W'.heap[g]? = w1.heap[g]? := (h.block g (by omega)).trans (hB2.block g hlt)
      refine (hW g (fun e => ?_) (fun e => ?_) (fun e => by omega)).trans e1
      · rw [e, hx0, Option.some.injEq, Obj.cells.injEq] at hg
        exact n1 hg.2.1.symm
      · rw [e, hx1, Option.some.injEq, Obj.cells.injEq] at hg
        exact n2 hg.2.1.symm
    obtain ⟨la', lc', e, h5⟩ := (hown.keepT (h9 _ (by decide) (by decide)) (h9 _ (by decide) (by decide))).read
    simp only [Value.slice.injEq] at e
    rw [e.1]
    exact h5
  obtain ⟨n, hn⟩ : ∃ n, n = (rowsP ks).length := ⟨_, rfl⟩
  have HNN := Hid.out (p := Hid _) hn
  rw [← hn] at HC2 ⊢
  clear hown hb1 hr1 hx0 hx1 hz0 hz1 hB2 hn HCA HS
  go_wp2_with fail
  refine Calls.mono HC2.out ?_
  rintro e w2 ⟨hq, hb2⟩
  obtain ⟨hx0, hx1, hx2, hB⟩ := HX.out w2 hb2
  have p0 := box_cell (i := 0) hx0 rfl
  have p1 := box_cell (i := 1) hx0 rfl
  have pf := fun j => box_free (i := j) hx0
  have q0 := box_cell (i := 0) hx1 rfl
  have q1 := box_cell (i := 1) hx1 rfl
  have q2 := box_cell (i := 2) hx1 rfl
  have qf := fun j => box_free (i := j) hx1
  have r0 := box_cell (i := 0) hx2 rfl
  have r1 := box_cell (i := 1) hx2 rfl
  have r2 := box_cell (i := 2) hx2 rfl
  have rf := fun j => box_free (i := j) hx2
  have hl2 := lt_of_cell r0
  have HB2 := Hid.out (p := Hid _) hB
  have hne0 : ¬ w1.heap.size = w.heap.size := by omega
  have hne1 : ¬ w1.heap.size = w.heap.size + 1 := by omega
  have hne2 : ¬ w.heap.size = w1.heap.size := by omega
  have hne3 : ¬ w.heap.size + 1 = w1.heap.size := by omega
  cases R with
  | error f =>
    obtain rfl : e = _ := hq
    obtain ⟨f1, f2⟩ := f
    clear hb2 hx0 hx1 hx2 hB HC2 HX HNR
    simp only
    have hc : (f1 != 0) = true := by simpa using HNE.out (f1, f2) rfl
    clear HNE
    go_wp2_with fail
    go_region
    go_wp2_with fail
    refine bodyPost_ret (v := .tuple #[.agg #[nilV, nilV], .agg #[.int .i64 f1, .int .i64 0, .int .i64 f2]]) (by simp [results, Tryz.results13, go_sem, p0, p1, q0, q1, q2]) rfl ⟨rfl, ?_⟩
    have ha : w.heap.size ≤ w1.heap.size := by omega
    exact ((((((((HB2.out.setCell ha _).setCell ha _).setCell ha _).setCell (Nat.le_refl _) _).setCell (Nat.le_refl _) _).setCell (Nat.le_succ _) _).setCell (Nat.le_succ _) _).setCell (Nat.le_succ _) _).drew
  | ok us =>
    obtain ⟨ua, uc, rfl, hi, hul⟩ := hq
    have HI : Hid (∀ W', (∀ g, g ≠ w.heap.size → g ≠ w.heap.size + 1 → g ≠ w1.heap.size → W'.heap[g]? = w2.heap[g]?) → IIn W' ua us.length (fun j => us.getD j 0)) := fun W' hW q hq => by
      obtain ⟨ub, uo, e1, e2⟩ := hi q hq
      refine ⟨ub, uo, e1, ?_⟩
      have h9 := hul ub uo e1
      exact (World.cell?_of_block (hW ub (by omega) (by omega) (by omega))).trans e2
    have HUL : Hid (∀ b o, ua = some ⟨b, o, none⟩ → w.heap.size ≤ b) := fun b o hu => by
      have h9 := hul b o hu
      omega
    obtain ⟨m, hm⟩ : ∃ m, m = us.length := ⟨_, rfl⟩
    have HM := Hid.out (p := Hid _) hm
    rw [← hm] at HI ⊢
    have HN2 : Hid (∀ W'', (∀ g, g ≠ w.heap.size → g ≠ w.heap.size + 1 → g ≠ w1.heap.size → W''.heap[g]? = w2.heap[g]?) → NdsR W'' la (rowsP ks)) := fun W'' hW => HNR.out w2 W'' hb2 hW
    clear hb2 hx0 hx1 hx2 hB HC2 HX hi hm hul HNE HNR
    go_wp2_with fail
    have ha : w.heap.size ≤ w1.heap.size := by omega
    refine bodyPost_ret (v := .tuple #[.agg #[.slice la n lc, .slice ua m uc], .agg #[.int .i64 0, .int .i64 0, .int .i64 0]]) (by simp [results, Tryz.results13, go_sem, p0, p1, q0, q1, q2]) rfl ⟨⟨la, lc, ua, uc, by rw [← HM.out, ← HNN.out], ?_, ?_, HUL.out⟩, ?_⟩
    · exact HN2.out _ fun g h1 h2 h3 => (Below.heap_setCell _ _ _ _ h2).trans ((Below.heap_setCell _ _ _ _ h2).trans ((Below.heap_setCell _ _ _ _ h2).trans ((Below.heap_setCell _ _ _ _ h1).trans ((Below.heap_setCell _ _ _ _ h1).trans ((Below.heap_setCell _ _ _ _ h3).trans ((Below.heap_setCell _ _ _ _ h3).trans (Below.heap_setCell _ _ _ _ h3)))))))
    · rw [← HM.out]
      exact HI.out _ fun g h1 h2 h3 => (Below.heap_setCell _ _ _ _ h2).trans ((Below.heap_setCell _ _ _ _ h2).trans ((Below.heap_setCell _ _ _ _ h2).trans ((Below.heap_setCell _ _ _ _ h1).trans ((Below.heap_setCell _ _ _ _ h1).trans ((Below.heap_setCell _ _ _ _ h3).trans ((Below.heap_setCell _ _ _ _ h3).trans (Below.heap_setCell _ _ _ _ h3)))))))
    · exact (((((((HB2.out.setCell ha _).setCell ha _).setCell ha _).setCell (Nat.le_refl _) _).setCell (Nat.le_refl _) _).setCell (Nat.le_succ _) _).setCell (Nat.le_succ _) _).setCell (Nat.le_succ _) _
end

section
open Go.RowKit
set_option maxRecDepth 100000 in
set_option maxHeartbeats 1600000 in
theorem check_step (s : ByteArray) (w : World) (P : Option Addr → Nat → Nat → Option Addr → Nat → Nat → Int → Int → Int → World → Prop) (HR : Hid (Calls Tryz.prog 13 #[.string s] (w.alloc (.cells #[.int .i64 0, .int .i64 0, .int .i64 0] 25)) fun e w' => (∃ xa xn xc ya yn yc c b a, e = .returned (.tuple #[.agg #[.slice xa xn xc, .slice ya yn yc], .agg #[.int .i64 c, .int .i64 b, .int .i64 a]]) ∧ P xa xn xc ya yn yc c b a w') ∧ Below (w.alloc (.cells #[.int .i64 0, .int .i64 0, .int .i64 0] 25)).heap.size (w.alloc (.cells #[.int .i64 0, .int .i64 0, .int .i64 0] 25)) w')) :
    Calls Tryz.prog 5 #[.string s] w fun e w' => (∃ xa xn xc ya yn yc c b a w1, e = .returned (.tuple #[.slice ya yn yc, .agg #[.int .i64 c, .int .i64 b, .int .i64 a]]) ∧ P xa xn xc ya yn yc c b a w1 ∧ ∀ g, g < w1.heap.size → g ≠ w.heap.size → w'.heap[g]? = w1.heap[g]?) ∧ Below w.heap.size w w' := by
  go_enter Tryz.func5, Tryz.ntmps5
  go_wp2_with fail
  refine Calls.mono HR.out ?_
  rintro e w1 ⟨⟨xa, xn, xc, ya, yn, yc, c, b, a, rfl, hp⟩, hb1⟩
  have hx := (hb1.block w.heap.size (by simp)).trans (heap_alloc_new w _)
  have p0 := box_cell (i := 0) hx rfl
  have p1 := box_cell (i := 1) hx rfl
  have p2 := box_cell (i := 2) hx rfl
  have pf := fun j => box_free (i := j) hx
  have hl1 : w.heap.size < w1.heap.size := Nat.lt_of_lt_of_le (by simp) hb1.size
  have HB1 : Hid (Below w.heap.size w w1) := ((Below.refl w.heap.size w).alloc (Nat.le_refl _) _).trans (hb1.mono (by simp))
  have HP := Hid.out (p := Hid _) hp
  clear hx hb1 hp HR
  simp only at p0 p1 p2 ⊢
  go_wp2_with fail
  go_region
  go_wp2_with fail
  refine bodyPost_ret (v := .tuple #[.slice ya yn yc, .agg #[.int .i64 c, .int .i64 b, .int .i64 a]]) (by simp [results, Tryz.results5, go_sem, p0, p1, p2, hl1]) rfl ⟨⟨xa, xn, xc, ya, yn, yc, c, b, a, w1, rfl, HP.out, fun g h1 h2 => ?_⟩, ?_⟩
  · obtain ⟨V, hV⟩ : ∃ V, ((w1.setCell ⟨w.heap.size, 0, none⟩ (.int .i64 c)).setCell ⟨w.heap.size, 1, none⟩ (.int .i64 b)).setCell ⟨w.heap.size, 2, none⟩ (.int .i64 a) = V := ⟨_, rfl⟩
    have hs : V.heap.size = w1.heap.size := by rw [← hV]; simp [World.setCell]
    rw [hV]
    have hb : Below V.heap.size V (((V.alloc (.cells #[.slice xa xn xc, .slice ya yn yc] 47)).alloc (.cells #[.int .i64 c, .int .i64 b, .int .i64 a] 25)).drew) := (((Below.refl _ _).alloc (Nat.le_refl _) _).alloc (by simp) _).drew
    refine (hb.block g (by omega)).trans ?_
    rw [← hV, Below.heap_setCell _ _ _ _ h2, Below.heap_setCell _ _ _ _ h2, Below.heap_setCell _ _ _ _ h2]
  · exact (((((HB1.out.setCell (Nat.le_refl _) _).setCell (Nat.le_refl _) _).setCell (Nat.le_refl _) _).alloc (by have := HB1.out.size; simp [World.setCell]; omega) _).alloc (by have := HB1.out.size; simp [World.setCell]; omega) _).drew
theorem check_bad (s : ByteArray) (w : World) (hE : LEnv w) (c a : Int) (hs : parseT s.data.toList = ([], (c, a))) (hc0 : c ≠ 0) :
    Calls Tryz.prog 5 #[.string s] w fun e w' => ChkQ w.heap.size (.error (c, a)) e w' ∧ Below w.heap.size w w' := by
  have hA : Below w.heap.size w (w.alloc (.cells #[.int .i64 0, .int .i64 0, .int .i64 0] 25)) := (Below.refl _ _).alloc (Nat.le_refl _) _
  refine Calls.mono (check_step s w (fun xa xn xc ya yn yc x y z _ => ya = none ∧ yn = 0 ∧ yc = 0 ∧ x = c ∧ y = 0 ∧ z = a) (Calls.mono (read_bad s _ (hE.below hA) c a hs hc0 []) ?_)) ?_
  · rintro e w' ⟨he, hb⟩
    exact ⟨⟨none, 0, 0, none, 0, 0, c, 0, a, he, rfl, rfl, rfl, rfl, rfl, rfl⟩, hb⟩
  · rintro e w' ⟨⟨xa, xn, xc, ya, yn, yc, x, y, z, w1, he, ⟨rfl, rfl, rfl, rfl, rfl, rfl⟩, -⟩, hb⟩
    exact ⟨he, hb⟩
theorem check_good (s : ByteArray) (w : World) (hE : LEnv w) {ks : List Nd} (hs : parseT s.data.toList = (rowsP ks, (0, 0))) (hw : WfP ks) (hsz : ndsSize ks + 1 ≤ 600) (hne : ∀ f, checkC ks = .error f → f.1 ≠ 0) :
    Calls Tryz.prog 5 #[.string s] w fun e w' => ChkQ w.heap.size (checkC ks) e w' ∧ Below w.heap.size w w' := by
  have hA : Below w.heap.size w (w.alloc (.cells #[.int .i64 0, .int .i64 0, .int .i64 0] 25)) := (Below.refl _ _).alloc (Nat.le_refl _) _
  have hr := read_good s _ (hE.below hA) hs hw hsz hne
  cases hC : checkC ks with
  | error f =>
    rw [hC] at hr
    refine Calls.mono (check_step s w (fun xa xn xc ya yn yc x y z _ => ya = none ∧ yn = 0 ∧ yc = 0 ∧ x = f.1 ∧ y = 0 ∧ z = f.2) (Calls.mono hr ?_)) ?_
    · rintro e w' ⟨he, hb⟩
      exact ⟨⟨none, 0, 0, none, 0, 0, f.1, 0, f.2, he, rfl, rfl, rfl, rfl, rfl, rfl⟩, hb⟩
    · rintro e w' ⟨⟨xa, xn, xc, ya, yn, yc, x, y, z, w1, he, ⟨rfl, rfl, rfl, rfl, rfl, rfl⟩, -⟩, hb⟩
      exact ⟨he, hb⟩
  | ok us =>
    rw [hC] at hr
    refine Calls.mono (check_step s w (fun xa xn xc ya yn yc x y z W => yn = us.length ∧ x = 0 ∧ y = 0 ∧ z = 0 ∧ IIn W ya us.length (fun j => us.getD j 0) ∧ ∀ b o, ya = some ⟨b, o, none⟩ → w.heap.size < b) (Calls.mono hr ?_)) ?_
    · rintro e w' ⟨⟨la, lc, ua, uc, he, -, hi, hu⟩, hb⟩
      exact ⟨⟨la, _, lc, ua, _, uc, 0, 0, 0, he, rfl, rfl, rfl, rfl, hi, fun b o h => by have := hu b o h; rw [World.size_alloc] at this; omega⟩, hb⟩
    · rintro e w' ⟨⟨xa, xn, xc, ya, yn, yc, x, y, z, w1, he, ⟨rfl, rfl, rfl, rfl, hi, hu⟩, hk⟩, hb⟩
      refine ⟨⟨ya, yc, he, fun j hj => ?_, fun b o h => by have := hu b o h; omega⟩, hb⟩
      obtain ⟨b, o, e1, e2⟩ := hi j hj
      have hg := hu b o e1
      exact ⟨b, o, e1, (World.cell?_of_block (hk b (lt_of_cell e2) (by omega))).trans e2⟩
end

section
open Go.RowKit

set_option maxRecDepth 100000 in
set_option maxHeartbeats 1600000 in
theorem ct_no (s : ByteArray) (w : World) (c a : Int) (hc0 : c ≠ 0) (h1 : Calls Tryz.prog 5 #[.string s] w fun e w' => e = .returned (.tuple #[nilV, .agg #[.int .i64 c, .int .i64 0, .int .i64 a]]) ∧ Below w.heap.size w w')
    (h2 : ∀ W, Calls Tryz.prog 6 #[.string s] W fun e w' => (∃ p, e = .returned (.tuple #[.pointer p, .agg #[.int .i64 c, .int .i64 0, .int .i64 a]])) ∧ Below W.heap.size W w') :
    Calls Tryz.prog 3 #[.string s] w fun e w' => e = .returned (.bool true) ∧ Below w.heap.size w w' := by
  have hc : (c != 0) = true := by simpa using hc0
  have H1 : Hid (Calls Tryz.prog 5 #[.string s] w fun e w' => e = .returned (.tuple #[nilV, .agg #[.int .i64 c, .int .i64 0, .int .i64 a]]) ∧ Below w.heap.size w w') := h1
  have H2 : Hid (∀ W, Calls Tryz.prog 6 #[.string s] W fun e w' => (∃ p, e = .returned (.tuple #[.pointer p, .agg #[.int .i64 c, .int .i64 0, .int .i64 a]])) ∧ Below W.heap.size W w') := h2
  clear h1 h2 hc0
  go_enter Tryz.func3, Tryz.ntmps3
  go_wp2_with fail
  refine Calls.mono H1.out ?_
  rintro e w1 ⟨rfl, hb1⟩
  have HB1 := Hid.out (p := Hid _) hb1
  clear hb1 H1
  go_wp2_with fail
  refine Calls.mono (H2.out _) ?_
  rintro e w2 ⟨⟨p, rfl⟩, hb2⟩
  have hA := (Below.refl w1.heap.size w1).alloc (Nat.le_refl _) (.cells #[.int .i64 c, .int .i64 0, .int .i64 a] 25)
  have hx2 := (hb2.block w1.heap.size (by simp)).trans (heap_alloc_new w1 _)
  have p0 := box_cell (i := 0) hx2 rfl
  have p1 := box_cell (i := 1) hx2 rfl
  have p2 := box_cell (i := 2) hx2 rfl
  have hl2 := lt_of_cell p0
  have h12 := hA.trans (hb2.mono (by simp))
  have HB2 : Hid (Below w.heap.size w w2) := HB1.out.trans (h12.mono HB1.out.size)
  have HB3 : Hid (Below w.heap.size w (w2.alloc (.cells #[.int .i64 c, .int .i64 0, .int .i64 a] 25))) := HB2.out.alloc HB2.out.size _
  have p0u := fun o => cell_up p0 o
  have p1u := fun o => cell_up p1 o
  have p2u := fun o => cell_up p2 o
  clear hb2 hA hx2 h12 H2
  go_wp2_with fail
  go_ret
  exact ⟨rfl, HB3.out⟩
set_option maxRecDepth 100000 in
set_option maxHeartbeats 1600000 in
theorem ct_yes (s : ByteArray) (w : World) (us : List Int) (hus : us.length ≤ 600) (h1 : Calls Tryz.prog 5 #[.string s] w fun e w' => ChkQ w.heap.size (.ok us) e w' ∧ Below w.heap.size w w')
    (h2 : ∀ W, Calls Tryz.prog 6 #[.string s] W fun e w' => (∃ P ua uc, e = .returned (.tuple #[.pointer (some ⟨P, 0, none⟩), .agg #[.int .i64 0, .int .i64 0, .int .i64 0]]) ∧ w'.cell? ⟨P, 1, none⟩ = some (.slice ua us.length uc) ∧ IIn w' ua us.length (fun j => us.getD j 0)) ∧ Below W.heap.size W w') :
    Calls Tryz.prog 3 #[.string s] w fun e w' => e = .returned (.bool true) ∧ Below w.heap.size w w' := by
  have H1 : Hid (Calls Tryz.prog 5 #[.string s] w fun e w' => ChkQ w.heap.size (.ok us) e w' ∧ Below w.heap.size w w') := h1
  obtain ⟨n, hn⟩ : ∃ n, n = us.length := ⟨_, rfl⟩
  rw [← hn] at h2 hus
  have H2 : Hid (∀ W, Calls Tryz.prog 6 #[.string s] W fun e w' => (∃ P ua uc, e = .returned (.tuple #[.pointer (some ⟨P, 0, none⟩), .agg #[.int .i64 0, .int .i64 0, .int .i64 0]]) ∧ w'.cell? ⟨P, 1, none⟩ = some (.slice ua n uc) ∧ IIn w' ua n (fun j => us.getD j 0)) ∧ Below W.heap.size W w') := h2
  have HN := Hid.out (p := Hid _) hn
  clear h1 h2 hn
  go_enter Tryz.func3, Tryz.ntmps3
  go_wp2_with fail
  refine Calls.mono H1.out ?_
  rintro e w1 ⟨⟨la, lc, rfl, hi, -⟩, hb1⟩
  rw [← HN.out] at hi ⊢
  have HI1 : Hid (IIn w1 la n (fun j => us.getD j 0)) := hi
  have HB1 := Hid.out (p := Hid _) hb1
  clear hb1 H1 hi
  go_wp2_with fail
  refine Calls.mono (H2.out _) ?_
  rintro e w2 ⟨⟨P, ua, uc, rfl, c1, hi⟩, hb2⟩
  have hA := (Below.refl w1.heap.size w1).alloc (Nat.le_refl _) (.cells #[.int .i64 0, .int .i64 0, .int .i64 0] 25)
  have h12 := hA.trans (hb2.mono (by simp))
  have hA2 := (Below.refl w2.heap.size w2).alloc (Nat.le_refl _) (.cells #[.int .i64 0, .int .i64 0, .int .i64 0] 25)
  have hx2 := (hb2.block w1.heap.size (by simp)).trans (heap_alloc_new w1 _)
  have HIN : Hid (Calls Tryz.prog 7 #[.slice la n lc, .slice ua n uc] (w2.alloc (.cells #[.int .i64 0, .int .i64 0, .int .i64 0] 25)) fun e w' => e = .returned (.bool true) ∧ Below (w2.alloc (.cells #[.int .i64 0, .int .i64 0, .int .i64 0] 25)).heap.size (w2.alloc (.cells #[.int .i64 0, .int .i64 0, .int .i64 0] 25)) w') := ints_same la ua n lc uc (by omega) _ _ ((HI1.out.below h12).below hA2) (hi.below hA2)
  have hl2 := heap_ltD hx2
  have hlc := lt_of_cell c1
  have c1u := fun o => cell_up c1 o
  have HB2 : Hid (∀ W, Below (w2.alloc (.cells #[.int .i64 0, .int .i64 0, .int .i64 0] 25)).heap.size (w2.alloc (.cells #[.int .i64 0, .int .i64 0, .int .i64 0] 25)) W → Below w.heap.size w W ∧ W.heap[w1.heap.size]? = some (.cells #[.int .i64 0, .int .i64 0, .int .i64 0] 25)) := fun W hW => by
    have h2W := hA2.trans (hW.mono (by simp))
    exact ⟨HB1.out.trans ((h12.trans (h2W.mono h12.size)).mono HB1.out.size), (h2W.block _ hl2).trans hx2⟩
  clear hb2 hA hA2 hx2 h12 hi H2
  go_wp2_with fail
  refine Calls.mono HIN.out ?_
  rintro e w3 ⟨rfl, hb3⟩
  obtain ⟨hB, hx3⟩ := HB2.out w3 hb3
  have p0 := box_cell (i := 0) hx3 rfl
  have HB := Hid.out (p := Hid _) hB
  clear hb3 hB hx3 HB2 HIN c1 c1u
  go_wp2_with fail
  go_ret
  exact ⟨rfl, HB.out⟩
theorem checkTells_any (s : ByteArray) (w : World) (hE : LEnv w) :
    Calls Tryz.prog 3 #[.string s] w fun e w' => e = .returned (.bool true) ∧ Below w.heap.size w w' := by
  rcases parse_cases s.data.toList with ⟨h1, h2⟩ | ⟨ks, hs, hw, hsz⟩
  · have hs : parseT s.data.toList = ([], ((parseT s.data.toList).2.1, (parseT s.data.toList).2.2)) := by rw [← h1]
    exact ct_no s w _ _ h2 (check_bad s w hE _ _ hs h2) fun W => (rof_bad s W _ _ hs h2).mono fun e w' ⟨he, hb⟩ => ⟨⟨none, he⟩, hb⟩
  · have hg := check_good s w hE hs hw hsz (fun f h => checkC_err h)
    have ho := fun W => rof_good s W hs hw hsz
    unfold OfQ at ho
    cases hC : checkC ks with
    | error f =>
      rw [hC] at hg ho
      exact ct_no s w _ _ (checkC_err hC) hg fun W => (ho W).mono fun e w' ⟨⟨_, _, P, _, he⟩, hb⟩ => ⟨⟨some ⟨P, 0, none⟩, he⟩, hb⟩
    | ok us =>
      rw [hC] at hg ho
      refine ct_yes s w us (checkC_len hC hsz) hg fun W => (ho W).mono fun e w' ⟨⟨_, _, P, he, hS⟩, hb⟩ => ⟨?_, hb⟩
      obtain ⟨ua, uc, c1, hi⟩ := hS.c1
      exact ⟨P, ua, uc, he, c1, hi⟩
end

end Go.Proofs.YtggfbfjdiikaeaaGreatDoor
