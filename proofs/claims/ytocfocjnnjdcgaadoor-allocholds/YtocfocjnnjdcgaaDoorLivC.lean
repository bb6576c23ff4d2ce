/-
  What an order reads, what it writes, where it leads, by the program and by the document.
  The document's side: one register's truths; a list of a row of truths.
-/
import Derived.Test.YtocfocjnnjdcgaaDoorLivP
import Derived.Test.YtocfocjnnjdcgaaDoorLivA
import Derived.Test.YtocfocjnnjdcgaaDoorFam
import Derived.Test.YtocfocjnnjdcgaaDoorBox
import Derived.Deep.LoopGhost
namespace Go.Proofs.YtocfocjnnjdcgaaDoor
section
open Go.RowKit

theorem sis_new (V : World) (l : List Int) (g : Nat) (h : V.heap[g]? = some (.cells (intsV l).toArray 3)) : SIs V (some ⟨g, 0, none⟩) l := fun k hk => by
  refine ⟨g, 0, rfl, box_cell h ?_⟩
  rw [Nat.zero_add]
  simpa using intsV_at hk
theorem sis_nil (V : World) (a : Option Addr) : SIs V a [] := fun _ hk => absurd hk (Nat.not_lt_zero _)
theorem sis_one (w : World) (o : Obj) (x : Int) : SIs ((w.alloc o).alloc (.cells #[.int .i64 x] 3)) (some ⟨w.heap.size + 1, 0, none⟩) [x] := by
  refine sis_new _ [x] _ ?_
  have := heap_alloc_new (w.alloc o) (.cells #[.int .i64 x] 3)
  rw [World.size_alloc] at this
  exact this
theorem sis_two (w : World) (o : Obj) (x y : Int) : SIs ((w.alloc o).alloc (.cells #[.int .i64 x, .int .i64 y] 3)) (some ⟨w.heap.size + 1, 0, none⟩) [x, y] := by
  refine sis_new _ [x, y] _ ?_
  have := heap_alloc_new (w.alloc o) (.cells #[.int .i64 x, .int .i64 y] 3)
  rw [World.size_alloc] at this
  exact this
theorem below_two (w : World) (o p : Obj) : Below w.heap.size w ((w.alloc o).alloc p) := ((Below.refl _ _).alloc (Nat.le_refl _) _).alloc (by simp) _
theorem below_one (w : World) (o : Obj) : Below w.heap.size w (w.alloc o) := (Below.refl _ _).alloc (Nat.le_refl _) _

/-- Where the numbers lie of the registers that an order reads; of the one that it writes, if any. -/
def usR (op : Int) : List Nat := if op = 2 ∨ op = 9 ∨ op = 10 then [2] else if op = 11 then [1, 2] else if op = 3 ∨ op = 4 ∨ op = 5 ∨ op = 6 ∨ op = 7 ∨ op = 13 then [2, 3] else if op = 15 ∨ op = 16 then [1] else []
def usW (op : Int) : Nat := if op = 1 ∨ op = 2 ∨ op = 3 ∨ op = 4 ∨ op = 5 ∨ op = 6 ∨ op = 7 ∨ op = 8 ∨ op = 10 then 1 else if op = 13 then 2 else 0
def fldI (a b c : Int) (k : Nat) : Int := if k = 1 then a else if k = 2 then b else c
theorem us_rd {op : Int} (a b c : Int) (ho : 1 ≤ op ∧ op ≤ 18) : rdL op a b c = (usR op).map (fldI a b c) ∧ (usR op).length ≤ 2 ∧ ∀ x, x ∈ usR op → 1 ≤ x ∧ x ≤ 3 := by
  rcases (by omega : op = 1 ∨ op = 2 ∨ op = 3 ∨ op = 4 ∨ op = 5 ∨ op = 6 ∨ op = 7 ∨ op = 8 ∨ op = 9 ∨ op = 10 ∨ op = 11 ∨ op = 12 ∨ op = 13 ∨ op = 14 ∨ op = 15 ∨ op = 16 ∨ op = 17 ∨ op = 18) with rfl | rfl | rfl | rfl | rfl | rfl | rfl | rfl | rfl | rfl | rfl | rfl | rfl | rfl | rfl | rfl | rfl | rfl
  all_goals exact ⟨rfl, by decide, by decide⟩
/-- Pointers to these. -/
def PtrsIn (w : World) (ra : Option Addr) (g : Nat) (us : List Nat) : Prop := ∀ k, k < us.length → ∃ b o, ra = some ⟨b, o, none⟩ ∧ w.cell? ⟨b, o + k, none⟩ = some (.pointer (some ⟨g, us.getD k 0, none⟩))
def ptrV (g k : Nat) : Value := .pointer (if k = 0 then none else some ⟨g, k, none⟩)
theorem ptrs_none (w : World) (ra : Option Addr) (g : Nat) : PtrsIn w ra g [] := fun _ h => absurd h (Nat.not_lt_zero _)
theorem ptrs_new {V : World} {g n x y : Nat} {c : Array Value} (h : V.heap[n]? = some (.cells c 105)) (h0 : c[0]? = some (.pointer (some ⟨g, x, none⟩))) (h1 : c[1]? = some (.pointer (some ⟨g, y, none⟩)) ∨ c[1]? = none ∧ True) : PtrsIn V (some ⟨n, 0, none⟩) g (if c[1]? = none then [x] else [x, y]) := fun k hk => by
  refine ⟨n, 0, rfl, ?_⟩
  rw [Nat.zero_add]
  rcases h1 with h1 | ⟨h1, _⟩
  · rw [h1, if_neg (by simp)] at hk ⊢
    match k, hk with
    | 0, _ => exact box_cell h h0
    | 1, _ => exact box_cell h h1
  · rw [h1, if_pos rfl] at hk ⊢
    match k, hk with
    | 0, _ => exact box_cell h h0
theorem ptrs_one (w : World) (g x : Nat) : PtrsIn (w.alloc (.cells #[.pointer (some ⟨g, x, none⟩)] 105)) (some ⟨w.heap.size, 0, none⟩) g [x] := ptrs_new (y := 0) (heap_alloc_new w _) rfl (Or.inr ⟨rfl, trivial⟩)
theorem ptrs_two (w : World) (g x y : Nat) : PtrsIn (w.alloc (.cells #[.pointer (some ⟨g, x, none⟩), .pointer (some ⟨g, y, none⟩)] 105)) (some ⟨w.heap.size, 0, none⟩) g [x, y] := ptrs_new (heap_alloc_new w _) rfl (Or.inl rfl)

set_option maxHeartbeats 3200000 in
theorem uses_any (op a b c : Int) (ho : 1 ≤ op ∧ op ≤ 18) (w : World) (g : Nat) (hg : w.heap[g]? = some (.cells #[.int .i64 op, .int .i64 a, .int .i64 b, .int .i64 c] 55)) :
    Calls Tryd.prog 60 #[.pointer (some ⟨g, 0, none⟩)] w fun e w' => ∃ ra rc, e = .returned (.tuple #[.slice ra (usR op).length rc, ptrV g (usW op)]) ∧ PtrsIn w' ra g (usR op) ∧ Below w.heap.size w w' := by
  have c0 : w.cell? ⟨g, 0, none⟩ = some (.int .i64 op) := box_cell hg rfl
  clear hg
  rcases (by omega : op = 1 ∨ op = 2 ∨ op = 3 ∨ op = 4 ∨ op = 5 ∨ op = 6 ∨ op = 7 ∨ op = 8 ∨ op = 9 ∨ op = 10 ∨ op = 11 ∨ op = 12 ∨ op = 13 ∨ op = 14 ∨ op = 15 ∨ op = 16 ∨ op = 17 ∨ op = 18) with rfl | rfl | rfl | rfl | rfl | rfl | rfl | rfl | rfl | rfl | rfl | rfl | rfl | rfl | rfl | rfl | rfl | rfl
  all_goals
    clear ho
    go_enter Tryd.func60, Tryd.ntmps60
    go_wp2
    try (go_region <;> go_wp2)
  all_goals go_ret2
  all_goals first
    | exact ⟨_, _, rfl, ptrs_two _ _ _ _, by first | exact below_one _ _ | exact (below_one _ _).drew | exact below_drewN (below_one _ _)⟩
    | exact ⟨_, _, rfl, ptrs_one _ _ _, by first | exact below_one _ _ | exact (below_one _ _).drew | exact below_drewN (below_one _ _)⟩
    | exact ⟨_, _, rfl, ptrs_none _ _ _, by first | exact Below.refl _ _ | exact (Below.refl _ _).drew⟩

theorem ptrV_0 (g : Nat) : ptrV g 0 = .pointer none := rfl
theorem ptrV_1 (g : Nat) : ptrV g 1 = .pointer (some ⟨g, 1, none⟩) := rfl
theorem ptrV_2 (g : Nat) : ptrV g 2 = .pointer (some ⟨g, 2, none⟩) := rfl
theorem us_wr {op : Int} (a b : Int) (ho : 1 ≤ op ∧ op ≤ 18) : (usW op = 0 ∧ wrL op a b = -1) ∨ (usW op = 1 ∧ wrL op a b = a ∧ (op = 1 ∨ op = 2 ∨ op = 3 ∨ op = 4 ∨ op = 5 ∨ op = 6 ∨ op = 7 ∨ op = 8 ∨ op = 10 ∨ op = 13)) ∨ (usW op = 2 ∧ wrL op a b = b ∧ (op = 1 ∨ op = 2 ∨ op = 3 ∨ op = 4 ∨ op = 5 ∨ op = 6 ∨ op = 7 ∨ op = 8 ∨ op = 10 ∨ op = 13)) := by
  rcases (by omega : op = 1 ∨ op = 2 ∨ op = 3 ∨ op = 4 ∨ op = 5 ∨ op = 6 ∨ op = 7 ∨ op = 8 ∨ op = 9 ∨ op = 10 ∨ op = 11 ∨ op = 12 ∨ op = 13 ∨ op = 14 ∨ op = 15 ∨ op = 16 ∨ op = 17 ∨ op = 18) with rfl | rfl | rfl | rfl | rfl | rfl | rfl | rfl | rfl | rfl | rfl | rfl | rfl | rfl | rfl | rfl | rfl | rfl
  all_goals first
    | exact Or.inl ⟨rfl, rfl⟩
    | exact Or.inr (Or.inl ⟨rfl, rfl, by decide⟩)
    | exact Or.inr (Or.inr ⟨rfl, rfl, by decide⟩)

section
attribute [local go_sem ↓] appS_eq
set_option maxRecDepth 100000 in
set_option maxHeartbeats 3200000 in
theorem reads_any (op a b c : Int) (ho : 1 ≤ op ∧ op ≤ 18) (w : World) :
    Calls Tryd.prog 61 #[ints4 op a b c] w fun e w' => ∃ ra rc, e = .returned (.slice ra (rdL op a b c).length rc) ∧ SIs w' ra (rdL op a b c) ∧ Below w.heap.size w w' := by
  obtain ⟨hrd, hlen, hin⟩ := us_rd a b c ho
  have hbx := heap_alloc_new w (.cells #[.int .i64 op, .int .i64 a, .int .i64 b, .int .i64 c] 55)
  have HU := Hid.out (p := Hid _) (uses_any op a b c ho (w.alloc (.cells #[.int .i64 op, .int .i64 a, .int .i64 b, .int .i64 c] 55)) w.heap.size hbx)
  have HAT : Hid (∀ V, Below (w.alloc (.cells #[.int .i64 op, .int .i64 a, .int .i64 b, .int .i64 c] 55)).heap.size (w.alloc (.cells #[.int .i64 op, .int .i64 a, .int .i64 b, .int .i64 c] 55)) V → Below w.heap.size w V ∧ ∀ x, 1 ≤ x ∧ x ≤ 3 → V.cell? ⟨w.heap.size, x, none⟩ = some (.int .i64 (fldI a b c x))) := fun V hV => by
    have h1 := (hV.block _ (by simp)).trans hbx
    refine ⟨(below_one w _).trans (hV.mono (below_one w _).size), fun x hx => ?_⟩
    rcases (by omega : x = 1 ∨ x = 2 ∨ x = 3) with rfl | rfl | rfl
    all_goals exact box_cell h1 rfl
  obtain ⟨us, hus⟩ : ∃ us, usR op = us := ⟨_, rfl⟩
  rw [hus] at HU hrd hlen hin
  rw [hrd]
  have HIN := Hid.out (p := Hid _) (And.intro hlen hin)
  obtain ⟨F, hF⟩ : ∃ F, fldI a b c = F := ⟨_, rfl⟩
  rw [hF] at HAT ⊢
  obtain ⟨up, hup⟩ : ∃ up, ptrV w.heap.size (usW op) = up := ⟨_, rfl⟩
  rw [hup] at HU
  clear hrd hbx hus hF hlen hin hup ho
  go_enter Tryd.func61, Tryd.ntmps61
  go_wp2_with fail
  refine Calls.mono HU.out ?_
  rintro e w1 ⟨ra, rc, rfl, hP, hb⟩
  have H1 := Hid.out (p := Hid _) (And.intro hP hb)
  have HS : Hid (Below w.heap.size w w1) := (HAT.out w1 hb).1
  obtain ⟨n, hn⟩ : ∃ n, us.length = n := ⟨_, rfl⟩
  have HNL := Hid.out (p := Hid _) hn
  rw [hn] at ⊢
  clear hP hb HU hn
  go_wp2_with fail
  go_loopw [3, 14] (fun v x wr => ∃ k : Nat, k ≤ n ∧ x = .int .i64 k ∧ Hid (OwL wr w1.heap.size v ((us.take k).map F) ∧ Below w1.heap.size w1 wr)) (fun _ x _ => n - (intOf x).toNat)
  case atStart => exact ⟨0, Nat.zero_le _, rfl, owL_nil _ _, Below.refl _ _⟩
  case round =>
    obtain ⟨k, hk, rfl, HI⟩ := hrel
    by_cases hlt : k < n
    · obtain ⟨pb, po, e, hc⟩ := H1.out.1 k (by rw [HNL.out]; exact hlt)
      subst e
      obtain ⟨y, hy⟩ : ∃ y, us.getD k 0 = y := ⟨_, rfl⟩
      rw [hy] at hc
      have hyb : 1 ≤ y ∧ y ≤ 3 := by
        refine HIN.out.2 y ?_
        rw [← hy, List.getD_eq_getElem?_getD, List.getElem?_eq_getElem (by rw [HNL.out]; exact hlt)]
        exact List.getElem_mem _
      have hbw : Below (w.alloc (.cells #[.int .i64 op, .int .i64 a, .int .i64 b, .int .i64 c] 55)).heap.size (w.alloc (.cells #[.int .i64 op, .int .i64 a, .int .i64 b, .int .i64 c] 55)) wr := H1.out.2.trans (HI.out.2.mono H1.out.2.size)
      have hcw := (HI.out.2.cell (lt_of_cell hc)).trans hc
      have hfx := (HAT.out wr hbw).2 y hyb
      obtain ⟨ua, uc, hu⟩ := HI.out.1.form
      have hl1 : ((us.take k).map F).length = k := by rw [List.length_map, List.length_take, HNL.out]; omega
      have hl2 : (us.take (k + 1)).map F = (us.take k).map F ++ [F y] := by
        rw [List.take_add_one, List.map_append, ← hy, List.getD_eq_getElem?_getD, List.getElem?_eq_getElem (by rw [HNL.out]; exact hlt)]
        rfl
      have hkn := HIN.out.1
      rw [HNL.out] at hkn
      obtain ⟨g9, cap, w3, r1, r2, r3⟩ := app_num HI.out.1 (Below.refl _ _) HI.out.2.size (F y) (by rw [hl1]; omega)
      rw [hu] at r1
      rw [hl1] at hu r1 r2
      rw [← hl2] at r2
      have HN : Hid (OwL w3 w1.heap.size (.slice (some ⟨g9, 0, none⟩) (k + 1) cap) ((us.take (k + 1)).map F) ∧ Below w1.heap.size w1 w3) := ⟨r2, r3 w1 HI.out.2⟩
      have hki : (k : Int) < (n : Int) := by omega
      clear r2 r3 hbw hc hy hyb hl1 hl2 HI
      subst hu
      go_wp2_with fail
      go_roundw
      case rel => exact ⟨k + 1, by omega, by go_num, HN.out⟩
      case measure => simp [intOf]; omega
    · obtain rfl : n = k := by omega
      go_wp2_with fail
      have h1 := HI.out.1
      rw [← HNL.out, List.take_length] at h1
      obtain ⟨ua, uc, hu⟩ := h1.form
      subst hu
      refine bodyPost_ret (v := .slice ua (us.map F).length uc) (by simp [results, Tryd.results61, go_sem]) rfl ⟨ua, uc, rfl, h1.sis, HS.out.trans (HI.out.2.mono HS.out.size)⟩
end

set_option maxHeartbeats 3200000 in
theorem rreads_any (op a b c : Int) (ho : 1 ≤ op ∧ op ≤ 18) (w : World) :
    Calls Tryd.prog 56 #[ints4 op a b c] w fun e w' => ∃ ra rc, e = .returned (.slice ra (rdL op a b c).length rc) ∧ SIs w' ra (rdL op a b c) ∧ Below w.heap.size w w' := by
  rcases (by omega : op = 1 ∨ op = 2 ∨ op = 3 ∨ op = 4 ∨ op = 5 ∨ op = 6 ∨ op = 7 ∨ op = 8 ∨ op = 9 ∨ op = 10 ∨ op = 11 ∨ op = 12 ∨ op = 13 ∨ op = 14 ∨ op = 15 ∨ op = 16 ∨ op = 17 ∨ op = 18) with rfl | rfl | rfl | rfl | rfl | rfl | rfl | rfl | rfl | rfl | rfl | rfl | rfl | rfl | rfl | rfl | rfl | rfl
  all_goals
    clear ho
    go_enter Tryd.func56, Tryd.ntmps56
    go_wp2
    go_ret
    first
    | exact ⟨_, _, rfl, sis_two _ _ _ _, below_two _ _ _⟩
    | exact ⟨_, _, rfl, sis_one _ _ _, below_two _ _ _⟩
    | exact ⟨_, _, rfl, sis_nil _ _, below_one _ _⟩

set_option maxHeartbeats 3200000 in
theorem rwrites_any (op a b c : Int) (ho : 1 ≤ op ∧ op ≤ 18) (w : World) :
    Calls Tryd.prog 35 #[ints4 op a b c] w fun e w' => e = .returned (.int .i64 (wrL op a b)) ∧ Below w.heap.size w w' := by
  rcases (by omega : op = 1 ∨ op = 2 ∨ op = 3 ∨ op = 4 ∨ op = 5 ∨ op = 6 ∨ op = 7 ∨ op = 8 ∨ op = 9 ∨ op = 10 ∨ op = 11 ∨ op = 12 ∨ op = 13 ∨ op = 14 ∨ op = 15 ∨ op = 16 ∨ op = 17 ∨ op = 18) with rfl | rfl | rfl | rfl | rfl | rfl | rfl | rfl | rfl | rfl | rfl | rfl | rfl | rfl | rfl | rfl | rfl | rfl
  all_goals
    clear ho
    go_enter Tryd.func35, Tryd.ntmps35
    go_wp2
    go_ret
    exact ⟨rfl, below_one _ _⟩

set_option maxHeartbeats 3200000 in
theorem writes_any (op a b c : Int) (ho : 1 ≤ op ∧ op ≤ 18) (w : World) :
    Calls Tryd.prog 52 #[ints4 op a b c] w fun e w' => ((∃ x, e = .returned (.tuple #[.int .i64 x, .bool true]) ∧ x = wrL op a b ∧ (op = 1 ∨ op = 2 ∨ op = 3 ∨ op = 4 ∨ op = 5 ∨ op = 6 ∨ op = 7 ∨ op = 8 ∨ op = 10 ∨ op = 13)) ∨ (e = .returned (.tuple #[.int .i64 0, .bool false]) ∧ wrL op a b = -1)) ∧ Below w.heap.size w w' := by
  have hbx := heap_alloc_new w (.cells #[.int .i64 op, .int .i64 a, .int .i64 b, .int .i64 c] 55)
  have HU := Hid.out (p := Hid _) (uses_any op a b c ho (w.alloc (.cells #[.int .i64 op, .int .i64 a, .int .i64 b, .int .i64 c] 55)) w.heap.size hbx)
  have HAT : Hid (∀ V, Below (w.alloc (.cells #[.int .i64 op, .int .i64 a, .int .i64 b, .int .i64 c] 55)).heap.size (w.alloc (.cells #[.int .i64 op, .int .i64 a, .int .i64 b, .int .i64 c] 55)) V → Below w.heap.size w V ∧ V.cell? ⟨w.heap.size, 1, none⟩ = some (.int .i64 a) ∧ V.cell? ⟨w.heap.size, 2, none⟩ = some (.int .i64 b)) := fun V hV => by
    have h1 := (hV.block _ (by simp)).trans hbx
    exact ⟨(below_one w _).trans (hV.mono (below_one w _).size), box_cell h1 rfl, box_cell h1 rfl⟩
  have hw := us_wr a b ho
  clear ho hbx
  go_enter Tryd.func52, Tryd.ntmps52
  go_wp2_with fail
  refine Calls.mono HU.out ?_
  rintro e w1 ⟨ra, rc, rfl, -, hb⟩
  obtain ⟨q0, q1, q2⟩ := HAT.out w1 hb
  have HB := Hid.out (p := Hid _) q0
  clear hb q0 HU HAT
  rcases hw with ⟨h0, h1⟩ | ⟨h0, h1, h2⟩ | ⟨h0, h1, h2⟩
  · have HH := Hid.out (p := Hid _) h1
    rw [h0, ptrV_0]
    clear h0 h1
    go_wp2_with fail
    go_ret2
    exact ⟨Or.inr ⟨rfl, HH.out⟩, HB.out⟩
  · have HH := Hid.out (p := Hid _) (And.intro h1 h2)
    rw [h0, ptrV_1]
    clear h0 h1 h2
    go_wp2_with fail
    go_ret2
    exact ⟨Or.inl ⟨_, rfl, HH.out.1.symm, HH.out.2⟩, HB.out⟩
  · have HH := Hid.out (p := Hid _) (And.intro h1 h2)
    rw [h0, ptrV_2]
    clear h0 h1 h2
    go_wp2_with fail
    go_ret2
    exact ⟨Or.inl ⟨_, rfl, HH.out.1.symm, HH.out.2⟩, HB.out⟩

/-- The places that an order leads on to, as numbers. -/
def nxI (op a b : Int) (i : Nat) : List Int := (nxL op a b i).map fun (j : Nat) => (j : Int)
theorem nxI_jump {a b : Int} {i : Nat} (h : 0 ≤ a) : nxI 14 a b i = [a] := by
  unfold nxI nxL
  rw [if_pos rfl]
  simp
  omega
theorem nxI_zero {a b : Int} {i : Nat} (h : 0 ≤ b) : nxI 15 a b i = [(i : Int) + 1, b] := by
  unfold nxI nxL
  rw [if_neg (by decide), if_pos rfl]
  simp
  omega
theorem nxI_else {op a b : Int} {i : Nat} (h1 : op ≠ 14) (h2 : op ≠ 15) : nxI op a b i = [(i : Int) + 1] := by
  unfold nxI nxL
  rw [if_neg h1, if_neg h2]
  simp
theorem nxI_len (op a b : Int) (i : Nat) : (nxI op a b i).length = (nxL op a b i).length := by simp [nxI]

set_option maxHeartbeats 3200000 in
theorem next_any (op a b c : Int) (i : Nat) (hi : i ≤ 1000) (h14 : op = 14 → 0 ≤ a) (h15 : op = 15 → 0 ≤ b) (w : World) :
    Calls Tryd.prog 84 #[ints4 op a b c, .int .i64 i] w fun e w' => ∃ ra rc, e = .returned (.slice ra (nxI op a b i).length rc) ∧ SIs w' ra (nxI op a b i) ∧ Below w.heap.size w w' := by
  by_cases e14 : op = 14
  · subst e14
    rw [nxI_jump (h14 rfl)]
    clear h14 h15
    go_enter Tryd.func84, Tryd.ntmps84
    go_wp2
    go_ret
    exact ⟨_, _, rfl, sis_one _ _ _, below_two _ _ _⟩
  · have e14' : (op == 14) = false := by simpa using e14
    by_cases e15 : op = 15
    · subst e15
      rw [nxI_zero (h15 rfl)]
      clear h14 h15
      go_enter Tryd.func84, Tryd.ntmps84
      go_wp2
      go_ret
      exact ⟨_, _, rfl, sis_two _ _ _ _, below_two _ _ _⟩
    · have e15' : (op == 15) = false := by simpa using e15
      rw [nxI_else e14 e15]
      clear h14 h15 e14 e15
      go_enter Tryd.func84, Tryd.ntmps84
      go_wp2
      go_ret
      exact ⟨_, _, rfl, sis_one _ _ _, below_two _ _ _⟩

/-- An order in a slice. -/
def OrdAt (w : World) (ca : Option Addr) (i : Nat) (op a b c : Int) : Prop := ∃ g o, ca = some ⟨g, o, none⟩ ∧ w.cell? ⟨g, o + i * 4, none⟩ = some (.int .i64 op) ∧ w.cell? ⟨g, o + i * 4 + 1, none⟩ = some (.int .i64 a) ∧ w.cell? ⟨g, o + i * 4 + 2, none⟩ = some (.int .i64 b) ∧ w.cell? ⟨g, o + i * 4 + 3, none⟩ = some (.int .i64 c)
theorem OrdAt.below {w w' : World} {ca : Option Addr} {i : Nat} {op a b c : Int} (h : OrdAt w ca i op a b c) (hb : Below w.heap.size w w') : OrdAt w' ca i op a b c := by
  obtain ⟨g, o, e, c0, c1, c2, c3⟩ := h
  exact ⟨g, o, e, (hb.cell (lt_of_cell c0)).trans c0, (hb.cell (lt_of_cell c1)).trans c1, (hb.cell (lt_of_cell c2)).trans c2, (hb.cell (lt_of_cell c3)).trans c3⟩

set_option maxRecDepth 100000 in
set_option maxHeartbeats 3200000 in
theorem rnexts_all (w : World) (ca : Option Addr) (l cc : Nat) (op a b c : Int) (i : Nat) (hi : i < l) (hl : l ≤ 1000) (hord : OrdAt w ca i op a b c) (h14 : op = 14 → 0 ≤ a) (h15 : op = 15 → 0 ≤ b) :
    Calls Tryd.prog 36 #[.slice ca l cc, .int .i64 i] w fun e w' => ∃ ra rc, e = .returned (.slice ra (nxI op a b i).length rc) ∧ SIs w' ra (nxI op a b i) ∧ Below w.heap.size w w' := by
  obtain ⟨cb, co, rfl, c0, c1, c2, c3⟩ := hord
  have u0 := cell_up c0
  have u1 := cell_up c1
  have u2 := cell_up c2
  have u3 := cell_up c3
  by_cases e14 : op = 14
  · subst e14
    rw [nxI_jump (h14 rfl)]
    clear h14 h15
    go_enter Tryd.func36, Tryd.ntmps36
    go_wp2
    go_ret
    exact ⟨_, _, rfl, sis_one _ _ _, below_two _ _ _⟩
  · have e14' : (op == 14) = false := by simpa using e14
    by_cases e15 : op = 15
    · subst e15
      rw [nxI_zero (h15 rfl)]
      clear h14 h15
      go_enter Tryd.func36, Tryd.ntmps36
      go_wp2
      go_ret
      exact ⟨_, _, rfl, sis_two _ _ _ _, below_two _ _ _⟩
    · have e15' : (op == 15) = false := by simpa using e15
      rw [nxI_else e14 e15]
      clear h14 h15 e14 e15
      go_enter Tryd.func36, Tryd.ntmps36
      go_wp2
      go_ret
      exact ⟨_, _, rfl, sis_one _ _ _, below_two _ _ _⟩
end

section
open Go.RowKit

def btV (l : List Bool) : List Value := l.map Value.bool
theorem btV_at {l : List Bool} {i : Nat} (h : i < l.length) : (btV l)[i]? = some (.bool (l.getD i false)) := by
  unfold btV
  rw [List.getElem?_map, List.getElem?_eq_getElem h]
  simp [List.getD, List.getElem?_eq_getElem h]
/-- A row of truths in a block. -/
def BR (w : World) (g : Nat) (R : List Bool) : Prop := w.heap[g]? = some (.cells (btV R).toArray 4)
section
variable {w w' : World} {g : Nat} {R : List Bool}
theorem BR.below (h : BR w g R) (hb : Below w.heap.size w w') : BR w' g R := (hb.block g (Array.getElem?_eq_some_iff.1 h).1).trans h
theorem BR.lt (h : BR w g R) : g < w.heap.size := (Array.getElem?_eq_some_iff.1 h).1
theorem BR.cell (h : BR w g R) {i : Nat} (hi : i < R.length) : w.cell? ⟨g, i, none⟩ = some (.bool (R.getD i false)) := box_cell h (by simpa using btV_at hi)
theorem BR.free (h : BR w g R) (i : Nat) : w.frozen? ⟨g, i, none⟩ = false := box_free h
theorem BR.put (h : BR w g R) (i : Nat) (b : Bool) : BR (w.setCell ⟨g, i, none⟩ (.bool b)) g (R.set i b) := by
  refine (heap_set_same h).trans ?_
  rw [List.setIfInBounds_toArray]
  simp [btV, List.map_set]
theorem BR.far (h : BR w g R) {b i : Nat} (hne : g ≠ b) (v : Value) : BR (w.setCell ⟨b, i, none⟩ v) g R := (Below.heap_setCell _ _ _ _ (fun x => hne (by simpa using x))).trans h
end
theorem owns_heap {w : World} {B g n : Nat} {e : TypeId} {xs : List Value} (h : w.ownsRow B e 1 (.slice (some ⟨g, 0, none⟩) n n) n xs) : w.heap[g]? = some (.cells xs.toArray e) := by
  rcases h.2 with ⟨h0, _⟩ | ⟨g', cap', cur, hv, _, hh, _, _, h3, h4⟩
  · cases h0
  · simp only [Value.slice.injEq, Option.some.injEq, Addr.mk.injEq, and_true] at hv
    obtain ⟨rfl, -, rfl⟩ := hv
    rw [hh, ← h4]
    congr 2
    rw [Nat.mul_one, List.take_of_length_le (by simp [h3])]
theorem infoBo : (Tryd.prog.info? 4).map (fun i => (i.zero, i.size, i.bytes)) = some (some (.bool false), 1, 1) := by kernel_rfl
theorem made_truths (n : Nat) : (madeCells #[Value.bool false] n).toList = btV (List.replicate n false) := by
  apply List.ext_getElem?
  intro i
  simp only [madeCells, btV]
  by_cases h : i < n
  · simp [h, Nat.mod_one]
  · simp [h]
theorem truths_start (w : World) (n : Nat) (hn : n ≤ 1001) : ∃ w1, (Instr.makeSlice 39 (.int .i64 (n : Int)) (.int .i64 (n : Int))).run Tryd.prog w = .ok (.slice (some ⟨w.heap.size, 0, none⟩) n n) w1 ∧ BR w1 w.heap.size (List.replicate n false) ∧ Below w.heap.size w w1 := by
  obtain ⟨i, hi, hz0, hz1, hz2⟩ := info_is infoBo
  obtain ⟨w1, r1, r2, r3⟩ := run_makeSlice_full (P := Tryd.prog) w w.heap.size 39 4 i (.bool false) 1 Tryd.underlying39 hi hz0 hz1 .i64 .i64 n (by omega) (by rw [hz2]; omega) (by unfold maxLen; omega) (Nat.le_refl _)
  have hlow : Below w.heap.size w w1 := (Below.refl _ _).grown r3 (Nat.le_refl _) (fun k hk => by cases hk)
  refine ⟨w1, by simpa using r1, ?_, hlow⟩
  have e : (Value.bool false).cells = #[Value.bool false] := rfl
  rw [Nat.mul_one, e, made_truths] at r2
  exact owns_heap r2

set_option maxRecDepth 100000 in
set_option maxHeartbeats 6400000 in
/-- Ahead of which orders a register is live. -/
theorem rahead_any (w : World) (ca : Option Addr) (l cc : Nat) (X : Nat → Nat → Int) (rg m lk r : Nat) (hl : l ≤ 1000) (hord : ∀ i, i < l → OrdAt w ca i (X i 0) (X i 1) (X i 2) (X i 3)) (hok : ∀ i, i < l → ordE rg m lk l (X i 0) (X i 1) (X i 2) (X i 3) = 0) :
    Calls Tryd.prog 34 #[.slice ca l cc, .int .i64 r] w fun e w' => ∃ ab R, e = .returned (.slice (some ⟨ab, 0, none⟩) (l + 1) (l + 1)) ∧ BR w' ab R ∧ R.length = l + 1 ∧ (∀ i, R.getD i false = true ↔ Lv X l r i) ∧ Below w.heap.size w w' ∧ w.heap.size ≤ ab := by
  obtain ⟨w1, hrun1, hR1, hB1⟩ := truths_start w (l + 1) (by omega)
  have hlx : ((l : Int) + 1) = ((l + 1 : Nat) : Int) := by omega
  rw [← hlx] at hrun1
  have HORD := Hid.out (p := Hid _) hord
  have HOK := Hid.out (p := Hid _) hok
  have HI0 : Hid (BR w1 w.heap.size (List.replicate (l + 1) false) ∧ Below w.heap.size w w1 ∧ (List.replicate (l + 1) false).length = l + 1 ∧ (∀ j, (List.replicate (l + 1) false).getD j false = true → Lv X l r j)) := ⟨hR1, hB1, by simp, fun j hj => by
    exfalso
    rw [List.getD_eq_getElem?_getD, List.getElem?_replicate] at hj
    split at hj <;> simp at hj⟩
  obtain ⟨R0, hR0⟩ : ∃ R, List.replicate (l + 1) false = R := ⟨_, rfl⟩
  rw [hR0] at HI0
  clear hord hok hR1 hB1 hlx hR0
  go_enter Tryd.func34, Tryd.ntmps34
  go_wp2_with fail
  go_loopg [6] (1 + cntF R0) (fun gk ag wr => ∃ (b : Bool) (R : List Bool), ag = .bool b ∧ Hid (BR wr w.heap.size R ∧ Below w.heap.size w wr ∧ R.length = l + 1 ∧ (∀ j, R.getD j false = true → Lv X l r j) ∧ (b = false → ∀ i, R.getD i false = true ↔ Lv X l r i) ∧ gk = if b then 1 + cntF R else 0))
  case atStart => exact ⟨true, R0, rfl, HI0.out.1, HI0.out.2.1, HI0.out.2.2.1, HI0.out.2.2.2, (fun h => by cases h), rfl⟩
  case round =>
    obtain ⟨b, R, rfl, HI⟩ := hrel
    clear HI0
    cases b with
    | true =>
      have HP0 : Hid (PasL X l r R R l false) := PasL.begin HI.out.2.2.1 HI.out.2.2.2.1
      go_wp2_with fail
      obtain ⟨V0, rfl⟩ : ∃ V, V = wr := ⟨_, rfl⟩
      go_loopw [6, 7] (fun ag iv wi => ∃ (k : Nat) (b : Bool) (Q : List Bool), k ≤ l ∧ iv = .int .i64 ((k : Int) - 1) ∧ ag = .bool b ∧ Hid (BR wi w.heap.size Q ∧ Below w.heap.size w wi ∧ PasL X l r R Q k b)) (fun _ iv _ => (intOf iv + 1).toNat)
      case atStart => exact ⟨l, false, R, Nat.le_refl _, rfl, rfl, HI.out.1, HI.out.2.1, HP0.out⟩
      case round =>
        obtain ⟨k1, b, Q, hk, rfl, rfl, HJ⟩ := hrel
        clear HP0
        cases k1 with
        | succ k =>
          have hkl : k < l := by omega
          have hkk : ((k + 1 : Nat) : Int) - 1 = (k : Int) := by omega
          rw [hkk]
          obtain ⟨cb, co, rfl, c0, c1, c2, c3⟩ := (HORD.out k hkl).below HJ.out.2.1
          have hok := HOK.out k hkl
          have HRD : Hid (∀ V, Calls Tryd.prog 56 #[ints4 (X k 0) (X k 1) (X k 2) (X k 3)] V fun e w' => ∃ ra rc, e = .returned (.slice ra (rdX X k).length rc) ∧ SIs w' ra (rdX X k) ∧ Below V.heap.size V w') := fun V => rreads_any _ _ _ _ (ok_op hok) V
          have HWR : Hid (∀ V, Calls Tryd.prog 35 #[ints4 (X k 0) (X k 1) (X k 2) (X k 3)] V fun e w' => e = .returned (.int .i64 (wrX X k)) ∧ Below V.heap.size V w') := fun V => rwrites_any _ _ _ _ (ok_op hok) V
          have HNX : Hid (∀ V, Below w.heap.size w V → Calls Tryd.prog 36 #[.slice (some ⟨cb, co, none⟩) l cc, .int .i64 k] V fun e w' => ∃ ra rc, e = .returned (.slice ra (nxI (X k 0) (X k 1) (X k 2) k).length rc) ∧ SIs w' ra (nxI (X k 0) (X k 1) (X k 2) k) ∧ Below V.heap.size V w') := fun V hV => rnexts_all V _ l cc _ _ _ (X k 3) k hkl hl ((HORD.out k hkl).below hV) (fun e => ((ok_lead hok).1 e).1) (fun e => ((ok_lead hok).2 e).1)
          obtain ⟨rs, hrs⟩ : ∃ rs, rdX X k = rs := ⟨_, rfl⟩
          obtain ⟨wv, hwv⟩ : ∃ v, wrX X k = v := ⟨_, rfl⟩
          obtain ⟨js, hjs⟩ : ∃ js, nxP X k = js := ⟨_, rfl⟩
          obtain ⟨xs, hxs⟩ : ∃ xs, nxI (X k 0) (X k 1) (X k 2) k = xs := ⟨_, rfl⟩
          have hxl : xs.length = js.length := by rw [← hxs, ← hjs]; exact nxI_len _ _ _ _
          have HXS : Hid (∀ q, q < js.length → ∃ j : Nat, xs.getD q 0 = (j : Int) ∧ j ≤ l ∧ js.take (q + 1) = js.take q ++ [j]) := fun q hq => by
            refine ⟨js[q], ?_, ?_, ?_⟩
            · rw [← hxs]
              unfold nxI
              have : nxL (X k 0) (X k 1) (X k 2) k = js := hjs
              rw [this]
              simp [List.getD, hq]
            · have hm := List.getElem_mem hq
              have hm2 : js[q] ∈ nxP X k := by rw [hjs]; exact hm
              exact ok_nx hkl hok _ hm2
            · rw [List.take_add_one, List.getElem?_eq_getElem hq]
              rfl
          have HRS : Hid (∀ q, q < rs.length → rs.take (q + 1) = rs.take q ++ [rs.getD q 0]) := fun q hq => by
            rw [List.take_add_one, List.getElem?_eq_getElem hq]
            simp [List.getD, hq]
          have HNB : Hid (∀ Q, nB X r Q k = (rs.any (fun x => x == (r : Int)) || (decide (wv ≠ (r : Int)) && js.any (fun j => Q.getD j false)))) := fun Q => by
            unfold nB
            rw [hrs, hwv, hjs]
          have hrl : rs.length ≤ 2 := by
            rw [← hrs]
            unfold rdX rdL
            split
            · simp
            · split
              · simp
              · split
                · simp
                · split <;> simp
          have hjl : js.length ≤ 2 := by rw [← hjs]; exact nxL_len _ _ _ _
          rw [hrs] at HRD
          rw [hwv] at HWR
          rw [hxs, hxl] at HNX
          obtain ⟨ns, hns⟩ : ∃ n, rs.length = n := ⟨_, rfl⟩
          obtain ⟨nj, hnj⟩ : ∃ n, js.length = n := ⟨_, rfl⟩
          have HLN : Hid (rs.length = ns ∧ js.length = nj ∧ xs.length = nj) := ⟨hns, hnj, by rw [hxl, hnj]⟩
          rw [hns] at HRD hrl
          rw [hnj] at HNX hjl
          obtain ⟨x0, hx0⟩ : ∃ v, X k 0 = v := ⟨_, rfl⟩
          obtain ⟨x1, hx1⟩ : ∃ v, X k 1 = v := ⟨_, rfl⟩
          obtain ⟨x2, hx2⟩ : ∃ v, X k 2 = v := ⟨_, rfl⟩
          obtain ⟨x3, hx3⟩ : ∃ v, X k 3 = v := ⟨_, rfl⟩
          rw [hx0, hx1, hx2, hx3] at HRD HWR
          rw [hx0] at c0
          rw [hx1] at c1
          rw [hx2] at c2
          rw [hx3] at c3
          have HC : Hid (∀ V, Below wr.heap.size wr V → V.cell? ⟨cb, co + k * 4, none⟩ = some (.int .i64 x0) ∧ V.cell? ⟨cb, co + k * 4 + 1, none⟩ = some (.int .i64 x1) ∧ V.cell? ⟨cb, co + k * 4 + 2, none⟩ = some (.int .i64 x2) ∧ V.cell? ⟨cb, co + k * 4 + 3, none⟩ = some (.int .i64 x3)) := fun V hV => ⟨(hV.cell (lt_of_cell c0)).trans c0, (hV.cell (lt_of_cell c1)).trans c1, (hV.cell (lt_of_cell c2)).trans c2, (hV.cell (lt_of_cell c3)).trans c3⟩
          have hki : (k : Int) < (l : Int) := by omega
          clear hok hrs hwv hjs hxs hxl hns hnj hx0 hx1 hx2 hx3
          go_wp2_with fail
          refine Calls.mono (HRD.out _) ?_
          rintro e w3 ⟨ra, rc, rfl, hs3, hb3⟩
          have H3 : Hid (SIs w3 ra rs ∧ Below wr.heap.size wr w3) := ⟨hs3, hb3⟩
          clear hs3 hb3 c0 c1 c2 c3 HRD
          go_wp2_with fail
          go_loopw [9, 10] (fun isv qv wk => ∃ q : Nat, q ≤ ns ∧ qv = .int .i64 q ∧ isv = .bool ((rs.take q).any (fun x => x == (r : Int))) ∧ wk = w3) (fun _ qv _ => ns - (intOf qv).toNat)
          case atStart => exact ⟨0, Nat.zero_le _, rfl, rfl, rfl⟩
          case round =>
            obtain ⟨q, hq, rfl, rfl, rfl⟩ := hrel
            by_cases hql : q < ns
            · obtain ⟨gb, go, rfl, hc⟩ := H3.out.1 q (by rw [HLN.out.1]; exact hql)
              have htk := HRS.out q (by rw [HLN.out.1]; exact hql)
              obtain ⟨x, hx⟩ : ∃ x, rs.getD q 0 = x := ⟨_, rfl⟩
              rw [hx] at hc htk
              have hany : (rs.take (q + 1)).any (fun x => x == (r : Int)) = ((rs.take q).any (fun x => x == (r : Int)) || (x == (r : Int))) := by rw [htk]; simp
              obtain ⟨bq, hbq⟩ : ∃ b, (rs.take q).any (fun x => x == (r : Int)) = b := ⟨_, rfl⟩
              rw [hbq] at hany ⊢
              obtain ⟨xb, hxb⟩ : ∃ b, (x == (r : Int)) = b := ⟨_, rfl⟩
              rw [hxb] at hany
              have HAN := Hid.out (p := Hid _) hany
              clear htk hx hbq hany
              cases bq with
              | true =>
                go_wp2_with fail
                go_roundw
                case rel => exact ⟨q + 1, by omega, by go_num, by rw [HAN.out]; rfl, trivial⟩
                case measure => simp [intOf]; omega
              | false =>
                go_wp2_with fail
                go_roundw
                case rel => exact ⟨q + 1, by omega, by go_num, by rw [HAN.out]; rfl, trivial⟩
                case measure => simp [intOf]; omega
            · obtain rfl : q = ns := by omega
              rw [List.take_of_length_le (by rw [HLN.out.1]; exact Nat.le_refl _)]
              obtain ⟨a0, ha0⟩ : ∃ b, rs.any (fun x => x == (r : Int)) = b := ⟨_, rfl⟩
              rw [ha0] at HNB
              rw [ha0]
              clear ha0
              obtain ⟨z0, z1, z2, z3⟩ := HC.out _ H3.out.2
              go_wp2_with fail
              refine Calls.mono (HWR.out _) ?_
              rintro e w4 ⟨rfl, hb4⟩
              have H4 := Hid.out (p := Hid _) (H3.out.2.trans (hb4.mono H3.out.2.size))
              clear hb4 z0 z1 z2 z3 HWR
              go_wp2_with fail
              refine Calls.mono (HNX.out _ (HJ.out.2.1.trans (H4.out.mono HJ.out.2.1.size))) ?_
              rintro e w5 ⟨na, nc, rfl, hs5, hb5⟩
              have H5 : Hid (SIs w5 na xs ∧ BR w5 w.heap.size Q ∧ Below w.heap.size w w5) := by
                have h1 := H4.out.trans (hb5.mono H4.out.size)
                exact ⟨hs5, HJ.out.1.below h1, HJ.out.2.1.trans (h1.mono HJ.out.2.1.size)⟩
              have HPA := Hid.out (p := Hid _) HJ.out.2.2
              clear hs5 hb5 HNX HJ H3 H4 HC
              go_wp2_with fail
              go_loopw [9, 13] (fun isv qv wk => ∃ q : Nat, q ≤ nj ∧ qv = .int .i64 q ∧ isv = .bool (a0 || (decide (wv ≠ (r : Int)) && (js.take q).any (fun j => Q.getD j false))) ∧ wk = w5) (fun _ qv _ => nj - (intOf qv).toNat)
              case atStart => exact ⟨0, Nat.zero_le _, rfl, by simp, rfl⟩
              case round =>
                obtain ⟨q, hq, rfl, rfl, rfl⟩ := hrel
                by_cases hql : q < nj ∧ wv ≠ (r : Int)
                · obtain ⟨gb, go, rfl, hc⟩ := H5.out.1 q (by rw [HLN.out.2.2]; exact hql.1)
                  obtain ⟨j, hj1, hj2, hj3⟩ := HXS.out q (by rw [HLN.out.2.1]; exact hql.1)
                  rw [hj1] at hc
                  have hq1 := hql.1
                  have hwne : (wv == (r : Int)) = false := by simpa using hql.2
                  have hd : decide (wv ≠ (r : Int)) = true := by simpa using hql.2
                  rw [hd] at HNB ⊢
                  have cj := H5.out.2.1.cell (i := j) (by rw [HPA.out.len]; omega)
                  have hjl2 : (j : Int) < (l : Int) + 1 := by omega
                  obtain ⟨qj, hqj⟩ : ∃ b, Q.getD j false = b := ⟨_, rfl⟩
                  rw [hqj] at cj
                  have hany : (a0 || (true && (js.take (q + 1)).any (fun j => Q.getD j false))) = ((a0 || (true && (js.take q).any (fun j => Q.getD j false))) || qj) := by
                    rw [hj3, List.any_append]
                    simp only [List.any_cons, List.any_nil, Bool.or_false, hqj, Bool.true_and, Bool.or_assoc]
                  obtain ⟨bq, hbq⟩ : ∃ b, (a0 || (true && (js.take q).any (fun j => Q.getD j false))) = b := ⟨_, rfl⟩
                  rw [hbq] at hany ⊢
                  have HAN := Hid.out (p := Hid _) hany
                  have HQL := Hid.out (p := Hid _) hql
                  clear hj1 hj3 hqj hbq hany hd hql
                  cases bq with
                  | true =>
                    go_wp2_with fail
                    go_roundw
                    case rel => exact ⟨q + 1, by omega, by go_num, by rw [HAN.out]; rfl, trivial⟩
                    case measure => simp [intOf]; omega
                  | false =>
                    go_wp2_with fail
                    go_roundw
                    case rel => exact ⟨q + 1, by omega, by go_num, by rw [HAN.out]; rfl, trivial⟩
                    case measure => simp [intOf]; omega
                · have hend : (a0 || (decide (wv ≠ (r : Int)) && (js.take q).any (fun j => Q.getD j false))) = nB X r Q k := by
                    rw [HNB.out Q]
                    by_cases hw : wv = (r : Int)
                    · simp [hw]
                    · have : q = nj := by
                        have := fun h => hql ⟨h, hw⟩
                        omega
                      rw [this, List.take_of_length_le (by rw [HLN.out.2.1]; exact Nat.le_refl _)]
                  rw [hend]
                  obtain ⟨nb, hnb⟩ : ∃ b, nB X r Q k = b := ⟨_, rfl⟩
                  rw [hnb]
                  have HNBV := Hid.out (p := Hid _) hnb
                  have ck := H5.out.2.1.cell (i := k) (by rw [HPA.out.len]; omega)
                  have cf := H5.out.2.1.free k
                  obtain ⟨qk, hqk⟩ : ∃ b, Q.getD k false = b := ⟨_, rfl⟩
                  rw [hqk] at ck
                  have HQK := Hid.out (p := Hid _) hqk
                  have hki2 : (k : Int) < (l : Int) + 1 := by omega
                  have hcond : ((q : Int) < (nj : Int)) = False ∨ ((q : Int) < (nj : Int)) = True ∧ (wv == (r : Int)) = true := by
                    by_cases h : q < nj
                    · refine Or.inr ⟨eq_true (by omega), ?_⟩
                      have : wv = (r : Int) := Classical.byContradiction fun e => hql ⟨h, e⟩
                      simpa using this
                    · exact Or.inl (eq_false (by omega))
                  clear hend hnb hqk hql
                  rcases hcond with hcond | ⟨hcond, hcw⟩
                  all_goals
                    cases nb with
                    | true =>
                      cases qk with
                      | true =>
                        have HP := Hid.out (p := Hid _) (HPA.out.stay (Or.inr HQK.out))
                        go_wp2_with fail
                        go_roundw
                        case rel => exact ⟨k, b, Q, by omega, by go_num, rfl, H5.out.2.1, H5.out.2.2, HP.out⟩
                        case measure => simp [intOf]
                      | false =>
                        have HP := Hid.out (p := Hid _) (HPA.out.turn HNBV.out HQK.out)
                        have HW : Hid (BR (wr.setCell ⟨w.heap.size, k, none⟩ (.bool true)) w.heap.size (Q.set k true) ∧ Below w.heap.size w (wr.setCell ⟨w.heap.size, k, none⟩ (.bool true))) := ⟨H5.out.2.1.put k true, H5.out.2.2.setCell (Nat.le_refl w.heap.size) _⟩
                        go_wp2_with fail
                        go_roundw
                        case rel => exact ⟨k, true, Q.set k true, by omega, by go_num, rfl, HW.out.1, HW.out.2, HP.out⟩
                        case measure => simp [intOf]
                    | false =>
                      have HP := Hid.out (p := Hid _) (HPA.out.stay (Or.inl HNBV.out))
                      go_wp2_with fail
                      go_roundw
                      case rel => exact ⟨k, b, Q, by omega, by go_num, rfl, H5.out.2.1, H5.out.2.2, HP.out⟩
                      case measure => simp [intOf]
        | zero =>
          have hm1 : ((0 : Nat) : Int) - 1 = -1 := by omega
          rw [hm1]
          have HR : Hid (BR wr w.heap.size Q ∧ Below w.heap.size w wr ∧ Q.length = l + 1 ∧ (∀ j, Q.getD j false = true → Lv X l r j) ∧ (b = false → ∀ i, Q.getD i false = true ↔ Lv X l r i)) := ⟨HJ.out.1, HJ.out.2.1, HJ.out.2.2.len, HJ.out.2.2.sound, fun e => by have h := HJ.out.2.2; rw [e] at h; exact h.done⟩
          have HLT : Hid ((if b then 1 + cntF Q else 0) < gk) := by
            have h1 := HI.out.2.2.2.2.2
            simp only [if_true] at h1
            show _ < _
            cases b with
            | true => have := HJ.out.2.2.less rfl; simp only [if_true]; omega
            | false => simp only [Bool.false_eq_true, if_false]; omega
          clear hm1
          go_wp2_with fail
          go_roundg (if b then 1 + cntF Q else 0)
          case rel => exact ⟨b, Q, rfl, HR.out.1, HR.out.2.1, HR.out.2.2.1, HR.out.2.2.2.1, HR.out.2.2.2.2, rfl⟩
          case measure => exact HLT.out
    | false =>
      go_wp2_with fail
      go_ret
      have HF := HI.out
      exact ⟨_, rfl, R, HF.1, HF.2.2.1, HF.2.2.2.2.1 trivial, HF.2.1, Nat.le_refl _⟩
end

end Go.Proofs.YtocfocjnnjdcgaaDoor
