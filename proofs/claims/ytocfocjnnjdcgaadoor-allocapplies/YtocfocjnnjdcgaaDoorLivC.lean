/-
  What an order reads, what it writes, where it leads, by the program and by the document.
-/
import Derived.Test.YtocfocjnnjdcgaaDoorLivP
import Derived.Test.YtocfocjnnjdcgaaDoorLivL
import Derived.Test.YtocfocjnnjdcgaaDoorAppB
import Derived.Test.YtocfocjnnjdcgaaDoorRead
namespace Go.Proofs.YtocfocjnnjdcgaaDoor
open Go.RowKit

theorem sis_new (V : World) (l : List Int) (g : Nat) (h : V.heap[g]? = some (.cells (intsV l).toArray 3)) : SIs V (some ⟨g, 0, none⟩) l := fun k hk => by
  refine ⟨g, 0, rfl, box_cell h ?_⟩
  rw [Nat.zero_add]
  simpa using intsV_at hk
theorem sis_nil (V : World) (a : Option Addr) : SIs V a [] := fun _ hk => absurd hk (Nat.not_lt_zero _)
theorem sis_one (w : World) (o : Obj) (x : Int) : SIs ((w.alloc o).alloc (.cells #[.int .i64 x] 3)) (some ⟨w.heap.size + 1, 0, none⟩) [x] := by
  refine sis_new _ [x] _ ?_
  have := heap_alloc_new (w.alloc o) (.cells #[.int .i64 x] 3)
  rw [World.size_alloc] at this
  exact this
theorem sis_two (w : World) (o : Obj) (x y : Int) : SIs ((w.alloc o).alloc (.cells #[.int .i64 x, .int .i64 y] 3)) (some ⟨w.heap.size + 1, 0, none⟩) [x, y] := by
  refine sis_new _ [x, y] _ ?_
  have := heap_alloc_new (w.alloc o) (.cells #[.int .i64 x, .int .i64 y] 3)
  rw [World.size_alloc] at this
  exact this
theorem below_two (w : World) (o p : Obj) : Below w.heap.size w ((w.alloc o).alloc p) := ((Below.refl _ _).alloc (Nat.le_refl _) _).alloc (by simp) _
theorem below_one (w : World) (o : Obj) : Below w.heap.size w (w.alloc o) := (Below.refl _ _).alloc (Nat.le_refl _) _

/-- Where the numbers lie of the registers that an order reads; of the one that it writes, if any. -/
def usR (op : Int) : List Nat := if op = 2 ∨ op = 9 ∨ op = 10 then [2] else if op = 11 then [1, 2] else if op = 3 ∨ op = 4 ∨ op = 5 ∨ op = 6 ∨ op = 7 ∨ op = 13 then [2, 3] else if op = 15 ∨ op = 16 then [1] else []
def usW (op : Int) : Nat := if op = 1 ∨ op = 2 ∨ op = 3 ∨ op = 4 ∨ op = 5 ∨ op = 6 ∨ op = 7 ∨ op = 8 ∨ op = 10 then 1 else if op = 13 then 2 else 0
def fldI (a b c : Int) (k : Nat) : Int := if k = 1 then a else if k = 2 then b else c
theorem us_rd {op : Int} (a b c : Int) (ho : 1 ≤ op ∧ op ≤ 18) : rdL op a b c = (usR op).map (fldI a b c) ∧ (usR op).length ≤ 2 ∧ ∀ x, x ∈ usR op → 1 ≤ x ∧ x ≤ 3 := by
  rcases (by omega : op = 1 ∨ op = 2 ∨ op = 3 ∨ op = 4 ∨ op = 5 ∨ op = 6 ∨ op = 7 ∨ op = 8 ∨ op = 9 ∨ op = 10 ∨ op = 11 ∨ op = 12 ∨ op = 13 ∨ op = 14 ∨ op = 15 ∨ op = 16 ∨ op = 17 ∨ op = 18) with rfl | rfl | rfl | rfl | rfl | rfl | rfl | rfl | rfl | rfl | rfl | rfl | rfl | rfl | rfl | rfl | rfl | rfl
  all_goals exact ⟨rfl, by decide, by decide⟩
/-- Pointers to these. -/
def PtrsIn (w : World) (ra : Option Addr) (g : Nat) (us : List Nat) : Prop := ∀ k, k < us.length → ∃ b o, ra = some ⟨b, o, none⟩ ∧ w.cell? ⟨b, o + k, none⟩ = some (.pointer (some ⟨g, us.getD k 0, none⟩))
def ptrV (g k : Nat) : Value := .pointer (if k = 0 then none else some ⟨g, k, none⟩)
theorem ptrs_none (w : World) (ra : Option Addr) (g : Nat) : PtrsIn w ra g [] := fun _ h => absurd h (Nat.not_lt_zero _)
theorem ptrs_new {V : World} {g n x y : Nat} {c : Array Value} (h : V.heap[n]? = some (.cells c 105)) (h0 : c[0]? = some (.pointer (some ⟨g, x, none⟩))) (h1 : c[1]? = some (.pointer (some ⟨g, y, none⟩)) ∨ c[1]? = none ∧ True) : PtrsIn V (some ⟨n, 0, none⟩) g (if c[1]? = none then [x] else [x, y]) := fun k hk => by
  refine ⟨n, 0, rfl, ?_⟩
  rw [Nat.zero_add]
  rcases h1 with h1 | ⟨h1, _⟩
  · rw [h1, if_neg (by simp)] at hk ⊢
    match k, hk with
    | 0, _ => exact box_cell h h0
    | 1, _ => exact box_cell h h1
  · rw [h1, if_pos rfl] at hk ⊢
    match k, hk with
    | 0, _ => exact box_cell h h0
theorem ptrs_one (w : World) (g x : Nat) : PtrsIn (w.alloc (.cells #[.pointer (some ⟨g, x, none⟩)] 105)) (some ⟨w.heap.size, 0, none⟩) g [x] := ptrs_new (y := 0) (heap_alloc_new w _) rfl (Or.inr ⟨rfl, trivial⟩)
theorem ptrs_two (w : World) (g x y : Nat) : PtrsIn (w.alloc (.cells #[.pointer (some ⟨g, x, none⟩), .pointer (some ⟨g, y, none⟩)] 105)) (some ⟨w.heap.size, 0, none⟩) g [x, y] := ptrs_new (heap_alloc_new w _) rfl (Or.inl rfl)

set_option maxHeartbeats 3200000 in
theorem uses_any (op a b c : Int) (ho : 1 ≤ op ∧ op ≤ 18) (w : World) (g : Nat) (hg : w.heap[g]? = some (.cells #[.int .i64 op, .int .i64 a, .int .i64 b, .int .i64 c] 55)) :
    Calls Tryd.prog 60 #[.pointer (some ⟨g, 0, none⟩)] w fun e w' => ∃ ra rc, e = .returned (.tuple #[.slice ra (usR op).length rc, ptrV g (usW op)]) ∧ PtrsIn w' ra g (usR op) ∧ Below w.heap.size w w' := by
  have c0 : w.cell? ⟨g, 0, none⟩ = some (.int .i64 op) := box_cell hg rfl
  clear hg
  rcases (by omega : op = 1 ∨ op = 2 ∨ op = 3 ∨ op = 4 ∨ op = 5 ∨ op = 6 ∨ op = 7 ∨ op = 8 ∨ op = 9 ∨ op = 10 ∨ op = 11 ∨ op = 12 ∨ op = 13 ∨ op = 14 ∨ op = 15 ∨ op = 16 ∨ op = 17 ∨ op = 18) with rfl | rfl | rfl | rfl | rfl | rfl | rfl | rfl | rfl | rfl | rfl | rfl | rfl | rfl | rfl | rfl | rfl | rfl
  all_goals
    clear ho
    go_enter Tryd.func60, Tryd.ntmps60
    go_wp2
    try (go_region <;> go_wp2)
  all_goals go_ret2
  all_goals first
    | exact ⟨_, _, rfl, ptrs_two _ _ _ _, by first | exact below_one _ _ | exact (below_one _ _).drew | exact below_drewN (below_one _ _)⟩
    | exact ⟨_, _, rfl, ptrs_one _ _ _, by first | exact below_one _ _ | exact (below_one _ _).drew | exact below_drewN (below_one _ _)⟩
    | exact ⟨_, _, rfl, ptrs_none _ _ _, by first | exact Below.refl _ _ | exact (Below.refl _ _).drew⟩

theorem ptrV_0 (g : Nat) : ptrV g 0 = .pointer none := rfl
theorem ptrV_1 (g : Nat) : ptrV g 1 = .pointer (some ⟨g, 1, none⟩) := rfl
theorem ptrV_2 (g : Nat) : ptrV g 2 = .pointer (some ⟨g, 2, none⟩) := rfl
theorem us_wr {op : Int} (a b : Int) (ho : 1 ≤ op ∧ op ≤ 18) : (usW op = 0 ∧ wrL op a b = -1) ∨ (usW op = 1 ∧ wrL op a b = a ∧ (op = 1 ∨ op = 2 ∨ op = 3 ∨ op = 4 ∨ op = 5 ∨ op = 6 ∨ op = 7 ∨ op = 8 ∨ op = 10 ∨ op = 13)) ∨ (usW op = 2 ∧ wrL op a b = b ∧ (op = 1 ∨ op = 2 ∨ op = 3 ∨ op = 4 ∨ op = 5 ∨ op = 6 ∨ op = 7 ∨ op = 8 ∨ op = 10 ∨ op = 13)) := by
  rcases (by omega : op = 1 ∨ op = 2 ∨ op = 3 ∨ op = 4 ∨ op = 5 ∨ op = 6 ∨ op = 7 ∨ op = 8 ∨ op = 9 ∨ op = 10 ∨ op = 11 ∨ op = 12 ∨ op = 13 ∨ op = 14 ∨ op = 15 ∨ op = 16 ∨ op = 17 ∨ op = 18) with rfl | rfl | rfl | rfl | rfl | rfl | rfl | rfl | rfl | rfl | rfl | rfl | rfl | rfl | rfl | rfl | rfl | rfl
  all_goals first
    | exact Or.inl ⟨rfl, rfl⟩
    | exact Or.inr (Or.inl ⟨rfl, rfl, by decide⟩)
    | exact Or.inr (Or.inr ⟨rfl, rfl, by decide⟩)

section
attribute [local go_sem ↓] appS_eq
set_option maxRecDepth 100000 in
set_option maxHeartbeats 3200000 in
theorem reads_any (op a b c : Int) (ho : 1 ≤ op ∧ op ≤ 18) (w : World) :
    Calls Tryd.prog 61 #[ints4 op a b c] w fun e w' => ∃ ra rc, e = .returned (.slice ra (rdL op a b c).length rc) ∧ SIs w' ra (rdL op a b c) ∧ Below w.heap.size w w' := by
  obtain ⟨hrd, hlen, hin⟩ := us_rd a b c ho
  have hbx := heap_alloc_new w (.cells #[.int .i64 op, .int .i64 a, .int .i64 b, .int .i64 c] 55)
  have HU := Hid.out (p := Hid _) (uses_any op a b c ho (w.alloc (.cells #[.int .i64 op, .int .i64 a, .int .i64 b, .int .i64 c] 55)) w.heap.size hbx)
  have HAT : Hid (∀ V, Below (w.alloc (.cells #[.int .i64 op, .int .i64 a, .int .i64 b, .int .i64 c] 55)).heap.size (w.alloc (.cells #[.int .i64 op, .int .i64 a, .int .i64 b, .int .i64 c] 55)) V → Below w.heap.size w V ∧ ∀ x, 1 ≤ x ∧ x ≤ 3 → V.cell? ⟨w.heap.size, x, none⟩ = some (.int .i64 (fldI a b c x))) := fun V hV => by
    have h1 := (hV.block _ (by simp)).trans hbx
    refine ⟨(below_one w _).trans (hV.mono (below_one w _).size), fun x hx => ?_⟩
    rcases (by omega : x = 1 ∨ x = 2 ∨ x = 3) with rfl | rfl | rfl
    all_goals exact box_cell h1 rfl
  obtain ⟨us, hus⟩ : ∃ us, usR op = us := ⟨_, rfl⟩
  rw [hus] at HU hrd hlen hin
  rw [hrd]
  have HIN := Hid.out (p := Hid _) (And.intro hlen hin)
  obtain ⟨F, hF⟩ : ∃ F, fldI a b c = F := ⟨_, rfl⟩
  rw [hF] at HAT ⊢
  obtain ⟨up, hup⟩ : ∃ up, ptrV w.heap.size (usW op) = up := ⟨_, rfl⟩
  rw [hup] at HU
  clear hrd hbx hus hF hlen hin hup ho
  go_enter Tryd.func61, Tryd.ntmps61
  go_wp2_with fail
  refine Calls.mono HU.out ?_
  rintro e w1 ⟨ra, rc, rfl, hP, hb⟩
  have H1 := Hid.out (p := Hid _) (And.intro hP hb)
  have HS : Hid (Below w.heap.size w w1) := (HAT.out w1 hb).1
  obtain ⟨n, hn⟩ : ∃ n, us.length = n := ⟨_, rfl⟩
  have HNL := Hid.out (p := Hid _) hn
  rw [hn] at ⊢
  clear hP hb HU hn
  go_wp2_with fail
  go_loopw [3, 14] (fun v x wr => ∃ k : Nat, k ≤ n ∧ x = .int .i64 k ∧ Hid (OwL wr w1.heap.size v ((us.take k).map F) ∧ Below w1.heap.size w1 wr)) (fun _ x _ => n - (intOf x).toNat)
  case atStart => exact ⟨0, Nat.zero_le _, rfl, owL_nil _ _, Below.refl _ _⟩
  case round =>
    obtain ⟨k, hk, rfl, HI⟩ := hrel
    by_cases hlt : k < n
    · obtain ⟨pb, po, e, hc⟩ := H1.out.1 k (by rw [HNL.out]; exact hlt)
      subst e
      obtain ⟨y, hy⟩ : ∃ y, us.getD k 0 = y := ⟨_, rfl⟩
      rw [hy] at hc
      have hyb : 1 ≤ y ∧ y ≤ 3 := by
        refine HIN.out.2 y ?_
        rw [← hy, List.getD_eq_getElem?_getD, List.getElem?_eq_getElem (by rw [HNL.out]; exact hlt)]
        exact List.getElem_mem _
      have hbw : Below (w.alloc (.cells #[.int .i64 op, .int .i64 a, .int .i64 b, .int .i64 c] 55)).heap.size (w.alloc (.cells #[.int .i64 op, .int .i64 a, .int .i64 b, .int .i64 c] 55)) wr := H1.out.2.trans (HI.out.2.mono H1.out.2.size)
      have hcw := (HI.out.2.cell (lt_of_cell hc)).trans hc
      have hfx := (HAT.out wr hbw).2 y hyb
      obtain ⟨ua, uc, hu⟩ := HI.out.1.form
      have hl1 : ((us.take k).map F).length = k := by rw [List.length_map, List.length_take, HNL.out]; omega
      have hl2 : (us.take (k + 1)).map F = (us.take k).map F ++ [F y] := by
        rw [List.take_add_one, List.map_append, ← hy, List.getD_eq_getElem?_getD, List.getElem?_eq_getElem (by rw [HNL.out]; exact hlt)]
        rfl
      have hkn := HIN.out.1
      rw [HNL.out] at hkn
      obtain ⟨g9, cap, w3, r1, r2, r3⟩ := app_num HI.out.1 (Below.refl _ _) HI.out.2.size (F y) (by rw [hl1]; omega)
      rw [hu] at r1
      rw [hl1] at hu r1 r2
      rw [← hl2] at r2
      have HN : Hid (OwL w3 w1.heap.size (.slice (some ⟨g9, 0, none⟩) (k + 1) cap) ((us.take (k + 1)).map F) ∧ Below w1.heap.size w1 w3) := ⟨r2, r3 w1 HI.out.2⟩
      have hki : (k : Int) < (n : Int) := by omega
      clear r2 r3 hbw hc hy hyb hl1 hl2 HI
      subst hu
      go_wp2_with fail
      go_roundw
      case rel => exact ⟨k + 1, by omega, by go_num, HN.out⟩
      case measure => simp [intOf]; omega
    · obtain rfl : n = k := by omega
      go_wp2_with fail
      have h1 := HI.out.1
      rw [← HNL.out, List.take_length] at h1
      obtain ⟨ua, uc, hu⟩ := h1.form
      subst hu
      refine bodyPost_ret (v := .slice ua (us.map F).length uc) (by simp [results, Tryd.results61, go_sem]) rfl ⟨ua, uc, rfl, h1.sis, HS.out.trans (HI.out.2.mono HS.out.size)⟩
end

set_option maxHeartbeats 3200000 in
theorem rreads_any (op a b c : Int) (ho : 1 ≤ op ∧ op ≤ 18) (w : World) :
    Calls Tryd.prog 56 #[ints4 op a b c] w fun e w' => ∃ ra rc, e = .returned (.slice ra (rdL op a b c).length rc) ∧ SIs w' ra (rdL op a b c) ∧ Below w.heap.size w w' := by
  rcases (by omega : op = 1 ∨ op = 2 ∨ op = 3 ∨ op = 4 ∨ op = 5 ∨ op = 6 ∨ op = 7 ∨ op = 8 ∨ op = 9 ∨ op = 10 ∨ op = 11 ∨ op = 12 ∨ op = 13 ∨ op = 14 ∨ op = 15 ∨ op = 16 ∨ op = 17 ∨ op = 18) with rfl | rfl | rfl | rfl | rfl | rfl | rfl | rfl | rfl | rfl | rfl | rfl | rfl | rfl | rfl | rfl | rfl | rfl
  all_goals
    clear ho
    go_enter Tryd.func56, Tryd.ntmps56
    go_wp2
    go_ret
    first
    | exact ⟨_, _, rfl, sis_two _ _ _ _, below_two _ _ _⟩
    | exact ⟨_, _, rfl, sis_one _ _ _, below_two _ _ _⟩
    | exact ⟨_, _, rfl, sis_nil _ _, below_one _ _⟩

set_option maxHeartbeats 3200000 in
theorem rwrites_any (op a b c : Int) (ho : 1 ≤ op ∧ op ≤ 18) (w : World) :
    Calls Tryd.prog 35 #[ints4 op a b c] w fun e w' => e = .returned (.int .i64 (wrL op a b)) ∧ Below w.heap.size w w' := by
  rcases (by omega : op = 1 ∨ op = 2 ∨ op = 3 ∨ op = 4 ∨ op = 5 ∨ op = 6 ∨ op = 7 ∨ op = 8 ∨ op = 9 ∨ op = 10 ∨ op = 11 ∨ op = 12 ∨ op = 13 ∨ op = 14 ∨ op = 15 ∨ op = 16 ∨ op = 17 ∨ op = 18) with rfl | rfl | rfl | rfl | rfl | rfl | rfl | rfl | rfl | rfl | rfl | rfl | rfl | rfl | rfl | rfl | rfl | rfl
  all_goals
    clear ho
    go_enter Tryd.func35, Tryd.ntmps35
    go_wp2
    go_ret
    exact ⟨rfl, below_one _ _⟩

set_option maxHeartbeats 3200000 in
theorem writes_any (op a b c : Int) (ho : 1 ≤ op ∧ op ≤ 18) (w : World) :
    Calls Tryd.prog 52 #[ints4 op a b c] w fun e w' => ((∃ x, e = .returned (.tuple #[.int .i64 x, .bool true]) ∧ x = wrL op a b ∧ (op = 1 ∨ op = 2 ∨ op = 3 ∨ op = 4 ∨ op = 5 ∨ op = 6 ∨ op = 7 ∨ op = 8 ∨ op = 10 ∨ op = 13)) ∨ (e = .returned (.tuple #[.int .i64 0, .bool false]) ∧ wrL op a b = -1)) ∧ Below w.heap.size w w' := by
  have hbx := heap_alloc_new w (.cells #[.int .i64 op, .int .i64 a, .int .i64 b, .int .i64 c] 55)
  have HU := Hid.out (p := Hid _) (uses_any op a b c ho (w.alloc (.cells #[.int .i64 op, .int .i64 a, .int .i64 b, .int .i64 c] 55)) w.heap.size hbx)
  have HAT : Hid (∀ V, Below (w.alloc (.cells #[.int .i64 op, .int .i64 a, .int .i64 b, .int .i64 c] 55)).heap.size (w.alloc (.cells #[.int .i64 op, .int .i64 a, .int .i64 b, .int .i64 c] 55)) V → Below w.heap.size w V ∧ V.cell? ⟨w.heap.size, 1, none⟩ = some (.int .i64 a) ∧ V.cell? ⟨w.heap.size, 2, none⟩ = some (.int .i64 b)) := fun V hV => by
    have h1 := (hV.block _ (by simp)).trans hbx
    exact ⟨(below_one w _).trans (hV.mono (below_one w _).size), box_cell h1 rfl, box_cell h1 rfl⟩
  have hw := us_wr a b ho
  clear ho hbx
  go_enter Tryd.func52, Tryd.ntmps52
  go_wp2_with fail
  refine Calls.mono HU.out ?_
  rintro e w1 ⟨ra, rc, rfl, -, hb⟩
  obtain ⟨q0, q1, q2⟩ := HAT.out w1 hb
  have HB := Hid.out (p := Hid _) q0
  clear hb q0 HU HAT
  rcases hw with ⟨h0, h1⟩ | ⟨h0, h1, h2⟩ | ⟨h0, h1, h2⟩
  · have HH := Hid.out (p := Hid _) h1
    rw [h0, ptrV_0]
    clear h0 h1
    go_wp2_with fail
    go_ret2
    exact ⟨Or.inr ⟨rfl, HH.out⟩, HB.out⟩
  · have HH := Hid.out (p := Hid _) (And.intro h1 h2)
    rw [h0, ptrV_1]
    clear h0 h1 h2
    go_wp2_with fail
    go_ret2
    exact ⟨Or.inl ⟨_, rfl, HH.out.1.symm, HH.out.2⟩, HB.out⟩
  · have HH := Hid.out (p := Hid _) (And.intro h1 h2)
    rw [h0, ptrV_2]
    clear h0 h1 h2
    go_wp2_with fail
    go_ret2
    exact ⟨Or.inl ⟨_, rfl, HH.out.1.symm, HH.out.2⟩, HB.out⟩

/-- The places that an order leads on to, as numbers. -/
def nxI (op a b : Int) (i : Nat) : List Int := (nxL op a b i).map fun (j : Nat) => (j : Int)
theorem nxI_jump {a b : Int} {i : Nat} (h : 0 ≤ a) : nxI 14 a b i = [a] := by
  unfold nxI nxL
  rw [if_pos rfl]
  simp
  omega
theorem nxI_zero {a b : Int} {i : Nat} (h : 0 ≤ b) : nxI 15 a b i = [(i : Int) + 1, b] := by
  unfold nxI nxL
  rw [if_neg (by decide), if_pos rfl]
  simp
  omega
theorem nxI_else {op a b : Int} {i : Nat} (h1 : op ≠ 14) (h2 : op ≠ 15) : nxI op a b i = [(i : Int) + 1] := by
  unfold nxI nxL
  rw [if_neg h1, if_neg h2]
  simp
theorem nxI_len (op a b : Int) (i : Nat) : (nxI op a b i).length = (nxL op a b i).length := by simp [nxI]

set_option maxHeartbeats 3200000 in
theorem next_any (op a b c : Int) (i : Nat) (hi : i ≤ 1000) (h14 : op = 14 → 0 ≤ a) (h15 : op = 15 → 0 ≤ b) (w : World) :
    Calls Tryd.prog 84 #[ints4 op a b c, .int .i64 i] w fun e w' => ∃ ra rc, e = .returned (.slice ra (nxI op a b i).length rc) ∧ SIs w' ra (nxI op a b i) ∧ Below w.heap.size w w' := by
  by_cases e14 : op = 14
  · subst e14
    rw [nxI_jump (h14 rfl)]
    clear h14 h15
    go_enter Tryd.func84, Tryd.ntmps84
    go_wp2
    go_ret
    exact ⟨_, _, rfl, sis_one _ _ _, below_two _ _ _⟩
  · have e14' : (op == 14) = false := by simpa using e14
    by_cases e15 : op = 15
    · subst e15
      rw [nxI_zero (h15 rfl)]
      clear h14 h15
      go_enter Tryd.func84, Tryd.ntmps84
      go_wp2
      go_ret
      exact ⟨_, _, rfl, sis_two _ _ _ _, below_two _ _ _⟩
    · have e15' : (op == 15) = false := by simpa using e15
      rw [nxI_else e14 e15]
      clear h14 h15 e14 e15
      go_enter Tryd.func84, Tryd.ntmps84
      go_wp2
      go_ret
      exact ⟨_, _, rfl, sis_one _ _ _, below_two _ _ _⟩

/-- An order in a slice. -/
def OrdAt (w : World) (ca : Option Addr) (i : Nat) (op a b c : Int) : Prop := ∃ g o, ca = some ⟨g, o, none⟩ ∧ w.cell? ⟨g, o + i * 4, none⟩ = some (.int .i64 op) ∧ w.cell? ⟨g, o + i * 4 + 1, none⟩ = some (.int .i64 a) ∧ w.cell? ⟨g, o + i * 4 + 2, none⟩ = some (.int .i64 b) ∧ w.cell? ⟨g, o + i * 4 + 3, none⟩ = some (.int .i64 c)
theorem OrdAt.below {w w' : World} {ca : Option Addr} {i : Nat} {op a b c : Int} (h : OrdAt w ca i op a b c) (hb : Below w.heap.size w w') : OrdAt w' ca i op a b c := by
  obtain ⟨g, o, e, c0, c1, c2, c3⟩ := h
  exact ⟨g, o, e, (hb.cell (lt_of_cell c0)).trans c0, (hb.cell (lt_of_cell c1)).trans c1, (hb.cell (lt_of_cell c2)).trans c2, (hb.cell (lt_of_cell c3)).trans c3⟩

set_option maxRecDepth 100000 in
set_option maxHeartbeats 3200000 in
theorem rnexts_all (w : World) (ca : Option Addr) (l cc : Nat) (op a b c : Int) (i : Nat) (hi : i < l) (hl : l ≤ 1000) (hord : OrdAt w ca i op a b c) (h14 : op = 14 → 0 ≤ a) (h15 : op = 15 → 0 ≤ b) :
    Calls Tryd.prog 36 #[.slice ca l cc, .int .i64 i] w fun e w' => ∃ ra rc, e = .returned (.slice ra (nxI op a b i).length rc) ∧ SIs w' ra (nxI op a b i) ∧ Below w.heap.size w w' := by
  obtain ⟨cb, co, rfl, c0, c1, c2, c3⟩ := hord
  have u0 := cell_up c0
  have u1 := cell_up c1
  have u2 := cell_up c2
  have u3 := cell_up c3
  by_cases e14 : op = 14
  · subst e14
    rw [nxI_jump (h14 rfl)]
    clear h14 h15
    go_enter Tryd.func36, Tryd.ntmps36
    go_wp2
    go_ret
    exact ⟨_, _, rfl, sis_one _ _ _, below_two _ _ _⟩
  · have e14' : (op == 14) = false := by simpa using e14
    by_cases e15 : op = 15
    · subst e15
      rw [nxI_zero (h15 rfl)]
      clear h14 h15
      go_enter Tryd.func36, Tryd.ntmps36
      go_wp2
      go_ret
      exact ⟨_, _, rfl, sis_two _ _ _ _, below_two _ _ _⟩
    · have e15' : (op == 15) = false := by simpa using e15
      rw [nxI_else e14 e15]
      clear h14 h15 e14 e15
      go_enter Tryd.func36, Tryd.ntmps36
      go_wp2
      go_ret
      exact ⟨_, _, rfl, sis_one _ _ _, below_two _ _ _⟩

end Go.Proofs.YtocfocjnnjdcgaaDoor
