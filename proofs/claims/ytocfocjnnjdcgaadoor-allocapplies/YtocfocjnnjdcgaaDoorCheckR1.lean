/-
  What an order reads, in a list of one's own.
  What the document's Check does.
-/
import Derived.Test.YtocfocjnnjdcgaaDoorLivC
import Derived.Test.YtocfocjnnjdcgaaDoorCheckA
namespace Go.Proofs.YtocfocjnnjdcgaaDoor
section
open Go.RowKit

section
attribute [local go_sem ↓] appS_eq
set_option maxRecDepth 100000 in
set_option maxHeartbeats 3200000 in
/-- What an order reads, in a list of one's own. -/
theorem reads_own (op a b c : Int) (ho : 1 ≤ op ∧ op ≤ 18) (w : World) :
    Calls Tryd.prog 61 #[ints4 op a b c] w fun e w' => ∃ ra rc, e = .returned (.slice ra (rdL op a b c).length rc) ∧ OwL w' w.heap.size (.slice ra (rdL op a b c).length rc) (rdL op a b c) ∧ Below w.heap.size w w' := by
  obtain ⟨hrd, hlen, hin⟩ := us_rd a b c ho
  have hbx := heap_alloc_new w (.cells #[.int .i64 op, .int .i64 a, .int .i64 b, .int .i64 c] 55)
  have HU := Hid.out (p := Hid _) (uses_any op a b c ho (w.alloc (.cells #[.int .i64 op, .int .i64 a, .int .i64 b, .int .i64 c] 55)) w.heap.size hbx)
  have HAT : Hid (∀ V, Below (w.alloc (.cells #[.int .i64 op, .int .i64 a, .int .i64 b, .int .i64 c] 55)).heap.size (w.alloc (.cells #[.int .i64 op, .int .i64 a, .int .i64 b, .int .i64 c] 55)) V → Below w.heap.size w V ∧ ∀ x, 1 ≤ x ∧ x ≤ 3 → V.cell? ⟨w.heap.size, x, none⟩ = some (.int .i64 (fldI a b c x))) := fun V hV => by
    have h1 := (hV.block _ (by simp)).trans hbx
    refine ⟨(below_one w _).trans (hV.mono (below_one w _).size), fun x hx => ?_⟩
    rcases (by omega : x = 1 ∨ x = 2 ∨ x = 3) with rfl | rfl | rfl
    all_goals exact box_cell h1 rfl
  obtain ⟨us, hus⟩ : ∃ us, usR op = us := ⟨_, rfl⟩
  rw [hus] at HU hrd hlen hin
  rw [hrd]
  have HIN := Hid.out (p := Hid _) (And.intro hlen hin)
  obtain ⟨F, hF⟩ : ∃ F, fldI a b c = F := ⟨_, rfl⟩
  rw [hF] at HAT ⊢
  obtain ⟨up, hup⟩ : ∃ up, ptrV w.heap.size (usW op) = up := ⟨_, rfl⟩
  rw [hup] at HU
  clear hrd hbx hus hF hlen hin hup ho
  go_enter Tryd.func61, Tryd.ntmps61
  go_wp2_with fail
  refine Calls.mono HU.out ?_
  rintro e w1 ⟨ra, rc, rfl, hP, hb⟩
  have H1 := Hid.out (p := Hid _) (And.intro hP hb)
  have HS : Hid (Below w.heap.size w w1) := (HAT.out w1 hb).1
  obtain ⟨n, hn⟩ : ∃ n, us.length = n := ⟨_, rfl⟩
  have HNL := Hid.out (p := Hid _) hn
  rw [hn] at ⊢
  clear hP hb HU hn
  go_wp2_with fail
  go_loopw [3, 14] (fun v x wr => ∃ k : Nat, k ≤ n ∧ x = .int .i64 k ∧ Hid (OwL wr w1.heap.size v ((us.take k).map F) ∧ Below w1.heap.size w1 wr)) (fun _ x _ => n - (intOf x).toNat)
  case atStart => exact ⟨0, Nat.zero_le _, rfl, owL_nil _ _, Below.refl _ _⟩
  case round =>
    obtain ⟨k, hk, rfl, HI⟩ := hrel
    by_cases hlt : k < n
    · obtain ⟨pb, po, e, hc⟩ := H1.out.1 k (by rw [HNL.out]; exact hlt)
      subst e
      obtain ⟨y, hy⟩ : ∃ y, us.getD k 0 = y := ⟨_, rfl⟩
      rw [hy] at hc
      have hyb : 1 ≤ y ∧ y ≤ 3 := by
        refine HIN.out.2 y ?_
        rw [← hy, List.getD_eq_getElem?_getD, List.getElem?_eq_getElem (by rw [HNL.out]; exact hlt)]
        exact List.getElem_mem _
      have hbw : Below (w.alloc (.cells #[.int .i64 op, .int .i64 a, .int .i64 b, .int .i64 c] 55)).heap.size (w.alloc (.cells #[.int .i64 op, .int .i64 a, .int .i64 b, .int .i64 c] 55)) wr := H1.out.2.trans (HI.out.2.mono H1.out.2.size)
      have hcw := (HI.out.2.cell (lt_of_cell hc)).trans hc
      have hfx := (HAT.out wr hbw).2 y hyb
      obtain ⟨ua, uc, hu⟩ := HI.out.1.form
      have hl1 : ((us.take k).map F).length = k := by rw [List.length_map, List.length_take, HNL.out]; omega
      have hl2 : (us.take (k + 1)).map F = (us.take k).map F ++ [F y] := by
        rw [List.take_add_one, List.map_append, ← hy, List.getD_eq_getElem?_getD, List.getElem?_eq_getElem (by rw [HNL.out]; exact hlt)]
        rfl
      have hkn := HIN.out.1
      rw [HNL.out] at hkn
      obtain ⟨g9, cap, w3, r1, r2, r3⟩ := app_num HI.out.1 (Below.refl _ _) HI.out.2.size (F y) (by rw [hl1]; omega)
      rw [hu] at r1
      rw [hl1] at hu r1 r2
      rw [← hl2] at r2
      have HN : Hid (OwL w3 w1.heap.size (.slice (some ⟨g9, 0, none⟩) (k + 1) cap) ((us.take (k + 1)).map F) ∧ Below w1.heap.size w1 w3) := ⟨r2, r3 w1 HI.out.2⟩
      have hki : (k : Int) < (n : Int) := by omega
      clear r2 r3 hbw hc hy hyb hl1 hl2 HI
      subst hu
      go_wp2_with fail
      go_roundw
      case rel => exact ⟨k + 1, by omega, by go_num, HN.out⟩
      case measure => simp [intOf]; omega
    · obtain rfl : n = k := by omega
      go_wp2_with fail
      have h1 := HI.out.1
      rw [← HNL.out, List.take_length] at h1
      obtain ⟨ua, uc, hu⟩ := h1.form
      subst hu
      refine bodyPost_ret (v := .slice ua (us.map F).length uc) (by simp [results, Tryd.results61, go_sem]) rfl ⟨ua, uc, rfl, h1.low HS.out.size, HS.out.trans (HI.out.2.mono HS.out.size)⟩
end
end

section
open Go.RowKit

set_option maxHeartbeats 1000000 in
theorem rcheck_size (ca : Option Addr) (n cc : Nat) (wa : Option Addr) (m wc : Nat) (lk rg : Int) (h : (n : Int) < 1 ∨ 4 < (n : Int) ∨ 64 < (m : Int)) (w : World) :
    Calls Tryd.prog 10 #[prgV ca n cc wa m wc lk rg] w fun e w' => e = .returned (ints3 1 0 0) ∧ Below w.heap.size w w' := by
  rcases (by omega : (n : Int) < 1 ∨ ((1 ≤ (n : Int) ∧ 4 < (n : Int)) ∨ ((1 ≤ (n : Int) ∧ (n : Int) ≤ 4) ∧ 64 < (m : Int)))) with h1 | h1 | h1
  all_goals
    clear h
    go_enter Tryd.func10, Tryd.ntmps10
    go_wp2
    exact bodyPost_ret (v := ints3 1 0 0) (by simp [results, Tryd.results10, go_sem]) rfl
      ⟨rfl, ((Below.refl _ _).alloc (Nat.le_refl _) _).alloc (by simp) _⟩

set_option maxHeartbeats 1000000 in
theorem rcheck_range (ca : Option Addr) (n cc : Nat) (wa : Option Addr) (m wc : Nat) (lk rg : Int) (h1 : 1 ≤ (n : Int) ∧ (n : Int) ≤ 4) (h2 : (m : Int) ≤ 64) (h : lk < 0 ∨ 4 < lk ∨ rg < 1 ∨ 200 < rg) (w : World) :
    Calls Tryd.prog 10 #[prgV ca n cc wa m wc lk rg] w fun e w' => e = .returned (ints3 3 0 0) ∧ Below w.heap.size w w' := by
  rcases (by omega : lk < 0 ∨ (0 ≤ lk ∧ 4 < lk) ∨ ((0 ≤ lk ∧ lk ≤ 4) ∧ rg < 1) ∨ ((0 ≤ lk ∧ lk ≤ 4) ∧ 1 ≤ rg ∧ 200 < rg)) with h3 | h3 | h3 | h3
  all_goals
    clear h
    go_enter Tryd.func10, Tryd.ntmps10
    go_wp2
    exact bodyPost_ret (v := ints3 3 0 0) (by simp [results, Tryd.results10, go_sem]) rfl
      ⟨rfl, ((Below.refl _ _).alloc (Nat.le_refl _) _).alloc (by simp) _⟩

/-- The kinds by their number. -/
def kj (x y z : Int) (k : Nat) : Int := if k = 0 then x else if k = 1 then y else z

theorem ks_spec {op x y z : Int} (h : kd op = some (x, y, z)) :
     (ks op).size ≤ 3 ∧ (∀ k (hk : k < (ks op).size), (1 ≤ kj x y z k ∧ kj x y z k ≤ 5) ∧ ((ks op)[k].toNat : Int) = letter (kj x y z k)) ∧ ∀ k, (ks op).size ≤ k → k < 3 → kj x y z k = 0 := by
  rcases op_cases op with h1 | rfl | rfl | rfl | rfl | rfl | rfl | rfl | rfl | rfl | rfl | rfl | rfl | rfl | rfl | rfl | rfl | rfl | rfl
  · rw [kd_out h1] at h; cases h
  all_goals
    simp only [kd] at h
    simp at h
    obtain ⟨rfl, rfl, rfl⟩ := h
    refine ⟨by decide, ?_, ?_⟩
    · intro k hk
      have hk' : k < 3 := Nat.lt_of_lt_of_le hk (by decide)
      rcases (by omega : k = 0 ∨ k = 1 ∨ k = 2) with rfl | rfl | rfl <;> first | exact absurd hk (by decide) | exact ⟨⟨by decide, by decide⟩, rfl⟩
    · intro k hk hk3
      rcases (by omega : k = 0 ∨ k = 1 ∨ k = 2) with rfl | rfl | rfl <;> first | exact absurd hk (by decide) | decide
end

end Go.Proofs.YtocfocjnnjdcgaaDoor
