/-
  What an order reads, in a list of one's own.
-/
import Derived.Test.YtkailbdjilkneaaDoorLivC
namespace Go.Proofs.YtkailbdjilkneaaDoor
open Go.RowKit

section
attribute [local go_sem ↓] appS_eq
set_option maxRecDepth 100000 in
set_option maxHeartbeats 3200000 in
/-- What an order reads, in a list of one's own. -/
theorem reads_own (op a b c : Int) (ho : 1 ≤ op ∧ op ≤ 18) (w : World) :
    Calls Tryd.prog 84 #[ints4 op a b c] w fun e w' => ∃ ra rc, e = .returned (.slice ra (rdL op a b c).length rc) ∧ OwL w' w.heap.size (.slice ra (rdL op a b c).length rc) (rdL op a b c) ∧ Below w.heap.size w w' := by
  obtain ⟨hrd, hlen, hin⟩ := us_rd a b c ho
  have hbx := heap_alloc_new w (.cells #[.int .i64 op, .int .i64 a, .int .i64 b, .int .i64 c] 44)
  have HU := Hid.out (p := Hid _) (uses_any op a b c ho (w.alloc (.cells #[.int .i64 op, .int .i64 a, .int .i64 b, .int .i64 c] 44)) w.heap.size hbx)
  have HAT : Hid (∀ V, Below (w.alloc (.cells #[.int .i64 op, .int .i64 a, .int .i64 b, .int .i64 c] 44)).heap.size (w.alloc (.cells #[.int .i64 op, .int .i64 a, .int .i64 b, .int .i64 c] 44)) V → Below w.heap.size w V ∧ ∀ x, 1 ≤ x ∧ x ≤ 3 → V.cell? ⟨w.heap.size, x, none⟩ = some (.int .i64 (fldI a b c x))) := fun V hV => by
    have h1 := (hV.block _ (by simp)).trans hbx
    refine ⟨(below_one w _).trans (hV.mono (below_one w _).size), fun x hx => ?_⟩
    rcases (by omega : x = 1 ∨ x = 2 ∨ x = 3) with rfl | rfl | rfl
    all_goals exact box_cell h1 rfl
  obtain ⟨us, hus⟩ : ∃ us, usR op = us := ⟨_, rfl⟩
  rw [hus] at HU hrd hlen hin
  rw [hrd]
  have HIN := Hid.out (p := Hid _) (And.intro hlen hin)
  obtain ⟨F, hF⟩ : ∃ F, fldI a b c = F := ⟨_, rfl⟩
  rw [hF] at HAT ⊢
  obtain ⟨up, hup⟩ : ∃ up, ptrV w.heap.size (usW op) = up := ⟨_, rfl⟩
  rw [hup] at HU
  clear hrd hbx hus hF hlen hin hup ho
  go_enter Tryd.func84, Tryd.ntmps84
  go_wp2_with fail
  refine Calls.mono HU.out ?_
  rintro e w1 ⟨ra, rc, rfl, hP, hb⟩
  have H1 := Hid.out (p := Hid _) (And.intro hP hb)
  have HS : Hid (Below w.heap.size w w1) := (HAT.out w1 hb).1
  obtain ⟨n, hn⟩ : ∃ n, us.length = n := ⟨_, rfl⟩
  have HNL := Hid.out (p := Hid _) hn
  rw [hn] at ⊢
  clear hP hb HU hn
  go_wp2_with fail
  go_loopw [3, 14] (fun v x wr => ∃ k : Nat, k ≤ n ∧ x = .int .i64 k ∧ Hid (OwL wr w1.heap.size v ((us.take k).map F) ∧ Below w1.heap.size w1 wr)) (fun _ x _ => n - (intOf x).toNat)
  case atStart => exact ⟨0, Nat.zero_le _, rfl, owL_nil _ _, Below.refl _ _⟩
  case round =>
    obtain ⟨k, hk, rfl, HI⟩ := hrel
    by_cases hlt : k < n
    · obtain ⟨pb, po, e, hc⟩ := H1.out.1 k (by rw [HNL.out]; exact hlt)
      subst e
      obtain ⟨y, hy⟩ : ∃ y, us.getD k 0 = y := ⟨_, rfl⟩
      rw [hy] at hc
      have hyb : 1 ≤ y ∧ y ≤ 3 := by
        refine HIN.out.2 y ?_
        rw [← hy, List.getD_eq_getElem?_getD, List.getElem?_eq_getElem (by rw [HNL.out]; exact hlt)]
        exact List.getElem_mem _
      have hbw : Below (w.alloc (.cells #[.int .i64 op, .int .i64 a, .int .i64 b, .int .i64 c] 44)).heap.size (w.alloc (.cells #[.int .i64 op, .int .i64 a, .int .i64 b, .int .i64 c] 44)) wr := H1.out.2.trans (HI.out.2.mono H1.out.2.size)
      have hcw := (HI.out.2.cell (lt_of_cell hc)).trans hc
      have hfx := (HAT.out wr hbw).2 y hyb
      obtain ⟨ua, uc, hu⟩ := HI.out.1.form
      have hl1 : ((us.take k).map F).length = k := by rw [List.length_map, List.length_take, HNL.out]; omega
      have hl2 : (us.take (k + 1)).map F = (us.take k).map F ++ [F y] := by
        rw [List.take_add_one, List.map_append, ← hy, List.getD_eq_getElem?_getD, List.getElem?_eq_getElem (by rw [HNL.out]; exact hlt)]
        rfl
      have hkn := HIN.out.1
      rw [HNL.out] at hkn
      obtain ⟨g9, cap, w3, r1, r2, r3⟩ := app_num HI.out.1 (Below.refl _ _) HI.out.2.size (F y) (by rw [hl1]; omega)
      rw [hu] at r1
      rw [hl1] at hu r1 r2
      rw [← hl2] at r2
      have HN : Hid (OwL w3 w1.heap.size (.slice (some ⟨g9, 0, none⟩) (k + 1) cap) ((us.take (k + 1)).map F) ∧ Below w1.heap.size w1 w3) := ⟨r2, r3 w1 HI.out.2⟩
      have hki : (k : Int) < (n : Int) := by omega
      clear r2 r3 hbw hc hy hyb hl1 hl2 HI
      subst hu
      go_wp2_with fail
      go_roundw
      case rel => exact ⟨k + 1, by omega, by go_num, HN.out⟩
      case measure => simp [intOf]; omega
    · obtain rfl : n = k := by omega
      go_wp2_with fail
      have h1 := HI.out.1
      rw [← HNL.out, List.take_length] at h1
      obtain ⟨ua, uc, hu⟩ := h1.form
      subst hu
      refine bodyPost_ret (v := .slice ua (us.map F).length uc) (by simp [results, Tryd.results84, go_sem]) rfl ⟨ua, uc, rfl, h1.low HS.out.size, HS.out.trans (HI.out.2.mono HS.out.size)⟩
end

end Go.Proofs.YtkailbdjilkneaaDoor
