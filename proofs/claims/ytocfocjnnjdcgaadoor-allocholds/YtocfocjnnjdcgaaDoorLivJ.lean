/-
  The document's side: which registers clash.
-/
import Derived.Test.YtocfocjnnjdcgaaDoorRDo8
import Derived.Test.YtocfocjnnjdcgaaDoorLivG
namespace Go.Proofs.YtocfocjnnjdcgaaDoor
open Go.RowKit

/-- What clashes as it is told so far: by the first k orders; register v with those of which T holds. -/
def CK (X : Nat → Nat → Int) (l k v rg : Nat) (T : Nat → Prop) (P : Nat → List Bool) : Prop := ∀ a b, a < rg → b < rg → ((P a).getD b false = true ↔ ClN X l k a b ∨ (a ≠ b ∧ ((a = v ∧ T b) ∨ (b = v ∧ T a))))
section
variable {X : Nat → Nat → Int} {l k v rg : Nat} {T T' : Nat → Prop} {P : Nat → List Bool}
theorem CK.same (h : CK X l k v rg T P) (ht : ∀ c, c < rg → (T c ↔ T' c)) : CK X l k v rg T' P := fun a b ha hb => by
  rw [h a b ha hb, ht a ha, ht b hb]
theorem CK.none (h : ∀ a b, a < rg → b < rg → ((P a).getD b false = true ↔ ClN X l k a b)) (ht : ∀ c, ¬ T c) : CK X l k v rg T P := fun a b ha hb => by
  rw [h a b ha hb]
  constructor
  · exact Or.inl
  · rintro (h1 | ⟨_, ⟨_, h1⟩ | ⟨_, h1⟩⟩)
    · exact h1
    · exact absurd h1 (ht _)
    · exact absurd h1 (ht _)
/-- One more register that v clashes with. -/
theorem CK.put (h : CK X l k v rg T P) {r : Nat} (hr : r < rg) (hv : v < rg) (hne : r ≠ v) (hl : ∀ a, a < rg → (P a).length = rg) : CK X l k v rg (fun c => T c ∨ c = r) (putP (putP P r v true) v r true) := fun a b ha hb => by
  have hlen : r < (putP P r v true v).length := by
    unfold putP
    split
    · rw [List.length_set, hl r hr]; exact hr
    · rw [hl v hv]; exact hr
  rw [putP_getD hlen, putP_getD (by rw [hl r hr]; exact hv)]
  by_cases h1 : a = v ∧ b = r
  · rw [if_pos h1]
    simp only [true_iff]
    exact Or.inr ⟨fun e => hne (by omega), Or.inl ⟨h1.1, Or.inr h1.2⟩⟩
  · rw [if_neg h1]
    by_cases h2 : a = r ∧ b = v
    · rw [if_pos h2]
      simp only [true_iff]
      exact Or.inr ⟨fun e => hne (by omega), Or.inr ⟨h2.2, Or.inr h2.1⟩⟩
    · rw [if_neg h2, h a b ha hb]
      constructor
      · rintro (h3 | ⟨h3, ⟨h4, h5⟩ | ⟨h4, h5⟩⟩)
        · exact Or.inl h3
        · exact Or.inr ⟨h3, Or.inl ⟨h4, Or.inl h5⟩⟩
        · exact Or.inr ⟨h3, Or.inr ⟨h4, Or.inl h5⟩⟩
      · rintro (h3 | ⟨h3, ⟨h4, h5 | h5⟩ | ⟨h4, h5 | h5⟩⟩)
        · exact Or.inl h3
        · exact Or.inr ⟨h3, Or.inl ⟨h4, h5⟩⟩
        · exact absurd ⟨h4, h5⟩ h1
        · exact Or.inr ⟨h3, Or.inr ⟨h4, h5⟩⟩
        · exact absurd ⟨h5, h4⟩ h2
theorem CK.done (h : CK X l k v rg (fun c => Bh X l c k) P) (hv : wrX X k = (v : Int)) : ∀ a b, a < rg → b < rg → ((P a).getD b false = true ↔ ClN X l (k + 1) a b) := fun a b ha hb => by
  rw [h a b ha hb]
  constructor
  · rintro (⟨h1, i, hi, h2⟩ | ⟨h1, ⟨h2, h3⟩ | ⟨h2, h3⟩⟩)
    · exact ⟨h1, i, by omega, h2⟩
    · exact ⟨h1, k, by omega, Or.inl ⟨by rw [h2]; exact hv, h3⟩⟩
    · exact ⟨h1, k, by omega, Or.inr ⟨by rw [h2]; exact hv, h3⟩⟩
  · rintro ⟨h1, i, hi, h2⟩
    by_cases e : i = k
    · subst e
      rw [hv] at h2
      rcases h2 with ⟨h2, h3⟩ | ⟨h2, h3⟩
      · exact Or.inr ⟨h1, Or.inl ⟨by omega, h3⟩⟩
      · exact Or.inr ⟨h1, Or.inr ⟨by omega, h3⟩⟩
    · exact Or.inl ⟨h1, i, by omega, h2⟩
end

theorem Grid.wide {w w2 W : World} {g m rg k : Nat} {G : Nat → Nat} {P : Nat → List Bool} (h : Grid w2 W g m rg k G P) (hb : Below w.heap.size w w2) : Grid w W g m rg k G P :=
  ⟨h.out, h.row, h.len, h.inj, ⟨Nat.le_trans hb.size h.lo.1, fun i hi => Nat.le_trans hb.size (h.lo.2 i hi)⟩, hb.trans (h.low.mono hb.size), h.km⟩
set_option maxRecDepth 100000 in
set_option maxHeartbeats 6400000 in
theorem rclash_any (w : World) (ca : Option Addr) (l cc : Nat) (X : Nat → Nat → Int) (rg m lk : Nat) (hl : l ≤ 1000) (hrg : rg ≤ 200) (hord : ∀ i, i < l → OrdAt w ca i (X i 0) (X i 1) (X i 2) (X i 3)) (hok : ∀ i, i < l → ordE rg m lk l (X i 0) (X i 1) (X i 2) (X i 3) = 0) :
    Calls Tryd.prog 12 #[.slice ca l cc, .int .i64 rg] w fun e w' => ∃ g G P, e = .returned (.slice (some ⟨g, 0, none⟩) rg rg) ∧ Grid w w' g rg rg rg G P ∧ (∀ a b, a < rg → b < rg → ((P a).getD b false = true ↔ Cl X l a b)) := by
  have HORD := Hid.out (p := Hid _) hord
  have HOK := Hid.out (p := Hid _) hok
  have HSE : Hid (Calls Tryd.prog 11 #[.slice ca l cc, .int .i64 rg] w fun e w' => ∃ g G P, e = .returned (.slice (some ⟨g, 0, none⟩) (l + 1) (l + 1)) ∧ Grid w w' g (l + 1) rg (l + 1) G P ∧ (∀ i q, i ≤ l → q < rg → ((P i).getD q false = true ↔ Lv X l q i))) := rsets_any w ca l cc X rg m lk hl hrg hord hok
  have HTS : Hid (∀ V, ∃ w1, (Instr.makeSlice 39 (.int .i64 (rg : Int)) (.int .i64 (rg : Int))).run Tryd.prog V = .ok (.slice (some ⟨V.heap.size, 0, none⟩) rg rg) w1 ∧ BR w1 V.heap.size (List.replicate rg false) ∧ Below V.heap.size V w1) := fun V => truths_start V rg (by omega)
  clear hord hok
  go_enter Tryd.func12, Tryd.ntmps12
  go_wp2_with fail
  refine Calls.mono HSE.out ?_
  rintro e w2 ⟨g1, G1, P1, rfl, hG1, hP1⟩
  have H1 : Hid (Grid w w2 g1 (l + 1) rg (l + 1) G1 P1 ∧ ∀ i q, i ≤ l → q < rg → ((P1 i).getD q false = true ↔ Lv X l q i)) := ⟨hG1, hP1⟩
  obtain ⟨w3, hrun3, hG3, -⟩ := grid_start w2 rg rg (by omega)
  have HG3 : Hid (Grid w2 w3 w2.heap.size rg rg 0 (fun _ => 0) (fun _ => []) ∧ (∀ i, i < 0 → (fun _ => ([] : List Bool)) i = List.replicate rg false)) := ⟨hG3, fun i h => absurd h (Nat.not_lt_zero _)⟩
  clear hG1 hP1 hG3 HSE
  go_wp2_with fail
  go_loopw [7] (fun x wr => ∃ (k : Nat) (G : Nat → Nat) (P : Nat → List Bool), k ≤ rg ∧ x = .int .i64 k ∧ Hid (Grid w2 wr w2.heap.size rg rg k G P ∧ ∀ i, i < k → P i = List.replicate rg false)) (fun x _ => rg - (intOf x).toNat)
  case atStart => exact ⟨0, _, _, Nat.zero_le _, rfl, HG3.out⟩
  case round =>
    obtain ⟨k, G, P, hk, rfl, HG⟩ := hrel
    clear HG3
    by_cases hlt : k < rg
    · have hlt' : (k : Int) < (rg : Int) := by omega
      obtain ⟨w4, hrun4, hR4, hB4⟩ := HTS.out wr
      have hNext := HG.out.1.more hlt hR4 hB4
      have HN : Hid (Grid w2 (w4.setCell ⟨w2.heap.size, k, none⟩ (.slice (some ⟨wr.heap.size, 0, none⟩) rg rg)) w2.heap.size rg rg (k + 1) (fun i => if i = k then wr.heap.size else G i) (fun i => if i = k then List.replicate rg false else P i) ∧ ∀ i, i < k + 1 → (if i = k then List.replicate rg false else P i) = List.replicate rg false) := ⟨hNext, fun i hi => by
        split
        · rfl
        · exact HG.out.2 i (by omega)⟩
      obtain ⟨v9, hc9⟩ : ∃ v, w4.cell? ⟨w2.heap.size, k, none⟩ = some v := by
        have h1 := (HG.out.1.below hB4).out
        exact ⟨nilV, box_cell h1 (by simp [hlt])⟩
      have hf9 : w4.frozen? ⟨w2.heap.size, k, none⟩ = false := box_free (HG.out.1.below hB4).out
      clear hNext hR4 hB4
      go_wp2_with fail
      go_roundw
      case rel => exact ⟨k + 1, _, _, by omega, by go_num, HN.out⟩
      case measure => simp [intOf]; omega
    · obtain rfl : k = rg := by omega
      have HI0 : Hid (Grid w2 wr w2.heap.size k k k G P ∧ ∀ a b, a < k → b < k → ((P a).getD b false = true ↔ ClN X l 0 a b)) := ⟨HG.out.1, fun a b ha hb => by
        rw [HG.out.2 a ha, List.getD_eq_getElem?_getD, List.getElem?_replicate, if_pos hb]
        constructor
        · intro h; cases h
        · rintro ⟨_, i, hi, _⟩; omega⟩
      clear HG HTS
      go_wp2_with fail
      go_loopw [8] (fun x wr => ∃ (t : Nat) (P : Nat → List Bool), t ≤ l ∧ x = .int .i64 t ∧ Hid (Grid w2 wr w2.heap.size k k k G P ∧ ∀ a b, a < k → b < k → ((P a).getD b false = true ↔ ClN X l t a b))) (fun x _ => l - (intOf x).toNat)
      case atStart => exact ⟨0, P, Nat.zero_le _, rfl, HI0.out⟩
      case round =>
        obtain ⟨t, P, ht, rfl, HI⟩ := hrel
        clear HI0
        by_cases htl : t < l
        · have hok := HOK.out t htl
          have hti : (t : Int) < (l : Int) := by omega
          have hlow : ∀ V, Below w2.heap.size w2 V → Below w.heap.size w V := fun V hV => H1.out.1.low.trans (hV.mono H1.out.1.low.size)
          obtain ⟨cb, co, rfl, c0, c1, c2, c3⟩ := (HORD.out t htl).below (hlow _ HI.out.1.low)
          have HWR : Hid (∀ V, Calls Tryd.prog 35 #[ints4 (X t 0) (X t 1) (X t 2) (X t 3)] V fun e w' => e = .returned (.int .i64 (wrX X t)) ∧ Below V.heap.size V w') := fun V => rwrites_any _ _ _ _ (ok_op hok) V
          have HNX : Hid (∀ V, Below w2.heap.size w2 V → Calls Tryd.prog 36 #[.slice (some ⟨cb, co, none⟩) l cc, .int .i64 t] V fun e w' => ∃ ra rc, e = .returned (.slice ra (nxI (X t 0) (X t 1) (X t 2) t).length rc) ∧ SIs w' ra (nxI (X t 0) (X t 1) (X t 2) t) ∧ Below V.heap.size V w') := fun V hV => rnexts_all V _ l cc _ _ _ (X t 3) t htl hl ((HORD.out t htl).below (hlow V hV)) (fun e => ((ok_lead hok).1 e).1) (fun e => ((ok_lead hok).2 e).1)
          have hwr : wrX X t = -1 ∨ 0 ≤ wrX X t ∧ wrX X t < k := ok_wr hok
          obtain ⟨js, hjs⟩ : ∃ js, nxP X t = js := ⟨_, rfl⟩
          obtain ⟨xs, hxs⟩ : ∃ xs, nxI (X t 0) (X t 1) (X t 2) t = xs := ⟨_, rfl⟩
          have hxl : xs.length = js.length := by rw [← hxs, ← hjs]; exact nxI_len _ _ _ _
          have HXS : Hid (∀ q, q < js.length → ∃ j : Nat, xs.getD q 0 = (j : Int) ∧ j ≤ l ∧ js.take (q + 1) = js.take q ++ [j]) := fun q hq => by
            refine ⟨js[q], ?_, ?_, ?_⟩
            · rw [← hxs]
              unfold nxI
              have : nxL (X t 0) (X t 1) (X t 2) t = js := hjs
              rw [this]
              simp [List.getD, hq]
            · have hm := List.getElem_mem hq
              have hm2 : js[q] ∈ nxP X t := by rw [hjs]; exact hm
              exact ok_nx htl hok _ hm2
            · rw [List.take_add_one, List.getElem?_eq_getElem hq]
              rfl
          have HBH : Hid (∀ c, Bh X l c t ↔ ∃ j, j ∈ js ∧ Lv X l c j) := fun c => by
            unfold Bh
            rw [hjs]
          have hjl : js.length ≤ 2 := by rw [← hjs]; exact nxL_len _ _ _ _
          rw [hxs, hxl] at HNX
          obtain ⟨nj, hnj⟩ : ∃ n, js.length = n := ⟨_, rfl⟩
          have HLN : Hid (js.length = nj ∧ xs.length = nj) := ⟨hnj, by rw [hxl, hnj]⟩
          rw [hnj] at HNX hjl
          obtain ⟨wv, hwv⟩ : ∃ v, wrX X t = v := ⟨_, rfl⟩
          rw [hwv] at HWR hwr
          have HWV := Hid.out (p := Hid _) hwv
          obtain ⟨x0, hx0⟩ : ∃ v, X t 0 = v := ⟨_, rfl⟩
          obtain ⟨x1, hx1⟩ : ∃ v, X t 1 = v := ⟨_, rfl⟩
          obtain ⟨x2, hx2⟩ : ∃ v, X t 2 = v := ⟨_, rfl⟩
          obtain ⟨x3, hx3⟩ : ∃ v, X t 3 = v := ⟨_, rfl⟩
          rw [hx0, hx1, hx2, hx3] at HWR
          rw [hx0] at c0
          rw [hx1] at c1
          rw [hx2] at c2
          rw [hx3] at c3
          clear hok hjs hxs hxl hnj hwv hx0 hx1 hx2 hx3 hlow
          rcases hwr with hneg | ⟨hw0, hwk⟩
          · subst hneg
            have HN : Hid (∀ V, Below wr.heap.size wr V → Grid w2 V w2.heap.size k k k G P ∧ ∀ a b, a < k → b < k → ((P a).getD b false = true ↔ ClN X l (t + 1) a b)) := fun V hV => ⟨HI.out.1.below hV, fun a b ha hb => by rw [HI.out.2 a b ha hb, clN_none HWV.out]⟩
            go_wp2_with fail
            refine Calls.mono (HWR.out _) ?_
            rintro e w5 ⟨rfl, hb5⟩
            have HN5 := Hid.out (p := Hid _) (HN.out w5 hb5)
            clear hb5 c0 c1 c2 c3 HN
            go_wp2_with fail
            go_roundw
            case rel => exact ⟨t + 1, P, by omega, by go_num, HN5.out⟩
            case measure => simp [intOf]; omega
          · obtain ⟨v, rfl⟩ : ∃ v : Nat, wv = (v : Int) := ⟨wv.toNat, by omega⟩
            have hvk : v < k := by omega
            have hnn : ¬ (v : Int) < 0 := by omega
            have hvi : (v : Int) < (k : Int) := by omega
            clear hw0 hwk
            go_wp2_with fail
            refine Calls.mono (HWR.out _) ?_
            rintro e w5 ⟨rfl, hb5⟩
            have HG5 := Hid.out (p := Hid _) (HI.out.1.below hb5)
            clear hb5 c0 c1 c2 c3 HWR
            go_wp2_with fail
            refine Calls.mono (HNX.out _ (Grid.low HG5.out)) ?_
            rintro e w6 ⟨na, nc, rfl, hs6, hb6⟩
            have HK0 : Hid (Grid w2 w6 w2.heap.size k k k G P ∧ SIs w6 na xs ∧ CK X l t v k (fun c => ∃ j, j ∈ js.take 0 ∧ Lv X l c j) P) := ⟨Grid.below HG5.out hb6, hs6, CK.none HI.out.2 (fun c h => by obtain ⟨j, hj, _⟩ := h; simp at hj)⟩
            have HNA : Hid (∀ gb o, na = some ⟨gb, o, none⟩ → 0 < nj → ∀ i, i < k → G i ≠ gb) := fun gb o e h0 i hi e2 => by
              obtain ⟨b', o', e', hc⟩ := hs6 0 (by rw [HLN.out.2]; exact h0)
              rw [e] at e'
              simp only [Option.some.injEq, Addr.mk.injEq, and_true] at e'
              rw [← e'.1, ← e2] at hc
              have h1 := (Grid.below HG5.out hb6).row i hi
              unfold World.cell? at hc
              unfold BR at h1
              rw [h1] at hc
              simp only [btV] at hc
              simp at hc
            clear hs6 hb6 HG5 HNX HI
            go_wp2_with fail
            go_loopw [11] (fun x wi => ∃ (q : Nat) (P : Nat → List Bool), q ≤ nj ∧ x = .int .i64 q ∧ Hid (Grid w2 wi w2.heap.size k k k G P ∧ SIs wi na xs ∧ CK X l t v k (fun c => ∃ j, j ∈ js.take q ∧ Lv X l c j) P)) (fun x _ => nj - (intOf x).toNat)
            case atStart => exact ⟨0, P, Nat.zero_le _, rfl, HK0.out⟩
            case round =>
              obtain ⟨q, P, hq, rfl, HJ⟩ := hrel
              clear HK0
              by_cases hql : q < nj
              · obtain ⟨j, hj1, hj2, hj3⟩ := HXS.out q (by rw [HLN.out.1]; exact hql)
                have hqi : (q : Int) < (nj : Int) := by omega
                have HJQ := Hid.out (p := Hid _) (And.intro hj1 (And.intro hj2 hj3))
                have HM0 : Hid (Grid w2 wr w2.heap.size k k k G P ∧ SIs wr na xs ∧ CK X l t v k (fun c => (∃ j, j ∈ js.take q ∧ Lv X l c j) ∨ (c < 0 ∧ Lv X l c j)) P) := ⟨HJ.out.1, HJ.out.2.1, HJ.out.2.2.same fun c _ => ⟨Or.inl, fun h => by rcases h with h | ⟨h, _⟩; exact h; omega⟩⟩
                clear hj1 hj2 hj3 HJ
                go_wp2_with fail
                go_loopw [12] (fun x wi => ∃ (r : Nat) (P : Nat → List Bool), r ≤ k ∧ x = .int .i64 r ∧ Hid (Grid w2 wi w2.heap.size k k k G P ∧ SIs wi na xs ∧ CK X l t v k (fun c => (∃ j, j ∈ js.take q ∧ Lv X l c j) ∨ (c < r ∧ Lv X l c j)) P)) (fun x _ => k - (intOf x).toNat)
                case atStart => exact ⟨0, P, Nat.zero_le _, rfl, HM0.out⟩
                case round =>
                  obtain ⟨r, P, hr, rfl, HM⟩ := hrel
                  clear HM0
                  by_cases hrk : r < k
                  · have hri : (r : Int) < (k : Int) := by omega
                    obtain ⟨nb, no, hna, hc⟩ := HM.out.2.1 q (by rw [HLN.out.2]; exact hql)
                    rw [HJQ.out.1] at hc
                    have hjl2 : (j : Int) < (l : Int) + 1 := by have := HJQ.out.2.1; omega
                    have hj1 : j < l + 1 := by have := HJQ.out.2.1; omega
                    have hup : ∀ {a : Addr} {u : Value}, w2.cell? a = some u → wr.cell? a = some u := fun h => (HM.out.1.low.cell (lt_of_cell h)).trans h
                    have a0 := hup (H1.out.1.at hj1)
                    have a1 := hup (H1.out.1.cell hj1 hrk)
                    have hlv := H1.out.2 j r HJQ.out.2.1 hrk
                    obtain ⟨pb, hpb⟩ : ∃ b, (P1 j).getD r false = b := ⟨_, rfl⟩
                    rw [hpb] at a1 hlv
                    have HLV := Hid.out (p := Hid _) hlv
                    have HNN := Hid.out (p := Hid _) hna
                    subst hna
                    clear hlv hpb hup
                    have hstay : (¬ Lv X l r j ∨ r = v) → CK X l t v k (fun c => (∃ j, j ∈ js.take q ∧ Lv X l c j) ∨ (c < r + 1 ∧ Lv X l c j)) P := fun hno a b ha hb => by
                      rw [HM.out.2.2 a b ha hb]
                      have key : ∀ c d, c ≠ d → d = v → (((∃ j, j ∈ js.take q ∧ Lv X l c j) ∨ (c < r ∧ Lv X l c j)) ↔ ((∃ j, j ∈ js.take q ∧ Lv X l c j) ∨ (c < r + 1 ∧ Lv X l c j))) := fun c d hcd hd => by
                        refine or_congr Iff.rfl ⟨fun h => ⟨by omega, h.2⟩, fun h => ⟨?_, h.2⟩⟩
                        rcases Nat.lt_or_ge c r with h1 | h1
                        · exact h1
                        · have : c = r := by omega
                          subst this
                          rcases hno with hno | hno
                          · exact absurd h.2 hno
                          · omega
                      refine or_congr Iff.rfl ⟨fun h => ⟨h.1, ?_⟩, fun h => ⟨h.1, ?_⟩⟩
                      · rcases h.2 with ⟨h1, h2⟩ | ⟨h1, h2⟩
                        · exact Or.inl ⟨h1, (key b a (fun e => h.1 e.symm) h1).1 h2⟩
                        · exact Or.inr ⟨h1, (key a b h.1 h1).1 h2⟩
                      · rcases h.2 with ⟨h1, h2⟩ | ⟨h1, h2⟩
                        · exact Or.inl ⟨h1, (key b a (fun e => h.1 e.symm) h1).2 h2⟩
                        · exact Or.inr ⟨h1, (key a b h.1 h1).2 h2⟩
                    have HST := Hid.out (p := Hid _) hstay
                    clear hstay
                    cases pb with
                    | true =>
                      by_cases hrv : r = v
                      · have hrv1 : (r == v) = true := by simpa using hrv
                        subst hrv
                        have HC := Hid.out (p := Hid _) (HST.out (Or.inr rfl))
                        clear HST hrv1
                        go_wp2_with fail
                        go_roundw
                        case rel => exact ⟨r + 1, P, by omega, by go_num, HM.out.1, HM.out.2.1, HC.out⟩
                        case measure => simp [intOf]; omega
                      · have hrv1 : ((r : Int) == (v : Int)) = false := by simpa using (show ¬ (r : Int) = (v : Int) by omega)
                        have b0 := HM.out.1.at hrk
                        have b1 := HM.out.1.cell hrk hvk
                        have b2 := HM.out.1.free hrk v
                        have hg2 := HM.out.1.put hrk v true
                        have d0 := hg2.at hvk
                        have d1 := hg2.cell hvk hrk
                        have d2 := hg2.free hvk r
                        have hg3 := hg2.put hvk r true
                        have HF : Hid (Grid w2 ((wr.setCell ⟨G r, v, none⟩ (.bool true)).setCell ⟨G v, r, none⟩ (.bool true)) w2.heap.size k k k G (putP (putP P r v true) v r true) ∧ SIs ((wr.setCell ⟨G r, v, none⟩ (.bool true)).setCell ⟨G v, r, none⟩ (.bool true)) (some ⟨nb, no, none⟩) xs ∧ CK X l t v k (fun c => (∃ j, j ∈ js.take q ∧ Lv X l c j) ∨ (c < r + 1 ∧ Lv X l c j)) (putP (putP P r v true) v r true)) := by
                          refine ⟨hg3, fun i hi => ?_, ?_⟩
                          · obtain ⟨b', o', e', h'⟩ := HM.out.2.1 i hi
                            have hne : ∀ i, i < k → b' ≠ G i := fun i hi e => HNA.out b' o' e' (by omega) i hi e.symm
                            exact ⟨b', o', e', cell_oth (cell_oth h' (hne r hrk)) (hne v hvk)⟩
                          · refine (HM.out.2.2.put hrk hvk hrv HM.out.1.len).same fun c hc => ?_
                            have hl : Lv X l r j := HLV.out.1 rfl
                            constructor
                            · rintro ((h | h) | h)
                              · exact Or.inl h
                              · exact Or.inr ⟨by omega, h.2⟩
                              · rw [h]; exact Or.inr ⟨by omega, hl⟩
                            · rintro (h | ⟨h, h2⟩)
                              · exact Or.inl (Or.inl h)
                              · rcases Nat.lt_or_ge c r with h3 | h3
                                · exact Or.inl (Or.inr ⟨h3, h2⟩)
                                · exact Or.inr (by omega)
                        clear hg2 hg3 HST hrv
                        go_wp2_with fail
                        go_roundw
                        case rel => exact ⟨r + 1, _, by omega, by go_num, HF.out⟩
                        case measure => simp [intOf]; omega
                    | false =>
                      have HC := Hid.out (p := Hid _) (HST.out (Or.inl (fun h => by have := HLV.out.2 h; cases this)))
                      clear HST
                      go_wp2_with fail
                      go_roundw
                      case rel => exact ⟨r + 1, P, by omega, by go_num, HM.out.1, HM.out.2.1, HC.out⟩
                      case measure => simp [intOf]; omega
                  · obtain rfl : r = k := by omega
                    have HC : Hid (CK X l t v r (fun c => ∃ j, j ∈ js.take (q + 1) ∧ Lv X l c j) P) := HM.out.2.2.same fun c hc => by
                      rw [HJQ.out.2.2]
                      constructor
                      · rintro (⟨i, hi, h⟩ | ⟨_, h⟩)
                        · exact ⟨i, List.mem_append.2 (Or.inl hi), h⟩
                        · exact ⟨j, by simp, h⟩
                      · rintro ⟨i, hi, h⟩
                        rcases List.mem_append.1 hi with hi | hi
                        · exact Or.inl ⟨i, hi, h⟩
                        · rw [List.mem_singleton] at hi
                          rw [hi] at h
                          exact Or.inr ⟨hc, h⟩
                    go_wp2_with fail
                    go_roundw
                    case rel => exact ⟨q + 1, P, by omega, by go_num, HM.out.1, HM.out.2.1, HC.out⟩
                    case measure => simp [intOf]; omega
              · obtain rfl : q = nj := by omega
                have HC : Hid (∀ a b, a < k → b < k → ((P a).getD b false = true ↔ ClN X l (t + 1) a b)) := by
                  refine CK.done (v := v) (HJ.out.2.2.same fun c _ => ?_) HWV.out
                  rw [List.take_of_length_le (by rw [HLN.out.1]; exact Nat.le_refl _)]
                  exact (HBH.out c).symm
                go_wp2_with fail
                go_roundw
                case rel => exact ⟨t + 1, P, by omega, by go_num, HJ.out.1, HC.out⟩
                case measure => simp [intOf]; omega
        · obtain rfl : t = l := by omega
          go_wp2_with fail
          go_ret
          exact ⟨_, G, P, rfl, HI.out.1.wide H1.out.1.low, HI.out.2⟩

end Go.Proofs.YtocfocjnnjdcgaaDoor
