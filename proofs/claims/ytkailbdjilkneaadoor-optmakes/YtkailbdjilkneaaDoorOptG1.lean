/-
  What chapter 14 knows of a thread, by the document: the walk.
-/
import Derived.Test.YtkailbdjilkneaaDoorOptE
import Derived.Deep.LoopGhost
import Derived.Deep.CutRange
import Derived.Deep.RegionHeld3
import Derived.BigRegion
namespace Go.Proofs.YtkailbdjilkneaaDoor
open Go.RowKit

/-- What LookAt tells: what is known, as it lies there; it is the least solution. -/
def LookQ (w : World) (X : Nat → Nat → Int) (l rg : Nat) (e : Ending) (w' : World) : Prop :=
  ∃ lb gg ga ac GA G E ag, e = .returned (.pointer (some ⟨lb, 0, none⟩)) ∧ LkV w w' lb gg ga ac l rg GA G E ag ∧ LsV X l rg E ∧ ∀ i, i ≤ l → (G i = true → ∀ r, r < rg → E i r ≠ .no) ∧ (G i = false → ∀ r, r < rg → E i r = .no)
/-- At the start of a turn. -/
structure TnV (X : Nat → Nat → Int) (l rg : Nat) (E : Nat → Nat → Vl) (G : Nat → Bool) (ag : Bool) (gk : Nat) : Prop where
  pas : PasV X l rg E E G 0 false
  fin : ag = false → PasV X l rg E E G l false
  les : ag = true → meas l rg E < gk
theorem TnV.next {X : Nat → Nat → Int} {l rg : Nat} {E E' : Nat → Nat → Vl} {G G' : Nat → Bool} {ag' : Bool} {gk : Nat} (h : TnV X l rg E G true gk) (h' : PasV X l rg E E' G' l ag') : TnV X l rg E' G' ag' (gk - 1) ∧ gk - 1 < gk := by
  have h1 := h.les rfl
  refine ⟨⟨h'.again, fun e => ?_, fun e => ?_⟩, by omega⟩
  · subst e
    have h2 := (h'.same rfl).1
    rw [← h2] at h'
    exact h'
  · have h2 := h'.less e
    omega

attribute [local go_sem ↓] appS_eq in
set_option maxRecDepth 100000 in
set_option maxHeartbeats 6400000 in
theorem rlook_any (w : World) (ca : Option Addr) (l cc : Nat) (X : Nat → Nat → Int) (rg m lk : Nat) (hl : l ≤ 1000) (hrg0 : 0 < rg) (hrg : rg ≤ 200) (hord : ∀ i, i < l → OrdAt w ca i (X i 0) (X i 1) (X i 2) (X i 3)) (hok : ∀ i, i < l → ordE rg m lk l (X i 0) (X i 1) (X i 2) (X i 3) = 0) :
    Calls Tryd.prog 37 #[.slice ca l cc, .int .i64 rg] w (LookQ w X l rg) := by
  obtain ⟨w1, hrun1, hR1, hB1⟩ := truths_start w (l + 1) (by omega)
  have hlx : ((l : Int) + 1) = ((l + 1 : Nat) : Int) := by omega
  rw [← hlx] at hrun1
  have HORD := Hid.out (p := Hid _) hord
  have HOK := Hid.out (p := Hid _) hok
  have hl1 : w1.heap.size < w1.heap.size + 1 := by omega
  have HI0 : Hid (LkB w (w1.alloc (.cells #[.slice (some ⟨w.heap.size, 0, none⟩) (l + 1) (l + 1), nilV, .bool true] 76)) w1.heap.size w.heap.size l rg 0 (fun _ => 0) nilV) :=
    ⟨hB1.alloc hB1.size _, ⟨hB1.size, Nat.le_refl _, fun i hi => absurd hi (Nat.not_lt_zero i)⟩, heap_alloc_new _ _, hR1.below ((Below.refl _ _).alloc (Nat.le_refl _) _), World.ownsRow_nil _ _ _ _, fun i hi => absurd hi (Nat.not_lt_zero i), fun i j hi => absurd hi (Nat.not_lt_zero i)⟩
  have HLS : Hid (w.heap.size ≤ w1.heap.size) := hB1.size
  clear hord hok hR1 hB1 hlx hl1
  go_enter Tryd.func37, Tryd.ntmps37
  go_wp2_with fail
  obtain ⟨lb, hlb⟩ : ∃ q, w1.heap.size = q := ⟨_, rfl⟩
  obtain ⟨gg, hgg⟩ : ∃ q, w.heap.size = q := ⟨_, rfl⟩
  rw [hlb, hgg] at HI0 ⊢
  clear hrun1 HLS hlb
  go_loopg [6] (l + 2) (fun gk iv wr => ∃ (k : Nat) (av : Value) (GA : Nat → Nat), k + gk = l + 2 ∧ k ≤ l + 1 ∧ iv = .int .i64 k ∧ Hid (LkB w wr lb gg l rg k GA av))
  case atStart => exact ⟨0, nilV, _, by omega, by omega, rfl, HI0.out⟩
  case round =>
    clear HI0
    obtain ⟨k, av, GA, hgk, hk, rfl, HI⟩ := hrel
    have HGK := Hid.out (p := Hid _) hgk
    clear hgk
    by_cases hkl : k ≤ l
    · have hki : (k : Int) ≤ (l : Int) := by omega
      obtain ⟨aa, ac, rfl⟩ := owns_slice HI.out.out
      obtain ⟨w2, hrun2, hv2, hb2⟩ := values_start wr.drew rg hrg
      have hb2' : Below wr.heap.size wr w2 := (Below.refl _ _).drew.trans hb2
      obtain ⟨g, cap, w3, r3, hbox3, hN⟩ := HI.out.push hv2 hb2' (by omega)
      have HN := Hid.out (p := Hid _) hN
      have hdr : wr.drew.heap.size = wr.heap.size := rfl
      have c0 : ∀ V, Below wr.heap.size wr V → V.cell? ⟨lb, 1, none⟩ = some (.slice aa k ac) := fun V hV => (hV.cell (lt_of_cell (box_cell (i := 1) HI.out.box rfl))).trans (box_cell (i := 1) HI.out.box rfl)
      have d0 := c0 wr.drew (Below.refl _ _).drew
      have d2 := c0 w2 hb2'
      have d3 := fun o => c0 (w2.alloc o) (hb2'.alloc hb2'.size _)
      have b1 := box_cell (i := 1) hbox3 rfl
      have bf := box_free (i := 1) hbox3
      rw [hdr] at hrun2
      clear hN c0 hv2 hb2 hb2' hdr hbox3
      go_wp2_with fail
      go_region
      all_goals go_wp2_with fail
      go_roundg (l + 1 - k)
      case measure => have := HGK.out; omega
      case rel => exact ⟨k + 1, _, _, by omega, by omega, by go_num, HN.out⟩
    · obtain rfl : k = l + 1 := by omega
      obtain ⟨ga, ac, rfl, hK⟩ := HI.out.done
      have HK := Hid.out (p := Hid _) hK
      have hnk : ¬ ((l : Int) + 1 ≤ (l : Int)) := by omega
      have b0 : wr.cell? ⟨lb, 0, none⟩ = some (.slice (some ⟨gg, 0, none⟩) (l + 1) (l + 1)) := box_cell (i := 0) hK.box rfl
      have g0 := (hK.go (i := 0) (Nat.zero_le _)).1
      have gf := (hK.go (i := 0) (Nat.zero_le _)).2 0
      have h0l : (0 : Int) < (l : Int) + 1 := by omega
      have HK1 : Hid (LkV w (wr.setCell ⟨gg, 0, none⟩ (.bool true)) lb gg ga ac l rg GA (ledG (fun _ => false) 0) (ledE 0 (fun _ _ => .no) 0 (fun _ => .num 0)) true) := by
        rw [ledE_zero]
        exact HK.out.setG (Nat.zero_le _)
      clear hK HI HGK hk hkl
      go_wp2_with fail
      clear b0 g0 gf HK
      go_loopg [7] (rg + 1) (fun gk iv wi => ∃ r : Nat, r + gk = rg + 1 ∧ r ≤ rg ∧ iv = .int .i64 r ∧ Hid (LkV w wi lb gg ga ac l rg GA (ledG (fun _ => false) 0) (ledE r (fun _ _ => .no) 0 (fun _ => .num 0)) true))
      case atStart => exact ⟨0, by omega, by omega, rfl, HK1.out⟩
      case round =>
        clear HK1
        obtain ⟨r, hgk, hr, rfl, HI⟩ := hrel
        have HGK := Hid.out (p := Hid _) hgk
        clear hgk
        by_cases hrl : r < rg
        · have hri : (r : Int) < (rg : Int) := by omega
          have b1 : wr.cell? ⟨lb, 1, none⟩ = some (.slice (some ⟨ga, 0, none⟩) (l + 1) ac) := box_cell (i := 1) HI.out.box rfl
          have a0 := HI.out.at (i := 0) (Nat.zero_le _)
          have v0 := (HI.out.row 0 (Nat.zero_le _)).st hrl
          have v1 := (HI.out.row 0 (Nat.zero_le _)).nb hrl
          have vf := (HI.out.row 0 (Nat.zero_le _)).free
          have HS := Hid.out (p := Hid _) (HI.out.setV (j := 0) (Nat.zero_le _) hrl (.num 0))
          obtain ⟨gz, hgz⟩ : ∃ q, GA 0 = q := ⟨_, rfl⟩
          obtain ⟨xs, hxs⟩ : ∃ q : Int, ((ledE r (fun _ _ => Vl.no) 0 (fun _ => .num 0) 0 r).st : Int) = q := ⟨_, rfl⟩
          obtain ⟨xn, hxn⟩ : ∃ q : Int, (ledE r (fun _ _ => Vl.no) 0 (fun _ => .num 0) 0 r).nb = q := ⟨_, rfl⟩
          rw [hgz] at a0 v0 v1 vf HS
          rw [hxs] at v0
          rw [hxn] at v1
          clear hgz hxs hxn
          go_wp2_with fail
          go_roundg (rg - r)
          case measure => have := HGK.out; omega
          case rel =>
            refine ⟨r + 1, by omega, by omega, by go_num, ?_⟩
            have e : updE (ledE r (fun _ _ => .no) 0 (fun _ => .num 0)) 0 r (.num 0) = ledE (r + 1) (fun _ _ => .no) 0 (fun _ => .num 0) := ledR_step _ 0 _ r
            have h := HS.out
            rw [e] at h
            exact h
        · obtain rfl : r = rg := by omega
          have HT : Hid (TnV X l r (ledE r (fun _ _ => .no) 0 (fun _ => .num 0)) (ledG (fun _ => false) 0) true (meas l r (ledE r (fun _ _ => .no) 0 (fun _ => .num 0)) + 1)) := ⟨pas_start, fun e => (by cases e), fun _ => Nat.lt_succ_self _⟩
          obtain ⟨E1, hE1⟩ : ∃ E, ledE r (fun _ _ => Vl.no) 0 (fun _ => .num 0) = E := ⟨_, rfl⟩
          obtain ⟨G1, hG1⟩ : ∃ G, ledG (fun _ => false) 0 = G := ⟨_, rfl⟩
          rw [hE1, hG1] at HI HT
          clear hE1 hG1 hr hrl HGK
          go_wp2_with fail
          go_loopg [] (meas l r E1 + 1) (fun gk wi => ∃ E G ag, Hid (LkV w wi lb gg ga ac l r GA G E ag ∧ TnV X l r E G ag gk))
          case atStart => exact ⟨E1, G1, true, HI.out, HT.out⟩
          case round =>
            clear HI HT
            obtain ⟨E, G, ag, HI⟩ := hrel
            have b2 : wr.cell? ⟨lb, 2, none⟩ = some (.bool ag) := box_cell (i := 2) HI.out.1.box rfl
            have bf := box_free (i := 2) HI.out.1.box
            cases ag with
            | false =>
              go_wp2_with fail
              go_ret
              exact ⟨lb, gg, ga, ac, GA, G, E, false, rfl, HI.out.1, ((HI.out.2.fin rfl).done).1, (HI.out.2.pas).gs⟩
            | true =>
              have HT := Hid.out (p := Hid _) HI.out.2
              have HA := Hid.out (p := Hid _) (HI.out.1.setA false)
              clear HI
              go_wp2_with fail
              obtain ⟨g0, hg0⟩ : ∃ g, gk = g := ⟨_, rfl⟩
              rw [hg0] at HT
              have HG0 := Hid.out (p := Hid _) hg0
              clear b2 bf hg0
              go_loopg [8] (l + 1) (fun gk iv wi => ∃ (k : Nat) (E' : Nat → Nat → Vl) (G' : Nat → Bool) (ag' : Bool), k + gk = l + 1 ∧ k ≤ l ∧ iv = .int .i64 k ∧ Hid (LkV w wi lb gg ga ac l r GA G' E' ag' ∧ PasV X l r E E' G' k ag'))
              case atStart => exact ⟨0, E, G, false, by omega, by omega, rfl, HA.out, HT.out.pas⟩
              case round =>
                clear HA
                obtain ⟨k, E', G', ag', hgk, hk, rfl, HI⟩ := hrel
                have HGK := Hid.out (p := Hid _) hgk
                clear hgk
                by_cases hkl : k < l
                · obtain ⟨cb, co, rfl, c0, c1, c2, c3⟩ := (HORD.out k hkl).below HI.out.1.low
                  have hkI : (k : Int) < (l : Int) := by omega
                  have hkJ : (k : Int) < (l : Int) + 1 := by omega
                  have b0 : wr.cell? ⟨lb, 0, none⟩ = some (.slice (some ⟨gg, 0, none⟩) (l + 1) (l + 1)) := box_cell (i := 0) HI.out.1.box rfl
                  have gq := (HI.out.1.go (i := k) (by omega)).1
                  obtain ⟨gv, hgv⟩ : ∃ b, G' k = b := ⟨_, rfl⟩
                  rw [hgv] at gq
                  have HGV := Hid.out (p := Hid _) hgv
                  clear hgv
                  cases gv with
                  | false =>
                    have HP := Hid.out (p := Hid _) (HI.out.2.next hkl (fun _ h => by rw [HGV.out] at h; cases h))
                    go_wp2_with fail
                    go_roundg (l - k)
                    case measure => have := HGK.out; omega
                    case rel => exact ⟨k + 1, E', G', ag', by omega, by omega, by go_num, HI.out.1, HP.out⟩
                  | true =>
                    obtain ⟨x0, hx0⟩ : ∃ v, X k 0 = v := ⟨_, rfl⟩
                    obtain ⟨x1, hx1⟩ : ∃ v, X k 1 = v := ⟨_, rfl⟩
                    obtain ⟨x2, hx2⟩ : ∃ v, X k 2 = v := ⟨_, rfl⟩
                    obtain ⟨x3, hx3⟩ : ∃ v, X k 3 = v := ⟨_, rfl⟩
                    have HOD := Hid.out (p := Hid _) (HOK.out k hkl)
                    obtain ⟨wv, hwv⟩ : ∃ v, wrX X k = v := ⟨_, rfl⟩
                    have HWR : Hid (∀ V, Calls Tryd.prog 70 #[ints4 (X k 0) (X k 1) (X k 2) (X k 3)] V fun e w' => e = .returned (.int .i64 (wrX X k)) ∧ Below V.heap.size V w') := fun V => rwrites_any _ _ _ _ (ok_op (HOK.out k hkl)) V
                    obtain ⟨rb, hrb⟩ : ∃ b, (decide (1 ≤ X k 0) && decide (X k 0 ≤ 7)) = b := ⟨_, rfl⟩
                    have HRK : Hid (∀ V, Calls Tryd.prog 38 #[.int .i64 (X k 0)] V fun e w' => e = .returned (.bool rb) ∧ w' = V) := fun V => by
                      have h := rreck_any V (X k 0)
                      rw [hrb] at h
                      exact h
                    have HRS : Hid (rb = true → ∀ V (g n cap : Nat) (e : Nat → Vl), VR V g e r → n = r → Calls Tryd.prog 39 #[.agg #[.int .i64 (X k 0), .int .i64 (X k 1), .int .i64 (X k 2), .int .i64 (X k 3)], .slice (some ⟨g, 0, none⟩) n cap] V fun q w' => q = .returned (vlV (mkV (X k 0) (X k 2) (X k 3) e)) ∧ Below V.heap.size V w') := fun hb V g n cap e hv hn => by
                      rw [← hrb] at hb
                      exact rresult_any V _ _ _ _ g n cap e HOD.out (by simpa using hb) hv hn
                    have HXX := Hid.out (p := Hid _) (And.intro hx0 (And.intro hx1 (And.intro hx2 (And.intro hx3 (And.intro hwv hrb)))))
                    rw [hx0, hx1, hx2, hx3] at HWR HRS
                    rw [hx0] at c0 HRK
                    rw [hx1] at c1
                    rw [hx2] at c2
                    rw [hx3] at c3
                    rw [hwv] at HWR
                    have hbi : Below wr.heap.size wr (wr.alloc (.cells #[.int .i64 x0, .int .i64 x1, .int .i64 x2, .int .i64 x3] 44)) := (Below.refl _ _).alloc (Nat.le_refl _) _
                    obtain ⟨eb, ec, w3, r3, hv3, hb3, hge⟩ := app_srcV (wr.alloc (.cells #[.int .i64 x0, .int .i64 x1, .int .i64 x2, .int .i64 x3] 44)) (GA k) r r (E' k) ((HI.out.1.row k (by omega)).below hbi) hrg0 (by omega)
                    have hi3 : w3.heap[wr.heap.size]? = some (.cells #[.int .i64 x0, .int .i64 x1, .int .i64 x2, .int .i64 x3] 44) := (hb3.block _ (by simp)).trans (heap_alloc_new _ _)
                    have hb13 : Below wr.heap.size wr w3 := hbi.trans (hb3.mono hbi.size)
                    rw [World.size_alloc] at r3 hge
                    have a1 : ∀ o o', ((wr.alloc o).alloc o').cell? ⟨lb, 1, none⟩ = some (.slice (some ⟨ga, 0, none⟩) (l + 1) ac) := fun o o' => cell_up (cell_up (box_cell (i := 1) HI.out.1.box rfl) o) o'
                    have ak := fun o o' => cell_up (cell_up (HI.out.1.at (i := k) (by omega)) o) o'
                    obtain ⟨gz, hgz⟩ : ∃ q, GA k = q := ⟨_, rfl⟩
                    rw [hgz] at ak r3
                    have j0 := box_cell (i := 0) hi3 rfl
                    have j1 := box_cell (i := 1) hi3 rfl
                    have j2 := box_cell (i := 2) hi3 rfl
                    have j3 := box_cell (i := 3) hi3 rfl
                    have HIB : Hid (wr.heap.size + 1 ≤ eb) := hge
                    have H3 := Hid.out (p := Hid _) (And.intro hv3 (And.intro hb13 (And.intro hi3 hge)))
                    clear hx0 hx1 hx2 hx3 hwv hrb hbi hv3 hb3 hge hi3 hb13 hgz
                    go_wp2_with fail
                    refine Calls.mono (HRK.out _) ?_
                    rintro e w4 ⟨rfl, rfl⟩
                    go_wp2_with fail
                    refine Calls.mono (HWR.out _) ?_
                    rintro e w5 ⟨rfl, hb5⟩
                    have hi5 := (hb5.block _ (box_lt H3.out.2.2.1)).trans H3.out.2.2.1
                    have H5 := Hid.out (p := Hid _) (And.intro (H3.out.1.below hb5) (And.intro (H3.out.2.1.trans (hb5.mono H3.out.2.1.size)) (And.intro hi5 H3.out.2.2.2)))
                    clear c0 c1 c2 c3 b0 gq r3 a1 ak j0 j1 j2 j3 H3 hb5 hi5 HRK HWR
                    go_upto_if 97 with fail
                    go_cut [] from 65 to 151 (fun wx => Hid (Below wr.heap.size wr wx ∧ VR wx eb (bhV X k (E' k)) r ∧ wx.heap[wr.heap.size]? = some (.cells #[.int .i64 x0, .int .i64 x1, .int .i64 x2, .int .i64 x3] 44)))
                    case first =>
                      cases rb with
                      | true =>
                        have h17 : 1 ≤ X k 0 ∧ X k 0 ≤ 7 := by simpa using HXX.out.2.2.2.2.2
                        have hq := wr_reck h17
                        have hqr := ok_wr HOD.out
                        have e1 := HXX.out.2.1
                        have hx17 : wrX X k = wrL (X k 0) (X k 1) (X k 2) := rfl
                        rw [← hx17, hq, e1] at hqr
                        rw [e1] at hq
                        have hqn : 0 ≤ x1 ∧ x1 < r := by
                          rcases hqr with h | h
                          · exfalso
                            have h9 := ok_wr_at h17 HOD.out
                            rw [e1] at h9
                            omega
                          · exact h
                        obtain ⟨q, rfl⟩ : ∃ q : Nat, x1 = q := ⟨x1.toNat, by omega⟩
                        have hqr : q < r := by omega
                        have hqI : (q : Int) < (r : Int) := by omega
                        have HC6 : Hid (∀ V, Below w5.heap.size w5 V → V.cell? ⟨wr.heap.size, 0, none⟩ = some (.int .i64 x0) ∧ V.cell? ⟨wr.heap.size, 1, none⟩ = some (.int .i64 (q : Int)) ∧ V.cell? ⟨wr.heap.size, 2, none⟩ = some (.int .i64 x2) ∧ V.cell? ⟨wr.heap.size, 3, none⟩ = some (.int .i64 x3) ∧ (∃ v, V.cell? ⟨eb, q * 2, none⟩ = some v) ∧ (∃ v, V.cell? ⟨eb, q * 2 + 1, none⟩ = some v) ∧ (∀ i, V.frozen? ⟨eb, i, none⟩ = false) ∧ VR V eb (E' k) r ∧ Below wr.heap.size wr V ∧ V.heap[wr.heap.size]? = some (.cells #[.int .i64 x0, .int .i64 (q : Int), .int .i64 x2, .int .i64 x3] 44)) := fun V hV => by
                          have hi := (hV.block _ (box_lt H5.out.2.2.1)).trans H5.out.2.2.1
                          have hv := H5.out.1.below hV
                          exact ⟨box_cell hi rfl, box_cell hi rfl, box_cell hi rfl, box_cell hi rfl, ⟨_, hv.st hqr⟩, ⟨_, hv.nb hqr⟩, hv.free, hv, H5.out.2.1.trans (hV.mono H5.out.2.1.size), hi⟩
                        have HMK : Hid (mkV x0 x2 x3 (E' k) = mkV (X k 0) (X k 2) (X k 3) (E' k)) := by
                          show mkV x0 x2 x3 (E' k) = _
                          rw [HXX.out.1, HXX.out.2.2.1, HXX.out.2.2.2.1]
                        have hneb : wr.heap.size ≠ eb := by have := H5.out.2.2.2; omega
                        have HR6 : Hid (∀ V, Below w5.heap.size w5 V → Calls Tryd.prog 39 #[.agg #[.int .i64 x0, .int .i64 (q : Int), .int .i64 x2, .int .i64 x3], .slice (some ⟨eb, 0, none⟩) r ec] V fun e w' => ∃ c : Vl, e = .returned (.agg #[.int .i64 (c.st : Int), .int .i64 c.nb]) ∧ Hid (c = mkV (X k 0) (X k 2) (X k 3) (E' k)) ∧ Below V.heap.size V w') := fun V hV => (HRS.out rfl V eb r ec (E' k) (HC6.out V hV).2.2.2.2.2.2.2.1 rfl).mono fun e w' ⟨h1, h2⟩ => ⟨_, h1, HMK.out, h2⟩
                        have HQ := Hid.out (p := Hid _) hq
                        obtain ⟨j0, j1, j2, j3, -, -, -, -, -, -⟩ := HC6.out w5 (Below.refl _ _)
                        clear h17 hq e1 hx17 hqr hqn
                        go_wp2_with fail
                        go_region_held3 (fun w' => w'.cell? ⟨wr.heap.size, 0, none⟩ = some (.int .i64 x0) ∧ w'.cell? ⟨wr.heap.size, 1, none⟩ = some (.int .i64 (q : Int)) ∧ w'.cell? ⟨wr.heap.size, 2, none⟩ = some (.int .i64 x2) ∧ w'.cell? ⟨wr.heap.size, 3, none⟩ = some (.int .i64 x3)) (refine ⟨?_, ?_, ?_, ?_⟩ <;> (repeat (first | (with_reducible assumption) | (with_reducible refine cell_drw ?_) | (with_reducible refine cell_up ?_ _) | (with_reducible refine cell_farO ?_ hneb)))) ((go_at_call 39; refine Calls.mono (HR6.out _ (Below.refl _ _).drew) ?_; rintro e w7 ⟨c, rfl, hc, hb7⟩; obtain ⟨j0, j1, j2, j3, ⟨u0, v0⟩, ⟨u1, v1⟩, vf, hv7, hb17, hi7⟩ := HC6.out w7 ((Below.refl _ _).drew.trans hb7); have H7 := Hid.out (p := Hid _) (And.intro hc (And.intro hv7 (And.intro hb17 hi7))); clear hb7 hc hv7 hb17 hi7))
                        all_goals go_wp2_with fail
                        all_goals go_meet
                        case rel =>
                          have hge : wr.heap.size ≤ eb := by have := H5.out.2.2.2; omega
                          have h2 := H7.out.2.1.put (r := q) (by omega) c
                          have h3 : (fun p => if p = q then c else E' k p) = bhV X k (E' k) := by
                            rw [← bh_put HQ.out, H7.out.1]
                          rw [h3] at h2
                          refine ⟨(H7.out.2.2.1.setCell (p := ⟨eb, q * 2, none⟩) hge _).setCell (p := ⟨eb, q * 2 + 1, none⟩) hge _, h2, ?_⟩
                          exact (Below.heap_setCell _ _ _ _ (fun x => hneb (by simpa using x))).trans ((Below.heap_setCell _ _ _ _ (fun x => hneb (by simpa using x))).trans H7.out.2.2.2)
                      | false =>
                        have h17 : ¬ (1 ≤ X k 0 ∧ X k 0 ≤ 7) := fun h => by
                          have h2 := HXX.out.2.2.2.2.2
                          simp [h.1, h.2] at h2
                        have hqr := ok_wr HOD.out
                        have hx17 : wrX X k = wrL (X k 0) (X k 1) (X k 2) := rfl
                        rw [← hx17] at hqr
                        rcases hqr with hq | ⟨hq0, hq1⟩
                        · have hw : wv = -1 := by rw [← HXX.out.2.2.2.2.1]; exact hq
                          have hbs := bh_stay (e := E' k) (show wrX X k < 0 by omega)
                          have HBS : Hid (VR w5 eb (bhV X k (E' k)) r) := by rw [← hbs]; exact H5.out.1
                          subst hw
                          clear h17 hx17 hq hbs
                          go_wp2_with fail
                          go_meet
                          case rel => exact ⟨H5.out.2.1, HBS.out, H5.out.2.2.1⟩
                        · have hw : wrX X k = wv := HXX.out.2.2.2.2.1
                          obtain ⟨q, hqq⟩ : ∃ q : Nat, wrX X k = q := ⟨(wrX X k).toNat, by omega⟩
                          obtain rfl : wv = (q : Int) := by rw [← hw]; exact hqq
                          have hqr : q < r := by omega
                          have hqI : (q : Int) < (r : Int) := by omega
                          have v0 := H5.out.1.st hqr
                          have v1 := H5.out.1.nb hqr
                          have vf := H5.out.1.free
                          have hbp := bh_put (e := E' k) hqq
                          rw [mk_any h17] at hbp
                          have HBP : Hid (VR ((w5.setCell ⟨eb, q * 2, none⟩ (.int .i64 2)).setCell ⟨eb, q * 2 + 1, none⟩ (.int .i64 0)) eb (bhV X k (E' k)) r) := by
                            rw [← hbp]
                            exact H5.out.1.put hqr .any
                          obtain ⟨xs, hxs⟩ : ∃ p : Int, ((E' k q).st : Int) = p := ⟨_, rfl⟩
                          obtain ⟨xn, hxn⟩ : ∃ p : Int, (E' k q).nb = p := ⟨_, rfl⟩
                          rw [hxs] at v0
                          rw [hxn] at v1
                          have hge : wr.heap.size ≤ eb := by have := H5.out.2.2.2; omega
                          have hne : wr.heap.size ≠ eb := by have := H5.out.2.2.2; omega
                          clear h17 hx17 hq0 hq1 hw hqq hbp hxs hxn
                          go_wp2_with fail
                          go_meet
                          case rel =>
                            refine ⟨(H5.out.2.1.setCell (p := ⟨eb, q * 2, none⟩) hge _).setCell (p := ⟨eb, q * 2 + 1, none⟩) hge _, HBP.out, ?_⟩
                            exact (Below.heap_setCell _ _ _ _ (fun x => hne (by simpa using x))).trans ((Below.heap_setCell _ _ _ _ (fun x => hne (by simpa using x))).trans H5.out.2.2.1)
                    case rest =>
                      obtain ⟨wc1, rfl⟩ : ∃ V, V = wc := ⟨_, rfl⟩
                      have HC1 := Hid.out (p := Hid _) hcut.out
                      have j0 : ∀ o, (wc1.alloc o).cell? ⟨wr.heap.size, 0, none⟩ = some (.int .i64 x0) := fun o => cell_up (box_cell HC1.out.2.2 rfl) o
                      have j1 : ∀ o, (wc1.alloc o).cell? ⟨wr.heap.size, 1, none⟩ = some (.int .i64 x1) := fun o => cell_up (box_cell HC1.out.2.2 rfl) o
                      clear H5 hcut HRS
                      go_upto_if 114 with fail
                      go_cut [] from 65 to 151 (fun wx => Hid (Below wc1.heap.size wc1 wx ∧ wx.heap[wc1.heap.size]? = some (.cells #[.int .i64 ((wvX X k (E' k)).st : Int), .int .i64 (wvX X k (E' k)).nb] 78)))
                      case first =>
                        by_cases h15 : x0 = 15
                        · subst h15
                          have hod := HOD.out
                          rw [HXX.out.1, HXX.out.2.1] at hod
                          obtain ⟨hq0, hq1⟩ := (ok_zero hod).1
                          obtain ⟨q, hqq⟩ : ∃ q : Nat, x1 = q := ⟨x1.toNat, by omega⟩
                          have hqr : q < r := by omega
                          have hqI : (q : Int) < (r : Int) := by omega
                          have hwv : bhV X k (E' k) q = wvX X k (E' k) := by
                            rw [← wv_bh]
                            unfold wvX
                            rw [if_pos HXX.out.1, HXX.out.2.1, hqq, Int.toNat_natCast]
                          have v0 := fun o => cell_up (HC1.out.2.1.st hqr) o
                          have v1 := fun o => cell_up (HC1.out.2.1.nb hqr) o
                          rw [hwv] at v0 v1
                          obtain ⟨V, hV⟩ : ∃ V, wvX X k (E' k) = V := ⟨_, rfl⟩
                          rw [hV] at v0 v1
                          have HV := Hid.out (p := Hid _) hV
                          subst hqq
                          clear hod hq0 hq1 hwv hV
                          go_wp2_with fail
                          go_meet
                          case rel =>
                            rw [HV.out]
                            exact ⟨(Below.refl _ _).alloc (Nat.le_refl _) _, heap_alloc_new _ _⟩
                        · have h15' : (x0 == 15) = false := by simpa using h15
                          have hV : wvX X k (E' k) = .any := by
                            unfold wvX
                            rw [if_neg (by rw [HXX.out.1]; exact h15)]
                          have HV := Hid.out (p := Hid _) hV
                          clear h15 hV
                          go_wp2_with fail
                          go_meet
                          case rel =>
                            rw [HV.out]
                            exact ⟨(Below.refl _ _).alloc (Nat.le_refl _) _, heap_alloc_new _ _⟩
                      case rest =>
                        obtain ⟨wc2, rfl⟩ : ∃ V, V = wc := ⟨_, rfl⟩
                        have HC2 := Hid.out (p := Hid _) hcut.out
                        have hbc2 : Below wr.heap.size wr wc2 := HC1.out.1.trans (HC2.out.1.mono HC1.out.1.size)
                        have hlk2 := HI.out.1.below hbc2
                        have HNX : Hid (Calls Tryd.prog 71 #[.slice (some ⟨cb, co, none⟩) l cc, .int .i64 k] wc2 fun e w' => ∃ gb rc, e = .returned (.slice (some ⟨gb, 0, none⟩) (nxI (X k 0) (X k 1) (X k 2) k).length rc) ∧ SIs w' (some ⟨gb, 0, none⟩) (nxI (X k 0) (X k 1) (X k 2) k) ∧ Below wc2.heap.size wc2 w' ∧ wc2.heap.size ≤ gb) := rnexts_at wc2 _ l cc _ _ _ (X k 3) k hkl hl ((HORD.out k hkl).below hlk2.low) (fun e => ((ok_lead HOD.out).1 e).1) (fun e => ((ok_lead HOD.out).2 e).1)
                        obtain ⟨js, hjs⟩ : ∃ js, nxP X k = js := ⟨_, rfl⟩
                        obtain ⟨xs, hxs⟩ : ∃ xs, nxI (X k 0) (X k 1) (X k 2) k = xs := ⟨_, rfl⟩
                        have hxl : xs.length = js.length := by rw [← hxs, ← hjs]; exact nxI_len _ _ _ _
                        have HXS : Hid (∀ q, q < js.length → ∃ j : Nat, xs.getD q 0 = (j : Int) ∧ j ≤ l ∧ (nxP X k)[q]? = some j) := fun q hq => by
                          refine ⟨js[q], ?_, ?_, ?_⟩
                          · rw [← hxs]
                            unfold nxI
                            have : nxL (X k 0) (X k 1) (X k 2) k = js := hjs
                            rw [this]
                            simp [List.getD, hq]
                          · have hm := List.getElem_mem hq
                            have hm2 : js[q] ∈ nxP X k := by rw [hjs]; exact hm
                            exact ok_nx hkl HOD.out _ hm2
                          · rw [hjs]
                            exact List.getElem?_eq_getElem hq
                        rw [hxs] at HNX
                        obtain ⟨nj, hnj⟩ : ∃ n, xs.length = n := ⟨_, rfl⟩
                        rw [hnj] at HNX
                        have hnj2 : nj ≤ 2 := by
                          have := nxL_len (X k 0) (X k 1) (X k 2) k
                          have e : (nxL (X k 0) (X k 1) (X k 2) k).length = js.length := by rw [← hjs]; rfl
                          omega
                        have HLN : Hid (js.length = nj ∧ xs.length = nj ∧ (nxP X k).length = nj) := ⟨by omega, hnj, by rw [hjs]; omega⟩
                        have HW0 : Hid (WayV X l r E E' k 0 (bhV X k (E' k)) (wvX X k (E' k)) E' G' ag' ag') := WayV.start HI.out.2
                        have HF : Hid (lb < wr.heap.size ∧ gg < wr.heap.size ∧ (∀ i, i ≤ l → GA i < wr.heap.size) ∧ wr.heap.size < eb ∧ wr.heap.size ≤ wc1.heap.size ∧ eb < wc2.heap.size ∧ wc1.heap.size < wc2.heap.size ∧ wr.heap.size ≤ wc2.heap.size) := by
                          have hbr := hlk2.goes
                          obtain ⟨R, hR1, -, -⟩ := HI.out.1.goes
                          refine ⟨box_lt HI.out.1.box, hR1.lt, fun i hi => (HI.out.1.row i hi).lt, by have := HIB.out; omega, HC1.out.1.size, ?_, box_lt HC2.out.2, hbc2.size⟩
                          exact Nat.lt_of_lt_of_le HC1.out.2.1.lt HC2.out.1.size
                        have HLK := Hid.out (p := Hid _) (And.intro hlk2 (And.intro (HC1.out.2.1.below HC2.out.1) HC2.out.2))
                        have HP0 := Hid.out (p := Hid _) HI.out.2
                        clear hbc2 hlk2 hjs hxs hxl hnj hcut HC1 j0 j1 HI HC2
                        go_wp2_with fail
                        refine Calls.mono HNX.out ?_
                        rintro e w6 ⟨nb, nc, rfl, hs6, hb6, hge6⟩
                        have HI6 : Hid (LkV w w6 lb gg ga ac l r GA G' E' ag' ∧ VR w6 eb (bhV X k (E' k)) r ∧ w6.heap[wc1.heap.size]? = some (.cells #[.int .i64 ((wvX X k (E' k)).st : Int), .int .i64 (wvX X k (E' k)).nb] 78) ∧ SIs w6 (some ⟨nb, 0, none⟩) xs) := ⟨HLK.out.1.below hb6, HLK.out.2.1.below hb6, (hb6.block _ (box_lt HLK.out.2.2)).trans HLK.out.2.2, hs6⟩
                        have HF6 := Hid.out (p := Hid _) (And.intro HF.out hge6)
                        clear HLK HNX hs6 hb6 hge6 HF
                        go_wp2_with fail
                        obtain ⟨vb, hvb⟩ : ∃ q, wc1.heap.size = q := ⟨_, rfl⟩
                        rw [hvb] at HI6 HF6 ⊢
                        obtain ⟨s1, hs1⟩ : ∃ q, wr.heap.size = q := ⟨_, rfl⟩
                        rw [hs1] at HF6 ⊢
                        obtain ⟨s2, hs2⟩ : ∃ q, wc2.heap.size = q := ⟨_, rfl⟩
                        rw [hs2] at HF6
                        clear hvb hs1 hs2
                        go_loopg [15] (nj + 1) (fun gk iv wi => ∃ (q : Nat) (E2 : Nat → Nat → Vl) (G2 : Nat → Bool) (ag2 : Bool), q + gk = nj + 1 ∧ q ≤ nj ∧ iv = .int .i64 q ∧ Hid (LkV w wi lb gg ga ac l r GA G2 E2 ag2 ∧ VR wi eb (bhV X k (E' k)) r ∧ wi.heap[vb]? = some (.cells #[.int .i64 ((wvX X k (E' k)).st : Int), .int .i64 (wvX X k (E' k)).nb] 78) ∧ SIs wi (some ⟨nb, 0, none⟩) xs ∧ WayV X l r E E' k q (bhV X k (E' k)) (wvX X k (E' k)) E2 G2 ag' ag2))
                        case atStart => exact ⟨0, E', G', ag', by omega, by omega, rfl, HI6.out.1, HI6.out.2.1, HI6.out.2.2.1, HI6.out.2.2.2, HW0.out⟩
                        case round =>
                          clear HI6
                          obtain ⟨q, E2, G2, ag2, hgq, hq, rfl, HJ⟩ := hrel
                          have HGQ := Hid.out (p := Hid _) hgq
                          clear hgq
                          by_cases hqn : q < nj
                          · have hqI : (q : Int) < (nj : Int) := by omega
                            obtain ⟨gb, go, hgo, hc⟩ := HJ.out.2.2.2.1 q (by rw [HLN.out.2.1]; exact hqn)
                            obtain ⟨j, hj1, hj2, hj3⟩ := HXS.out q (by rw [HLN.out.1]; exact hqn)
                            rw [hj1] at hc
                            simp only [Option.some.injEq, Addr.mk.injEq, and_true] at hgo
                            obtain ⟨rfl, rfl⟩ := hgo
                            rw [Nat.zero_add] at hc
                            have t0 := box_cell (i := 0) HJ.out.2.2.1 rfl
                            have t1 := box_cell (i := 1) HJ.out.2.2.1 rfl
                            obtain ⟨V, hV⟩ : ∃ V, wvX X k (E' k) = V := ⟨_, rfl⟩
                            have HV := Hid.out (p := Hid _) hV
                            rw [hV] at t0 t1
                            have HJ3 := Hid.out (p := Hid _) hj3
                            clear hj1 hV hj3
                            go_upto_region 32 with fail
                            go_cut [144] from 123 to 151 (fun s wx => s = .bool (tkV V q) ∧ wx = wr)
                            case first =>
                              cases V with
                              | no =>
                                have t0' : wr.cell? ⟨vb, 0, none⟩ = some (.int .i64 0) := t0
                                have t1' : wr.cell? ⟨vb, 1, none⟩ = some (.int .i64 0) := t1
                                clear t0 t1
                                go_wp2_with fail
                                go_meet
                                case rel => exact ⟨rfl, rfl⟩
                              | any =>
                                have t0' : wr.cell? ⟨vb, 0, none⟩ = some (.int .i64 2) := t0
                                have t1' : wr.cell? ⟨vb, 1, none⟩ = some (.int .i64 0) := t1
                                clear t0 t1
                                go_wp2_with fail
                                go_meet
                                case rel => exact ⟨rfl, rfl⟩
                              | num z =>
                                have t0' : wr.cell? ⟨vb, 0, none⟩ = some (.int .i64 1) := t0
                                have t1' : wr.cell? ⟨vb, 1, none⟩ = some (.int .i64 z) := t1
                                clear t0 t1
                                obtain ⟨b1, hb1⟩ : ∃ b, (z == 0) = b := ⟨_, rfl⟩
                                obtain ⟨b2, hb2⟩ : ∃ b, ((q : Int) == 1) = b := ⟨_, rfl⟩
                                have HB : Hid (tkV (.num z) q = (b1 == b2)) := by
                                  show (decide (z = 0) == decide (q = 1)) = _
                                  have e1 : decide (z = 0) = b1 := by rw [← hb1]; rfl
                                  have e2 : decide (q = 1) = b2 := by
                                    rw [← hb2]
                                    by_cases h : q = 1
                                    · subst h; rfl
                                    · rw [decide_eq_false h]
                                      symm
                                      simp
                                      omega
                                  rw [e1, e2]
                                cases b1 <;> cases b2 <;>
                                  (go_wp2_with fail
                                   go_meet
                                   case rel => exact ⟨by rw [HB.out]; rfl, rfl⟩)
                            case rest =>
                              obtain ⟨rfl, rfl⟩ := hcut
                              obtain ⟨tb, htb⟩ : ∃ b, tkV V q = b := ⟨_, rfl⟩
                              have HTB : Hid (tkV (wvX X k (E' k)) q = tb) := by rw [HV.out]; exact htb
                              rw [htb]
                              clear htb
                              cases tb with
                              | false =>
                                have HS := Hid.out (p := Hid _) (HJ.out.2.2.2.2.skip HTB.out)
                                go_wp2_with fail
                                go_roundg (nj - q)
                                case measure => have := HGQ.out; omega
                                case rel => exact ⟨q + 1, E2, G2, ag2, by omega, by omega, by go_num, HJ.out.1, HJ.out.2.1, HJ.out.2.2.1, HJ.out.2.2.2.1, HS.out⟩
                              | true =>
                                have HLD := Hid.out (p := Hid _) (rlead_any w wc lb gg ga ac l r GA G2 E2 ag2 eb ec j (bhV X k (E' k)) HJ.out.1 hj2 hrg HJ.out.2.1 (fun i hi => by have := HF6.out.1.2.2.1 i hi; have := HF6.out.1.2.2.2.1; omega) (by have := HF6.out.1.1; have := HF6.out.1.2.2.2.1; omega) (by have := HF6.out.1.2.1; have := HF6.out.1.2.2.2.1; omega))
                                go_wp2_with fail
                                refine Calls.mono HLD.out ?_
                                rintro e w7 ⟨ag3, rfl, hL7, hV7, hK7, h70, h71⟩
                                have hb7 : ∀ b, s1 ≤ b → b < wc.heap.size → w7.heap[b]? = wc.heap[b]? := fun b h1 h2 => hK7.block b h2 (by have := HF6.out.1.1; omega) (by have := HF6.out.1.2.1; omega) (by have := HF6.out.1.2.2.1 j hj2; omega)
                                have HW7 : Hid (LkV w w7 lb gg ga ac l r GA (ledG G2 j) (ledE r E2 j (bhV X k (E' k))) ag3 ∧ VR w7 eb (bhV X k (E' k)) r ∧ w7.heap[vb]? = some (.cells #[.int .i64 ((wvX X k (E' k)).st : Int), .int .i64 (wvX X k (E' k)).nb] 78) ∧ SIs w7 (some ⟨nb, 0, none⟩) xs ∧ WayV X l r E E' k (q + 1) (bhV X k (E' k)) (wvX X k (E' k)) (ledE r E2 j (bhV X k (E' k))) (ledG G2 j) ag' ag3) := by
                                  refine ⟨hL7, hV7, (hb7 vb (by have := HF6.out.1.2.2.2.2.1; omega) (box_lt HJ.out.2.2.1)).trans HJ.out.2.2.1, fun p hp => ?_, HJ.out.2.2.2.2.step HP0.out HOK.out hrg0 hkl HGV.out HTB.out HJ3.out h70 h71⟩
                                  obtain ⟨g, o, he, hc⟩ := HJ.out.2.2.2.1 p hp
                                  refine ⟨g, o, he, ?_⟩
                                  have hgn : g = nb := by simp at he; exact he.1.symm
                                  rw [World.cell?_of_block (hb7 g (by have := HF6.out.2; have := HF6.out.1.2.2.2.2.2.2.2; omega) (lt_of_cell hc))]
                                  exact hc
                                clear hL7 hV7 hK7 h70 h71 hb7 HLD
                                go_wp2_with fail
                                go_roundg (nj - q)
                                case measure => have := HGQ.out; omega
                                case rel => exact ⟨q + 1, _, _, ag3, by omega, by omega, by go_num, HW7.out⟩
                          · obtain rfl : q = nj := by omega
                            have HD := Hid.out (p := Hid _) (HJ.out.2.2.2.2.done HP0.out hkl (by rw [HLN.out.2.2]; exact Nat.le_refl _))
                            go_wp2_with fail
                            go_roundg (l - k)
                            case measure => have := HGK.out; omega
                            case rel => exact ⟨k + 1, E2, G2, ag2, by omega, by omega, by go_num, HJ.out.1, HD.out⟩
                · obtain rfl : k = l := by omega
                  have HN := Hid.out (p := Hid _) (HT.out.next HI.out.2)
                  go_wp2_with fail
                  go_roundg (g0 - 1)
                  case measure => have := HN.out.2; have := HG0.out; omega
                  case rel => exact ⟨E', G', ag', HI.out.1, HN.out.1⟩

end Go.Proofs.YtkailbdjilkneaaDoor
