/-
  The program's Print.
  The law of what is printed.
-/
import Derived.Test.YtclnjhffcfkihaeGreatDoorSprJ
import Derived.Test.YtclnjhffcfkihaeGreatDoorSqW
import Derived.Test.YtclnjhffcfkihaeGreatDoorSynJ0
namespace Go.Proofs.YtclnjhffcfkihaeGreatDoor
section
open Go.RowKit

theorem parseT_of {n : Nat} {s : List UInt8} {r : List Row × (Int × Int)} (h : parseF n s = some r) : parseT s = r := by
  unfold parseF at h
  unfold parseT
  split at h
  · rename_i hs
    rw [if_pos hs]
    exact Option.some.inj h
  · rename_i hs
    rw [if_neg hs]
    cases hp : progF (s.length : Int) n (scanL s).1 with
    | none => rw [hp] at h; cases h
    | some z =>
      have h2 := tld_is (progF_is (e := (s.length : Int)) (scanL s).1).up hp
      rw [(progF_is (scanL s).1).is] at h2
      rw [hp] at h
      rw [h2]
      cases z with
      | error f => exact Option.some.inj h
      | ok p =>
        obtain ⟨ks, q⟩ := p
        simp only at h ⊢
        split
        · rename_i h6
          rw [if_pos h6] at h
          exact Option.some.inj h
        · rename_i h6
          rw [if_neg h6] at h
          exact Option.some.inj h
theorem parse_bad_or {n : Nat} {s : List UInt8} {r : List Row × (Int × Int)} (h : parseF n s = some r) : (r.1 = [] ∧ r.2.1 ≠ 0) ∨ r.2 = (0, 0) := by
  unfold parseF at h
  split at h
  · rename_i hs
    obtain rfl := (Option.some.inj h).symm
    exact Or.inl ⟨rfl, hs⟩
  · split at h
    · cases h
    · rename_i f hf
      have hc := err_prog _ _ f hf
      obtain rfl := (Option.some.inj h).symm
      refine Or.inl ⟨rfl, fun h0 => ?_⟩
      have h0' : f.1 = 0 := h0
      rw [h0'] at hc
      exact absurd hc (by decide)
    · split at h
      · obtain rfl := (Option.some.inj h).symm
        exact Or.inl ⟨rfl, by simp⟩
      · obtain rfl := (Option.some.inj h).symm
        exact Or.inr rfl
/-- What a text's Print is, in plain words. -/
theorem print_cases (s : List UInt8) : ((parseT s).1 = [] ∧ (parseT s).2.1 ≠ 0) ∨ ∃ ks, parseT s = (rowsP ks, (0, 0)) ∧ WfP ks ∧ ndsSize ks + 1 ≤ 600 ∧ ((pcsB (pcsP ks)).length ≤ 4000 → ∃ ks', parseT (pcsB (pcsP ks)) = (rowsP ks', (0, 0)) ∧ (rowsP ks').map eraseR = (rowsP ks).map eraseR ∧ pcsP ks' = pcsP ks) := by
  obtain ⟨n, hn⟩ := parseT_is s
  rcases parse_bad_or hn with h | h
  · exact Or.inl h
  · have hc : parseT s = ((parseT s).1, (0, 0)) := by rw [← h]
    rw [hc] at hn
    obtain ⟨ks, h1, h2, h3, h4⟩ := print_back hn
    refine Or.inr ⟨ks, by rw [hc, h1], h2, h3, fun hl => ?_⟩
    obtain ⟨m, ks', h5, h6, h7⟩ := h4 hl
    exact ⟨ks', parseT_of h5, by rw [h6, h1], h7⟩

set_option maxRecDepth 100000 in
set_option maxHeartbeats 3200000 in
theorem print_bad (s : ByteArray) (w : World) (hE : LEnv w) (c a : Int) (hs : parseT s.data.toList = ([], (c, a))) (hc0 : c ≠ 0) :
    Calls Tryz.prog 10 #[.string s] w fun e w' => e = .returned (.tuple #[.string ⟨#[]⟩, .agg #[.int .i64 c, .int .i64 0, .int .i64 a]]) ∧ Below w.heap.size w w' := by
  have hc : (c != 0) = true := by simpa using hc0
  have HS := Hid.out (p := Hid _) hs
  have hA : Below w.heap.size w (w.alloc (.cells #[.int .i64 0, .int .i64 0, .int .i64 0] 25)) := (Below.refl _ _).alloc (Nat.le_refl _) _
  have HE := Hid.out (p := Hid _) (hE.below hA)
  clear hs hE hA hc0
  go_enter Tryz.func10, Tryz.ntmps10
  go_wp2_with fail
  refine Calls.mono (parse_any s _ HE.out) ?_
  rintro e w1 ⟨⟨v, rfl, hown⟩, hb1⟩
  rw [HS.out] at hown ⊢
  obtain ⟨la, lc, rfl, -⟩ := hown.read
  have hx := (hb1.block w.heap.size (by simp)).trans (heap_alloc_new w _)
  have p0 := box_cell (i := 0) hx rfl
  have p1 := box_cell (i := 1) hx rfl
  have p2 := box_cell (i := 2) hx rfl
  have pf := fun j => box_free (i := j) hx
  have hl1 : w.heap.size < w1.heap.size := Nat.lt_of_lt_of_le (by simp) hb1.size
  have HB1 : Hid (Below w.heap.size w w1) := ((Below.refl w.heap.size w).alloc (Nat.le_refl _) _).trans (hb1.mono (by simp))
  clear hx hown hb1
  simp only at p0 p1 p2 ⊢
  go_wp2_with fail
  go_region
  go_wp2_with fail
  refine bodyPost_ret (v := .tuple #[.string ⟨#[]⟩, .agg #[.int .i64 c, .int .i64 0, .int .i64 a]]) (by simp [results, Tryz.results10, go_sem, p0, p1, p2, hl1]) rfl ⟨rfl, ?_⟩
  exact ((((HB1.out.setCell (Nat.le_refl _) _).setCell (Nat.le_refl _) _).setCell (Nat.le_refl _) _).alloc (by have := HB1.out.size; simp [World.setCell]; omega) _).drew

set_option maxRecDepth 100000 in
set_option maxHeartbeats 3200000 in
theorem print_good (s : ByteArray) (w : World) (hE : LEnv w) (hP : PowE w) {ks : List Nd} (hs : parseT s.data.toList = (rowsP ks, (0, 0))) (hw : WfP ks) (hsz : ndsSize ks + 1 ≤ 600) :
    Calls Tryz.prog 10 #[.string s] w fun e w' => e = .returned (.tuple #[.string ⟨⟨pcsB (pcsP ks)⟩⟩, .agg #[.int .i64 0, .int .i64 0, .int .i64 0]]) ∧ Below w.heap.size w w' := by
  have HS := Hid.out (p := Hid _) hs
  have hA : Below w.heap.size w (w.alloc (.cells #[.int .i64 0, .int .i64 0, .int .i64 0] 25)) := (Below.refl _ _).alloc (Nat.le_refl _) _
  have HE := Hid.out (p := Hid _) (hE.below hA)
  have HW := Hid.out (p := Hid _) (And.intro hP (And.intro hw hsz))
  clear hs hE hA hP hw hsz
  go_enter Tryz.func10, Tryz.ntmps10
  go_wp2_with fail
  refine Calls.mono (parse_any s _ HE.out) ?_
  rintro e w1 ⟨⟨v, rfl, hown⟩, hb1⟩
  rw [HS.out] at hown ⊢
  obtain ⟨la, lc, rfl, hr1⟩ := hown.read
  simp only at hr1 ⊢
  have hx := (hb1.block w.heap.size (by simp)).trans (heap_alloc_new w _)
  have hl1 : w.heap.size < w1.heap.size := Nat.lt_of_lt_of_le (by simp) hb1.size
  have h01 : Below w.heap.size w w1 := ((Below.refl w.heap.size w).alloc (Nat.le_refl _) _).trans (hb1.mono (by simp))
  obtain ⟨W0, hW0⟩ : ∃ W0, W0 = w1.alloc (.cells #[.int .i64 0, .int .i64 0, .int .i64 0] 25) := ⟨_, rfl⟩
  have h1W : Below w1.heap.size w1 W0 := by rw [hW0]; exact (Below.refl _ _).alloc (Nat.le_refl _) _
  have hsW : W0.heap.size = w1.heap.size + 1 := by rw [hW0]; simp
  have hxW := (h1W.block w.heap.size hl1).trans hx
  have h0W := h01.trans (h1W.mono h01.size)
  obtain ⟨W1, hW1⟩ : ∃ W1, W1 = W0.alloc (.cells #[.pointer none, .slice none 0 0, .slice la (rowsP ks).length lc, .int .i64 0] 59) := ⟨_, rfl⟩
  have hWW : Below W0.heap.size W0 W1 := by rw [hW1]; exact (Below.refl _ _).alloc (Nat.le_refl _) _
  have hpx : Px W0 la lc (rowsP ks) W1 W0.heap.size [] 0 := ⟨⟨.pointer none, .slice none 0 0, Or.inl rfl, ⟨Nat.le_refl _, by rw [hW1]; exact heap_alloc_new _ _, World.ownsRow_nil _ _ _ _, by simp [Value.ownBlock]⟩⟩, hWW⟩
  have HX := Hid.out (p := Hid _) (gprog_any HW.out.2.1 HW.out.2.2 W0 W1 la lc W0.heap.size (HW.out.1.below h0W) (hr1.below h1W) hpx)
  have HB : Hid (Below w.heap.size w W0 ∧ W0.heap[w.heap.size]? = some (.cells #[.int .i64 0, .int .i64 0, .int .i64 0] 25) ∧ w.heap.size < W0.heap.size ∧ Below W0.heap.size W0 W1) := ⟨h0W, hxW, by omega, hWW⟩
  have HW1 := Hid.out (p := Hid _) (And.intro hW0 (And.intro hW1 hsW))
  clear hx hown hb1 hr1 h01 h1W hxW h0W hWW hpx hW0 hW1 hsW
  go_wp2_with fail
  rw [← HW1.out.1]
  rw [show w1.heap.size + 1 = W0.heap.size from HW1.out.2.2.symm, ← HW1.out.2.1]
  refine Calls.mono HX.out ?_
  rintro e w2 ⟨rfl, hz⟩
  have HZ := Hid.out (p := Hid _) hz
  clear hz
  go_wp2_with fail
  refine Calls.mono (stringP HZ.out.px.pr) ?_
  rintro e w3 ⟨rfl, hb3⟩
  have h3 : Below W0.heap.size W0 w3 := HZ.out.px.low.trans hb3
  have hx := (h3.block w.heap.size HB.out.2.2.1).trans HB.out.2.1
  have p0 := box_cell (i := 0) hx rfl
  have p1 := box_cell (i := 1) hx rfl
  have p2 := box_cell (i := 2) hx rfl
  have pf := fun j => box_free (i := j) hx
  have HB3 : Hid (Below w.heap.size w w3) := HB.out.1.trans (h3.mono HB.out.1.size)
  clear hb3 h3 hx
  go_wp2_with fail
  refine bodyPost_ret (v := .tuple #[.string ⟨⟨pcsB (pcsP ks)⟩⟩, .agg #[.int .i64 0, .int .i64 0, .int .i64 0]]) (by simp [results, Tryz.results10, go_sem, p0, p1, p2]) rfl ⟨rfl, ?_⟩
  exact ((HB3.out.setCell (Nat.le_refl _) _).setCell (Nat.le_refl _) _).setCell (Nat.le_refl _) _
end

section
open Go.RowKit

set_option maxRecDepth 100000 in
set_option maxHeartbeats 3200000 in
theorem synPrints_bad (s : ByteArray) (w : World) (hE : LEnv w) (c a : Int) (hs : parseT s.data.toList = ([], (c, a))) (hc0 : c ≠ 0) :
    Calls Tryz.prog 4 #[.string s] w fun e w' => e = .returned (.bool true) ∧ Below w.heap.size w w' := by
  have hc : (c != 0) = true := by simpa using hc0
  have HS := Hid.out (p := Hid _) hs
  have HE := Hid.out (p := Hid _) hE
  have HC := Hid.out (p := Hid _) hc0
  clear hs hE hc0
  go_enter Tryz.func4, Tryz.ntmps4
  go_wp2_with fail
  refine Calls.mono (print_bad s _ HE.out c a HS.out HC.out) ?_
  rintro e w1 ⟨rfl, hb1⟩
  have HB1 := Hid.out (p := Hid _) hb1
  clear hb1
  go_wp2_with fail
  refine Calls.mono (rparse_any s _) ?_
  rintro e w2 ⟨⟨v, rfl, hown⟩, hb2⟩
  rw [HS.out] at hown ⊢
  obtain ⟨ma, mc, rfl, -⟩ := hown.read
  simp only
  have hA := (Below.refl w1.heap.size w1).alloc (Nat.le_refl _) (.cells #[.int .i64 c, .int .i64 0, .int .i64 a] 25)
  have hx2 := (hb2.block w1.heap.size (by simp)).trans (heap_alloc_new w1 _)
  have h12 := hA.trans (hb2.mono (by simp))
  have p0 := box_cell (i := 0) hx2 rfl
  have p1 := box_cell (i := 1) hx2 rfl
  have p2 := box_cell (i := 2) hx2 rfl
  have HB2 : Hid (Below w.heap.size w w2) := HB1.out.trans (h12.mono HB1.out.size)
  have hl2 := lt_of_cell p0
  clear hown hb2 hA hx2 h12
  go_wp2_with fail
  go_ret
  exact ⟨rfl, HB2.out.alloc HB2.out.size _⟩
/-- What is stored stood there already. -/
theorem set_same {w : World} {b j : Nat} {cs : Array Value} {t : TypeId} {f : Nat × Nat} {v : Value} (h : w.heap[b]? = some (.cells cs t f)) (hv : cs[j]? = some v) : w.setCell ⟨b, j, none⟩ v = w := by
  have e : cs.setIfInBounds j v = cs := by
    refine Array.ext_getElem? fun i => ?_
    rw [Array.getElem?_setIfInBounds]
    split
    · rename_i hi
      subst hi
      split
      · exact hv.symm
      · rename_i hl
        rw [Array.getElem?_eq_none (by omega)]
    · rfl
  have hm : (w.setCell ⟨b, j, none⟩ v).heap = w.heap := by
    refine Array.ext_getElem? fun i => ?_
    unfold World.setCell
    rw [Array.getElem?_modify]
    split
    · rename_i hi
      have hi' : b = i := hi
      subst hi'
      rw [h]
      simp [e]
    · rfl
  have : w.setCell ⟨b, j, none⟩ v = { w with heap := (w.setCell ⟨b, j, none⟩ v).heap } := rfl
  rw [this, hm]
theorem same_rows {xs ys : List Row} (h : ys.map eraseR = xs.map eraseR) : ys.length = xs.length ∧ ∀ i, i < xs.length → SameR false (xs.getD i row0) (ys.getD i row0) := by
  have hl : ys.length = xs.length := by simpa using congrArg List.length h
  refine ⟨hl, fun i hi => ?_⟩
  have h1 : (ys.map eraseR)[i]? = (xs.map eraseR)[i]? := by rw [h]
  rw [List.getElem?_map, List.getElem?_map, List.getElem?_eq_getElem hi, List.getElem?_eq_getElem (by omega : i < ys.length)] at h1
  simp only [Option.map_some, Option.some.injEq] at h1
  rw [List.getD_eq_getElem?_getD, List.getD_eq_getElem?_getD, List.getElem?_eq_getElem hi, List.getElem?_eq_getElem (by omega : i < ys.length)]
  simp only [Option.getD_some]
  unfold eraseR at h1
  simp only [Row.mk.injEq, true_and] at h1
  exact ⟨h1.1.symm, h1.2.1.symm, h1.2.2.1.symm, h1.2.2.2.symm, fun h => by cases h⟩

set_option maxRecDepth 100000 in
set_option maxHeartbeats 3200000 in
theorem synPrints_good (s : ByteArray) (w : World) (hE : LEnv w) (hP : PowE w) {ks : List Nd} (hs : parseT s.data.toList = (rowsP ks, (0, 0))) (hw : WfP ks) (hsz : ndsSize ks + 1 ≤ 600) (hbk : (pcsB (pcsP ks)).length ≤ 4000 → ∃ ks', parseT (pcsB (pcsP ks)) = (rowsP ks', (0, 0)) ∧ (rowsP ks').map eraseR = (rowsP ks).map eraseR ∧ pcsP ks' = pcsP ks) :
    Calls Tryz.prog 4 #[.string s] w fun e w' => e = .returned (.bool true) ∧ Below w.heap.size w w' := by
  have HS := Hid.out (p := Hid _) hs
  have HE := Hid.out (p := Hid _) hE
  have hfew := parse_few s.data.toList
  rw [hs] at hfew
  have HW := Hid.out (p := Hid _) (And.intro hP (And.intro hw (And.intro hsz hfew)))
  have hlen := prog_len ks (wfp_mem hw) (by omega)
  obtain ⟨S, hS⟩ : ∃ S : ByteArray, S = ⟨⟨pcsB (pcsP ks)⟩⟩ := ⟨_, rfl⟩
  have hSl : S.size ≤ 5000000 := by rw [hS, Lib.size_eq]; show (pcsB (pcsP ks)).length ≤ _; omega
  have HPR : Hid (Calls Tryz.prog 10 #[.string s] w fun e w' => e = .returned (.tuple #[.string S, .agg #[.int .i64 0, .int .i64 0, .int .i64 0]]) ∧ Below w.heap.size w w') := by
    rw [hS]
    exact print_good s w hE hP hs hw hsz
  have HRP : Hid (∀ (a : Option Addr) (c : Nat) (W : World), NdsR W a (rowsP ks) → Calls Tryz.prog 11 #[.slice a (rowsP ks).length c] W fun e w' => e = .returned (.string S) ∧ Below W.heap.size W w') := fun a c W hr => by
    rw [hS]
    exact rprint_any hw hsz a c W hr
  have HSZ : Hid (S.data.toList = pcsB (pcsP ks) ∧ S.size = (pcsB (pcsP ks)).length) := ⟨by rw [hS], by rw [hS, Lib.size_eq]⟩
  have HBK := Hid.out (p := Hid _) hbk
  clear hs hE hP hw hsz hbk hS hlen hfew
  go_enter Tryz.func4, Tryz.ntmps4
  go_wp2_with fail
  refine Calls.mono HPR.out ?_
  rintro e w1 ⟨rfl, hb1⟩
  have HB1 := Hid.out (p := Hid _) hb1
  clear hb1 HPR
  go_wp2_with fail
  refine Calls.mono (rparse_any s _) ?_
  rintro e w2 ⟨⟨v, rfl, hown⟩, hb2⟩
  rw [HS.out] at hown ⊢
  obtain ⟨ma, mc, rfl, hr2⟩ := hown.read
  simp only at hr2 ⊢
  have hA := (Below.refl w1.heap.size w1).alloc (Nat.le_refl _) (.cells #[.int .i64 0, .int .i64 0, .int .i64 0] 25)
  have hx2 := (hb2.block w1.heap.size (by simp)).trans (heap_alloc_new w1 _)
  have h12 := hA.trans (hb2.mono (by simp))
  have p0 := box_cell (i := 0) hx2 rfl
  have p1 := box_cell (i := 1) hx2 rfl
  have p2 := box_cell (i := 2) hx2 rfl
  have hl2 := lt_of_cell p0
  have HB2 : Hid (Below w.heap.size w w2 ∧ NdsR w2 ma (rowsP ks) ∧ w2.heap[w1.heap.size]? = some (.cells #[.int .i64 0, .int .i64 0, .int .i64 0] 25)) := ⟨HB1.out.trans (h12.mono HB1.out.size), hr2, hx2⟩
  clear hown hb2 hA hx2 h12 hr2
  go_wp2_with fail
  have hA2 := (Below.refl w2.heap.size w2).alloc (Nat.le_refl _) (.cells #[.int .i64 0, .int .i64 0, .int .i64 0] 25)
  refine Calls.mono (HRP.out ma mc _ (HB2.out.2.1.below hA2)) ?_
  rintro e w3 ⟨rfl, hb3⟩
  have h23 := hA2.trans (hb3.mono (by simp))
  have hx3 := (h23.block w1.heap.size hl2).trans HB2.out.2.2
  have HB3 : Hid (Below w.heap.size w w3 ∧ NdsR w3 ma (rowsP ks) ∧ w3.heap[w1.heap.size]? = some (.cells #[.int .i64 0, .int .i64 0, .int .i64 0] 25)) := ⟨HB2.out.1.trans (h23.mono HB2.out.1.size), HB2.out.2.1.below h23, hx3⟩
  clear p0 p1 p2 hA2 hb3 h23 hx3 HB2
  by_cases hl : S.size ≤ 4000
  · obtain ⟨ks', hp', he', -⟩ := HBK.out (by rw [← HSZ.out.2]; exact hl)
    obtain ⟨hle, hsm⟩ := same_rows he'
    have HP' : Hid (parseT S.data.toList = (rowsP ks', (0, 0))) := by show _ = _; rw [HSZ.out.1]; exact hp'
    have HSM := Hid.out (p := Hid _) (And.intro hle hsm)
    have hl' : ¬ (4000 : Int) < (S.size : Int) := by omega
    clear hp' he' hle hsm
    go_wp2_with fail
    refine Calls.mono (parse_any S _ (HE.out.below HB3.out.1)) ?_
    rintro e w4 ⟨⟨v, rfl, hown⟩, hb4⟩
    rw [HP'.out] at hown ⊢
    obtain ⟨na, nc, rfl, hr4⟩ := hown.read
    simp only at hr4 ⊢
    have hx4 := (hb4.block w1.heap.size (heap_lt9 HB3.out.2.2)).trans HB3.out.2.2
    have p0 := box_cell (i := 0) hx4 rfl
    have p1 := box_cell (i := 1) hx4 rfl
    have p2 := box_cell (i := 2) hx4 rfl
    have pf := fun j => box_free (i := j) hx4
    have h04 := HB3.out.1.trans (hb4.mono HB3.out.1.size)
    have HB4 : Hid (Below w.heap.size w w4 ∧ w4.heap[w1.heap.size]? = some (.cells #[.int .i64 0, .int .i64 0, .int .i64 0] 25) ∧ NdsR w4 ma (rowsP ks) ∧ NdsR w4 na (rowsP ks')) := ⟨h04, hx4, HB3.out.2.1.below hb4, hr4⟩
    clear hx4 hb4 h04 hown hr4
    go_wp2_with fail
    rw [set_same (v := .int .i64 0) HB4.out.2.1 (j := 0) rfl, set_same (v := .int .i64 0) HB4.out.2.1 (j := 1) rfl, set_same (v := .int .i64 0) HB4.out.2.1 (j := 2) rfl]
    refine Calls.mono (same_but ma na mc nc (rowsP ks) (rowsP ks') HSM.out.1 (by have := HW.out.2.2.2.1; omega) HSM.out.2 (fun i hi => Nat.le_trans (HW.out.2.2.2.2 _ (getD_mem9 hi)) (by decide)) _ HB4.out.2.2.1 HB4.out.2.2.2) ?_
    rintro e w5 ⟨rfl, hb5⟩
    have hx5 := (hb5.block w1.heap.size (heap_lt9 HB4.out.2.1)).trans HB4.out.2.1
    clear p0 p1 p2 pf
    have p0 := box_cell (i := 0) hx5 rfl
    have HB5 : Hid (Below w.heap.size w w5) := HB4.out.1.trans (hb5.mono HB4.out.1.size)
    clear hx5 hb5
    go_wp2_with fail
    go_ret
    exact ⟨rfl, HB5.out⟩
  · have hl' : (4000 : Int) < (S.size : Int) := by omega
    go_wp2_with fail
    go_ret
    exact ⟨rfl, HB3.out.1⟩

theorem synPrints_any (s : ByteArray) (w : World) (hE : LEnv w) (hP : PowE w) :
    Calls Tryz.prog 4 #[.string s] w fun e w' => e = .returned (.bool true) ∧ Below w.heap.size w w' := by
  rcases print_cases s.data.toList with ⟨h1, h2⟩ | ⟨ks, h1, h2, h3, h4⟩
  · exact synPrints_bad s w hE (parseT s.data.toList).2.1 (parseT s.data.toList).2.2 (by rw [← h1]) h2
  · exact synPrints_good s w hE hP h1 h2 h3 h4
end

end Go.Proofs.YtclnjhffcfkihaeGreatDoor
