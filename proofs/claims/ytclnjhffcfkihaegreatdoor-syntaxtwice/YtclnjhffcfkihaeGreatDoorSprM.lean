/-
  The program's Print.
  The law of what is printed.
  The law of what is printed twice.
-/
import Derived.Test.YtclnjhffcfkihaeGreatDoorSprL
import Derived.Test.YtclnjhffcfkihaeGreatDoorSqW
import Derived.Test.YtclnjhffcfkihaeGreatDoorSynK1
import Derived.Deep.QuietTactic
import Derived.StillTailTactics
import Derived.BigQuiet
namespace Go.Proofs.YtclnjhffcfkihaeGreatDoor
section
open Go.RowKit

theorem parseT_of {n : Nat} {s : List UInt8} {r : List Row × (Int × Int)} (h : parseF n s = some r) : parseT s = r := by
  unfold parseF at h
  unfold parseT
  split at h
  · rename_i hs
    rw [if_pos hs]
    exact Option.some.inj h
  · rename_i hs
    rw [if_neg hs]
    cases hp : progF (s.length : Int) n (scanL s).1 with
    | none => rw [hp] at h; cases h
    | some z =>
      have h2 := tld_is (progF_is (e := (s.length : Int)) (scanL s).1).up hp
      rw [(progF_is (scanL s).1).is] at h2
      rw [hp] at h
      rw [h2]
      cases z with
      | error f => exact Option.some.inj h
      | ok p =>
        obtain ⟨ks, q⟩ := p
        simp only at h ⊢
        split
        · rename_i h6
          rw [if_pos h6] at h
          exact Option.some.inj h
        · rename_i h6
          rw [if_neg h6] at h
          exact Option.some.inj h
theorem parse_bad_or {n : Nat} {s : List UInt8} {r : List Row × (Int × Int)} (h : parseF n s = some r) : (r.1 = [] ∧ r.2.1 ≠ 0) ∨ r.2 = (0, 0) := by
  unfold parseF at h
  split at h
  · rename_i hs
    obtain rfl := (Option.some.inj h).symm
    exact Or.inl ⟨rfl, hs⟩
  · split at h
    · cases h
    · rename_i f hf
      have hc := err_prog _ _ f hf
      obtain rfl := (Option.some.inj h).symm
      refine Or.inl ⟨rfl, fun h0 => ?_⟩
      have h0' : f.1 = 0 := h0
      rw [h0'] at hc
      exact absurd hc (by decide)
    · split at h
      · obtain rfl := (Option.some.inj h).symm
        exact Or.inl ⟨rfl, by simp⟩
      · obtain rfl := (Option.some.inj h).symm
        exact Or.inr rfl
/-- What a text's Print is, in plain words. -/
theorem print_cases (s : List UInt8) : ((parseT s).1 = [] ∧ (parseT s).2.1 ≠ 0) ∨ ∃ ks, parseT s = (rowsP ks, (0, 0)) ∧ WfP ks ∧ ndsSize ks + 1 ≤ 600 ∧ ((pcsB (pcsP ks)).length ≤ 4000 → ∃ ks', parseT (pcsB (pcsP ks)) = (rowsP ks', (0, 0)) ∧ (rowsP ks').map eraseR = (rowsP ks).map eraseR ∧ pcsP ks' = pcsP ks) := by
  obtain ⟨n, hn⟩ := parseT_is s
  rcases parse_bad_or hn with h | h
  · exact Or.inl h
  · have hc : parseT s = ((parseT s).1, (0, 0)) := by rw [← h]
    rw [hc] at hn
    obtain ⟨ks, h1, h2, h3, h4⟩ := print_back hn
    refine Or.inr ⟨ks, by rw [hc, h1], h2, h3, fun hl => ?_⟩
    obtain ⟨m, ks', h5, h6, h7⟩ := h4 hl
    exact ⟨ks', parseT_of h5, by rw [h6, h1], h7⟩

set_option maxRecDepth 100000 in
set_option maxHeartbeats 3200000 in
theorem print_bad (s : ByteArray) (w : World) (hE : LEnv w) (c a : Int) (hs : parseT s.data.toList = ([], (c, a))) (hc0 : c ≠ 0) :
    Calls Tryz.prog 10 #[.string s] w fun e w' => e = .returned (.tuple #[.string ⟨#[]⟩, .agg #[.int .i64 c, .int .i64 0, .int .i64 a]]) ∧ Below w.heap.size w w' := by
  have hc : (c != 0) = true := by simpa using hc0
  have HS := Hid.out (p := Hid _) hs
  have hA : Below w.heap.size w (w.alloc (.cells #[.int .i64 0, .int .i64 0, .int .i64 0] 25)) := (Below.refl _ _).alloc (Nat.le_refl _) _
  have HE := Hid.out (p := Hid _) (hE.below hA)
  clear hs hE hA hc0
  go_enter Tryz.func10, Tryz.ntmps10
  go_wp2_with fail
  refine Calls.mono (parse_any s _ HE.out) ?_
  rintro e w1 ⟨⟨v, rfl, hown⟩, hb1⟩
  rw [HS.out] at hown ⊢
  obtain ⟨la, lc, rfl, -⟩ := hown.read
  have hx := (hb1.block w.heap.size (by simp)).trans (heap_alloc_new w _)
  have p0 := box_cell (i := 0) hx rfl
  have p1 := box_cell (i := 1) hx rfl
  have p2 := box_cell (i := 2) hx rfl
  have pf := fun j => box_free (i := j) hx
  have hl1 : w.heap.size < w1.heap.size := Nat.lt_of_lt_of_le (by simp) hb1.size
  have HB1 : Hid (Below w.heap.size w w1) := ((Below.refl w.heap.size w).alloc (Nat.le_refl _) _).trans (hb1.mono (by simp))
  clear hx hown hb1
  simp only at p0 p1 p2 ⊢
  go_wp2_with fail
  go_region
  go_wp2_with fail
  refine bodyPost_ret (v := .tuple #[.string ⟨#[]⟩, .agg #[.int .i64 c, .int .i64 0, .int .i64 a]]) (by simp [results, Tryz.results10, go_sem, p0, p1, p2, hl1]) rfl ⟨rfl, ?_⟩
  exact ((((HB1.out.setCell (Nat.le_refl _) _).setCell (Nat.le_refl _) _).setCell (Nat.le_refl _) _).alloc (by have := HB1.out.size; simp [World.setCell]; omega) _).drew

set_option maxRecDepth 100000 in
set_option maxHeartbeats 3200000 in
theorem print_good (s : ByteArray) (w : World) (hE : LEnv w) (hP : PowE w) {ks : List Nd} (hs : parseT s.data.toList = (rowsP ks, (0, 0))) (hw : WfP ks) (hsz : ndsSize ks + 1 ≤ 600) :
    Calls Tryz.prog 10 #[.string s] w fun e w' => e = .returned (.tuple #[.string ⟨⟨pcsB (pcsP ks)⟩⟩, .agg #[.int .i64 0, .int .i64 0, .int .i64 0]]) ∧ Below w.heap.size w w' := by
  have HS := Hid.out (p := Hid _) hs
  have hA : Below w.heap.size w (w.alloc (.cells #[.int .i64 0, .int .i64 0, .int .i64 0] 25)) := (Below.refl _ _).alloc (Nat.le_refl _) _
  have HE := Hid.out (p := Hid _) (hE.below hA)
  have HW := Hid.out (p := Hid _) (And.intro hP (And.intro hw hsz))
  clear hs hE hA hP hw hsz
  go_enter Tryz.func10, Tryz.ntmps10
  go_wp2_with fail
  refine Calls.mono (parse_any s _ HE.out) ?_
  rintro e w1 ⟨⟨v, rfl, hown⟩, hb1⟩
  rw [HS.out] at hown ⊢
  obtain ⟨la, lc, rfl, hr1⟩ := hown.read
  simp only at hr1 ⊢
  have hx := (hb1.block w.heap.size (by simp)).trans (heap_alloc_new w _)
  have hl1 : w.heap.size < w1.heap.size := Nat.lt_of_lt_of_le (by simp) hb1.size
  have h01 : Below w.heap.size w w1 := ((Below.refl w.heap.size w).alloc (Nat.le_refl _) _).trans (hb1.mono (by simp))
  obtain ⟨W0, hW0⟩ : ∃ W0, W0 = w1.alloc (.cells #[.int .i64 0, .int .i64 0, .int .i64 0] 25) := ⟨_, rfl⟩
  have h1W : Below w1.heap.size w1 W0 := by rw [hW0]; exact (Below.refl _ _).alloc (Nat.le_refl _) _
  have hsW : W0.heap.size = w1.heap.size + 1 := by rw [hW0]; simp
  have hxW := (h1W.block w.heap.size hl1).trans hx
  have h0W := h01.trans (h1W.mono h01.size)
  obtain ⟨W1, hW1⟩ : ∃ W1, W1 = W0.alloc (.cells #[.pointer none, .slice none 0 0, .slice la (rowsP ks).length lc, .int .i64 0] 59) := ⟨_, rfl⟩
  have hWW : Below W0.heap.size W0 W1 := by rw [hW1]; exact (Below.refl _ _).alloc (Nat.le_refl _) _
  have hpx : Px W0 la lc (rowsP ks) W1 W0.heap.size [] 0 := ⟨⟨.pointer none, .slice none 0 0, Or.inl rfl, ⟨Nat.le_refl _, by rw [hW1]; exact heap_alloc_new _ _, World.ownsRow_nil _ _ _ _, by simp [Value.ownBlock]⟩⟩, hWW⟩
  have HX := Hid.out (p := Hid _) (gprog_any HW.out.2.1 HW.out.2.2 W0 W1 la lc W0.heap.size (HW.out.1.below h0W) (hr1.below h1W) hpx)
  have HB : Hid (Below w.heap.size w W0 ∧ W0.heap[w.heap.size]? = some (.cells #[.int .i64 0, .int .i64 0, .int .i64 0] 25) ∧ w.heap.size < W0.heap.size ∧ Below W0.heap.size W0 W1) := ⟨h0W, hxW, by omega, hWW⟩
  have HW1 := Hid.out (p := Hid _) (And.intro hW0 (And.intro hW1 hsW))
  clear hx hown hb1 hr1 h01 h1W hxW h0W hWW hpx hW0 hW1 hsW
  go_wp2_with fail
  rw [← HW1.out.1]
  rw [show w1.heap.size + 1 = W0.heap.size from HW1.out.2.2.symm, ← HW1.out.2.1]
  refine Calls.mono HX.out ?_
  rintro e w2 ⟨rfl, hz⟩
  have HZ := Hid.out (p := Hid _) hz
  clear hz
  go_wp2_with fail
  refine Calls.mono (stringP HZ.out.px.pr) ?_
  rintro e w3 ⟨rfl, hb3⟩
  have h3 : Below W0.heap.size W0 w3 := HZ.out.px.low.trans hb3
  have hx := (h3.block w.heap.size HB.out.2.2.1).trans HB.out.2.1
  have p0 := box_cell (i := 0) hx rfl
  have p1 := box_cell (i := 1) hx rfl
  have p2 := box_cell (i := 2) hx rfl
  have pf := fun j => box_free (i := j) hx
  have HB3 : Hid (Below w.heap.size w w3) := HB.out.1.trans (h3.mono HB.out.1.size)
  clear hb3 h3 hx
  go_wp2_with fail
  refine bodyPost_ret (v := .tuple #[.string ⟨⟨pcsB (pcsP ks)⟩⟩, .agg #[.int .i64 0, .int .i64 0, .int .i64 0]]) (by simp [results, Tryz.results10, go_sem, p0, p1, p2]) rfl ⟨rfl, ?_⟩
  exact ((HB3.out.setCell (Nat.le_refl _) _).setCell (Nat.le_refl _) _).setCell (Nat.le_refl _) _
end

section
open Go.RowKit

/-- What is stored stood there already. -/
theorem set_same {w : World} {b j : Nat} {cs : Array Value} {t : TypeId} {f : Nat × Nat} {v : Value} (h : w.heap[b]? = some (.cells cs t f)) (hv : cs[j]? = some v) : w.setCell ⟨b, j, none⟩ v = w := by
  have e : cs.setIfInBounds j v = cs := by
    refine Array.ext_getElem? fun i => ?_
    rw [Array.getElem?_setIfInBounds]
    split
    · rename_i hi
      subst hi
      split
      · exact hv.symm
      · rename_i hl
        rw [Array.getElem?_eq_none (by omega)]
    · rfl
  have hm : (w.setCell ⟨b, j, none⟩ v).heap = w.heap := by
    refine Array.ext_getElem? fun i => ?_
    unfold World.setCell
    rw [Array.getElem?_modify]
    split
    · rename_i hi
      have hi' : b = i := hi
      subst hi'
      rw [h]
      simp [e]
    · rfl
  have : w.setCell ⟨b, j, none⟩ v = { w with heap := (w.setCell ⟨b, j, none⟩ v).heap } := rfl
  rw [this, hm]
end

section
open Go.RowKit

/-- What is printed is read as a program, and is printed as it was. -/
theorem print_again {s : List UInt8} {ks : List Nd} (hw : WfP ks) (hs : s = pcsB (pcsP ks)) (hsz : ndsSize ks + 1 ≤ 600) (hlen : s.length ≤ 4000) : ∃ ks', parseT s = (rowsP ks', (0, 0)) ∧ WfP ks' ∧ ndsSize ks' + 1 ≤ 600 ∧ pcsP ks' = pcsP ks := by
  subst hs
  have hg := good_p hw
  have hok := hg.2 []
  obtain ⟨l, hl, hst⟩ := scan_pcs (pcsP ks) hok ((pcsB (pcsP ks)).length + 1) 0 [] (by have := pcsT_len hok; omega)
  have hsc : scanL (pcsB (pcsP ks)) = (l, 0, 0) := by unfold scanL; rw [if_neg (by omega), hl, List.nil_append]
  obtain ⟨ks', ⟨m, hm⟩, he⟩ := read_p (e := ((pcsB (pcsP ks)).length : Int)) hw (l := l) (by rw [hst, hg.1])
  have hm2 : progF ((pcsB (pcsP ks)).length : Int) m l = some (.ok (ks', [])) := hm
  have hsz2 : ndsSize ks' = ndsSize ks := by rw [← erases_size ks', he, erases_size]
  have hk := scanL_ok (pcsB (pcsP ks))
  rw [hsc] at hk
  refine ⟨ks', parseT_of (n := m) ?_, prog_wf hk hm2, by omega, by rw [← pcsP_erase, he, pcsP_erase]⟩
  unfold parseF
  rw [hsc]
  simp only [ne_eq, not_true, if_false, hm2]
  rw [if_neg (by omega)]
  rfl
/-- The statement's own text. -/
def litT : List UInt8 := [105, 110, 116, 32, 120, 59, 116, 104, 114, 101, 97, 100, 123, 120, 61, 49, 43, 50, 42, 51, 59, 125]
def litO : List UInt8 := [105, 110, 116, 32, 120, 59, 10, 116, 104, 114, 101, 97, 100, 32, 123, 10, 9, 120, 32, 61, 32, 49, 32, 43, 32, 50, 32, 42, 32, 51, 59, 10, 125, 10]
def litOk : Bool := match progF 22 60 (scanL litT).1 with
  | some (.ok (ks, _)) => decide (pcsB (pcsP ks) = litO) && decide (ndsSize ks + 1 ≤ 600) && decide ((scanL litT).2.1 = 0)
  | _ => false
theorem lit_ok : litOk = true := by decide +kernel
theorem lit_print : ∃ ks, parseT litT = (rowsP ks, (0, 0)) ∧ WfP ks ∧ ndsSize ks + 1 ≤ 600 ∧ pcsB (pcsP ks) = litO := by
  have h := lit_ok
  unfold litOk at h
  split at h
  · rename_i ks r hp
    simp only [Bool.and_eq_true, decide_eq_true_eq] at h
    refine ⟨ks, parseT_of (n := 60) ?_, prog_wf (scanL_ok litT) hp, h.1.2, h.1.1⟩
    unfold parseF
    rw [if_neg (by rw [h.2]; simp), show ((litT.length : Nat) : Int) = 22 from rfl, hp]
    simp only
    rw [if_neg (by omega)]
    rfl
  · cases h
set_option maxRecDepth 100000 in
set_option maxHeartbeats 3200000 in
theorem synTwice_any (s : ByteArray) (w : World) (hE : LEnv w) (hP : PowE w) :
    Calls Tryz.prog 5 #[.string s] w fun e w' => e = .returned (.bool true) ∧ Below w.heap.size w w' := by
  have HL : Hid (∀ S O : ByteArray, S.data.toList = litT → O.data.toList = litO → Calls Tryz.prog 10 #[.string S] w fun e w' => e = .returned (.tuple #[.string O, .agg #[.int .i64 0, .int .i64 0, .int .i64 0]]) ∧ Below w.heap.size w w') := fun S O hS hO => by
    obtain ⟨ks, h1, h2, h3, h4⟩ := lit_print
    have := print_good S w hE hP (by rw [hS]; exact h1) h2 h3
    rw [h4] at this
    rw [str_is hO]
    exact this
  have HE := Hid.out (p := Hid _) (And.intro hE hP)
  have hcase := print_cases s.data.toList
  clear hE hP
  go_enter Tryz.func5, Tryz.ntmps5
  go_wp2_with fail
  refine Calls.mono (HL.out _ ⟨#[105, 110, 116, 32, 120, 59, 10, 116, 104, 114, 101, 97, 100, 32, 123, 10, 9, 120, 32, 61, 32, 49, 32, 43, 32, 50, 32, 42, 32, 51, 59, 10, 125, 10]⟩ rfl rfl) ?_
  rintro e w1 ⟨rfl, hb1⟩
  have hA := (Below.refl w1.heap.size w1).alloc (Nat.le_refl _) (.cells #[.int .i64 0, .int .i64 0, .int .i64 0] 25)
  have HB1 : Hid (Below w.heap.size w (w1.alloc (.cells #[.int .i64 0, .int .i64 0, .int .i64 0] 25))) := hb1.trans (hA.mono hb1.size)
  have HB0 := Hid.out (p := Hid _) hb1
  clear hb1 hA HL
  go_wp2_with fail
  rcases hcase with ⟨h1, h2⟩ | ⟨ks, h1, h2, h3, -⟩
  · obtain ⟨c, hc⟩ : ∃ c, c = (parseT s.data.toList).2.1 := ⟨_, rfl⟩
    obtain ⟨a, ha⟩ : ∃ a, a = (parseT s.data.toList).2.2 := ⟨_, rfl⟩
    have hcb : (c != 0) = true := by rw [hc]; simpa using h2
    refine Calls.mono (print_bad s _ (HE.out.1.below HB1.out) c a (by rw [hc, ha, ← h1]) (by rw [hc]; exact h2)) ?_
    rintro e w2 ⟨rfl, hb2⟩
    have hx2 := (hb2.block w1.heap.size (by simp)).trans (heap_alloc_new w1 _)
    have p0 := box_cell (i := 0) hx2 rfl
    have p1 := box_cell (i := 1) hx2 rfl
    have p2 := box_cell (i := 2) hx2 rfl
    have pf := fun j => box_free (i := j) hx2
    have HB2 : Hid (Below w.heap.size w w2 ∧ w.heap.size ≤ w1.heap.size) := ⟨HB1.out.trans (hb2.mono HB1.out.size), HB0.out.size⟩
    clear hb2 hx2 h1 h2 hc ha
    go_wp2_with fail
    go_ret
    exact ⟨rfl, ((HB2.out.1.setCell (p := ⟨w1.heap.size, 0, none⟩) HB2.out.2 _).setCell (p := ⟨w1.heap.size, 1, none⟩) HB2.out.2 _).setCell (p := ⟨w1.heap.size, 2, none⟩) HB2.out.2 _⟩
  · have hlen := prog_len ks (wfp_mem h2) (by omega)
    obtain ⟨S, hS⟩ : ∃ S : ByteArray, S = ⟨⟨pcsB (pcsP ks)⟩⟩ := ⟨_, rfl⟩
    have hSl : S.size ≤ 5000000 := by rw [hS, Lib.size_eq]; show (pcsB (pcsP ks)).length ≤ _; omega
    have HPR : Hid (∀ W, Below w.heap.size w W → Calls Tryz.prog 10 #[.string s] W fun e w' => e = .returned (.tuple #[.string S, .agg #[.int .i64 0, .int .i64 0, .int .i64 0]]) ∧ Below W.heap.size W w') := fun W hW => by
      rw [hS]
      exact print_good s W (HE.out.1.below hW) (HE.out.2.below hW) h1 h2 h3
    have HPS : Hid (S.size ≤ 4000 → ∀ W, Below w.heap.size w W → Calls Tryz.prog 10 #[.string S] W fun e w' => e = .returned (.tuple #[.string S, .agg #[.int .i64 0, .int .i64 0, .int .i64 0]]) ∧ Below W.heap.size W w') := fun hl W hW => by
      obtain ⟨ks', k1, k2, k3, k4⟩ := print_again (s := S.data.toList) h2 (by rw [hS]) h3 (by rw [← Lib.size_eq]; exact hl)
      have := print_good S W (HE.out.1.below hW) (HE.out.2.below hW) k1 k2 k3
      rw [k4] at this
      have e9 : (⟨⟨pcsB (pcsP ks)⟩⟩ : ByteArray) = S := hS.symm
      rw [e9] at this
      exact this
    clear hS hlen h1 h2 h3
    refine Calls.mono (HPR.out _ HB1.out) ?_
    rintro e w2 ⟨rfl, hb2⟩
    have hx2 := (hb2.block w1.heap.size (by simp)).trans (heap_alloc_new w1 _)
    have p0 := box_cell (i := 0) hx2 rfl
    have p1 := box_cell (i := 1) hx2 rfl
    have p2 := box_cell (i := 2) hx2 rfl
    have pf := fun j => box_free (i := j) hx2
    have HB2 : Hid (Below w.heap.size w w2 ∧ w.heap.size ≤ w1.heap.size ∧ w2.heap[w1.heap.size]? = some (.cells #[.int .i64 0, .int .i64 0, .int .i64 0] 25)) := ⟨HB1.out.trans (hb2.mono HB1.out.size), HB0.out.size, hx2⟩
    clear hb2 hx2
    by_cases hl : S.size ≤ 4000
    · have hl' : ¬ (4000 : Int) < (S.size : Int) := by omega
      go_wp2_with fail
      rw [set_same (v := .int .i64 0) HB2.out.2.2 (j := 0) rfl, set_same (v := .int .i64 0) HB2.out.2.2 (j := 1) rfl, set_same (v := .int .i64 0) HB2.out.2.2 (j := 2) rfl]
      refine Calls.mono (HPS.out hl _ HB2.out.1) ?_
      rintro e w3 ⟨rfl, hb3⟩
      have hx3 := (hb3.block w1.heap.size (heap_lt9 HB2.out.2.2)).trans HB2.out.2.2
      clear p0 p1 p2 pf
      have p0 := box_cell (i := 0) hx3 rfl
      have p1 := box_cell (i := 1) hx3 rfl
      have p2 := box_cell (i := 2) hx3 rfl
      have pf := fun j => box_free (i := j) hx3
      have HB3 : Hid (Below w.heap.size w w3 ∧ w.heap.size ≤ w1.heap.size) := ⟨HB2.out.1.trans (hb3.mono HB2.out.1.size), HB2.out.2.1⟩
      clear hx3 hb3
      go_wp2_with fail
      go_ret
      exact ⟨rfl, ((HB3.out.1.setCell (p := ⟨w1.heap.size, 0, none⟩) HB3.out.2 _).setCell (p := ⟨w1.heap.size, 1, none⟩) HB3.out.2 _).setCell (p := ⟨w1.heap.size, 2, none⟩) HB3.out.2 _⟩
    · have hl' : (4000 : Int) < (S.size : Int) := by omega
      go_wp2_with fail
      go_ret
      exact ⟨rfl, ((HB2.out.1.setCell (p := ⟨w1.heap.size, 0, none⟩) HB2.out.2.1 _).setCell (p := ⟨w1.heap.size, 1, none⟩) HB2.out.2.1 _).setCell (p := ⟨w1.heap.size, 2, none⟩) HB2.out.2.1 _⟩
end

end Go.Proofs.YtclnjhffcfkihaeGreatDoor
