/-
  The clashes of one state are noted down, by the program.
-/
import Derived.Test.YtgofbkgfonlceacGreatDoorOcComp2
namespace Go.Proofs.YtgofbkgfonlceacGreatDoor
open Go.RowKit

def stOp (op : Int) : Bool := decide (op = 9) || decide (op = 11)
/-- How two touches clash. -/
def cl2 (r q : List Int) : Option (List Int) := if r.getD 3 0 = q.getD 3 0 ∧ (stOp (r.getD 2 0) || stOp (q.getD 2 0)) = true then some [r.getD 0 0, r.getD 1 0, q.getD 0 0, q.getD 1 0, r.getD 3 0] else none
/-- The clashes of touches, so far. -/
def pcA (l : List (List Int)) (i : Nat) (c : List Int) : Prop := ∃ i' j', i' < i ∧ i' < j' ∧ j' < l.length ∧ cl2 (l.getD i' []) (l.getD j' []) = some c
def pcB (l : List (List Int)) (i j : Nat) (c : List Int) : Prop := ∃ j', i < j' ∧ j' < j ∧ cl2 (l.getD i []) (l.getD j' []) = some c
section
variable {l : List (List Int)} {i j : Nat} {c : List Int}
theorem pcB_next (h : i < j) : pcB l i (j + 1) c ↔ pcB l i j c ∨ cl2 (l.getD i []) (l.getD j []) = some c := by
  constructor
  · rintro ⟨b', h1, h2, h3⟩
    by_cases e : b' = j
    · rw [e] at h3; exact Or.inr h3
    · exact Or.inl ⟨b', h1, by omega, h3⟩
  · rintro (⟨b', h1, h2, h3⟩ | h')
    · exact ⟨b', h1, by omega, h3⟩
    · exact ⟨j, h, by omega, h'⟩
theorem pcB_first : ¬ pcB l i (i + 1) c := fun ⟨b', h1, h2, _⟩ => by omega
theorem pcA_next : pcA l (i + 1) c ↔ pcA l i c ∨ pcB l i l.length c := by
  constructor
  · rintro ⟨a', b', h1, h2, h3, h4⟩
    by_cases e : a' = i
    · rw [e] at h2 h4; exact Or.inr ⟨b', h2, h3, h4⟩
    · exact Or.inl ⟨a', b', by omega, h2, h3, h4⟩
  · rintro (⟨a', b', h1, h2, h3, h4⟩ | ⟨b', h1, h2, h3⟩)
    · exact ⟨a', b', by omega, h2, h3, h4⟩
    · exact ⟨i, b', by omega, h1, h2, h3⟩
theorem pcA_zero : ¬ pcA l 0 c := fun ⟨_, _, h, _⟩ => absurd h (Nat.not_lt_zero _)
end
/-- What may turn: the map fm. -/
def NF (fm km : Nat) (k : Nat) (o : Obj) : Prop := k = fm ∧ k ≠ km ∧ ∃ es ck, o = .map es ck
theorem nf_cells {fm km k : Nat} {c : Array Value} {t : TypeId} : ¬ NF fm km k (.cells c t) := fun ⟨_, _, es, ck, e⟩ => by cases e
theorem stores_any (w : World) (op : Int) : Calls Tryz.prog 44 #[.int .i64 op] w fun e w' => e = .returned (.bool (stOp op)) ∧ w' = w := by
  unfold stOp
  by_cases h9 : op = 9
  · subst h9
    go_enter Tryz.func44, Tryz.ntmps44
    go_wp2
    go_ret
    exact ⟨rfl, rfl⟩
  · by_cases h11 : op = 11
    · subst h11
      go_enter Tryz.func44, Tryz.ntmps44
      go_wp2
      go_ret
      exact ⟨rfl, rfl⟩
    · rw [decide_eq_false h9, decide_eq_false h11]
      have h9' : (op == 9) = false := by simpa using h9
      have h11' : (op == 11) = false := by simpa using h11
      go_enter Tryz.func44, Tryz.ntmps44
      go_wp2
      go_ret
      exact ⟨rfl, rfl⟩
theorem SetC.fr {fm k : Nat} {w w' : World} {P : List Int → Prop} (h : SetC w fm k P) (hb : w'.heap[fm]? = w.heap[fm]?) : SetC w' fm k P := by
  obtain ⟨n, D, h1, h2, h3⟩ := h.own
  exact ⟨⟨n, D, h1, ownsMap_kept h2 hb, h3⟩, h.five, h.wf⟩
theorem SetC.more {fm k k' : Nat} {w : World} {P Q : List Int → Prop} (h : SetC w fm k P) (hk : k ≤ k') (hP : ∀ c, P c ↔ Q c) : SetC w fm k' Q := by
  obtain ⟨n, D, h1, h2, h3⟩ := h.own
  refine ⟨⟨n, D, by omega, h2, fun l => (h3 l).trans ⟨fun ⟨c, h4, h5⟩ => ⟨c, (hP c).mp h4, h5⟩, fun ⟨c, h4, h5⟩ => ⟨c, (hP c).mpr h4, h5⟩⟩⟩, fun c hc => h.five c ((hP c).mpr hc), fun c hc => h.wf c ((hP c).mpr hc)⟩
/-- One clash more. -/
theorem SetC.put {B C fm km K0 g len c ab q j : Nat} {w V w4 : World} {P : List Int → Prop} {l : List (List Int)} {t p op x t' p' : Int} {nk : Nat} {D : DataW Unit} (h : SetC V fm (K0 + q) (fun y => P y ∨ pcB l j (j + 1 + q) y)) (hf : Fr B (NF fm km) w V) (hu : IsU V C (some ⟨g, 0, none⟩) len c l) (hbx : V.heap[ab]? = some (.cells #[.int .i64 t, .int .i64 p, .int .i64 op, .int .i64 x] 94)) (hnk : nk ≤ K0 + q) (hown : V.ownsMap Tryz.prog 97 (unitElem (H := Unit)) fm nk D) (hhas : ∀ l', Maps.has D l' = true ↔ ∃ c, (P c ∨ pcB l j (j + 1 + q) c) ∧ clL c = l')
    (hm4 : w4.ownsMap Tryz.prog 97 (unitElem (H := Unit)) fm (nk + 1) (D.put (clL [t, p, t', p', x]) (.agg []))) (hg4 : V.grownBy w4 (some fm)) (hwf : (Lit.int .i64 t).wf = true ∧ (Lit.int .i64 p).wf = true ∧ (Lit.int .i64 t').wf = true ∧ (Lit.int .i64 p').wf = true ∧ (Lit.int .i64 x).wf = true) (hB : B ≤ fm) (hkm : fm ≠ km) (hcl : cl2 (l.getD j []) (l.getD (j + 1 + q) []) = some [t, p, t', p', x]) :
    SetC w4 fm (K0 + (q + 1)) (fun y => P y ∨ pcB l j (j + 1 + (q + 1)) y) ∧ Fr B (NF fm km) w w4 ∧ IsU w4 C (some ⟨g, 0, none⟩) len c l ∧ w4.heap[ab]? = some (.cells #[.int .i64 t, .int .i64 p, .int .i64 op, .int .i64 x] 94) := by
  have hmo : ∃ es ck, V.heap[fm]? = some (.map es ck) := by
    obtain ⟨es, ck, hb, _⟩ := hown
    exact ⟨es, ck, hb⟩
  have f4 : Fr B (NF fm km) V w4 := by
    obtain ⟨es, ck, hm⟩ := hmo
    have hz : B ≤ V.heap.size := by have := box_lt hm; omega
    refine ⟨(Below.refl _ _).grown hg4 hz (fun k hk => by injection hk with hk; omega), fun k o h1 h2 => ?_⟩
    rw [hg4.block k (box_lt h1) (fun e => h2 ?_)]
    · exact h1
    · injection e with e
      exact ⟨e, by omega, es, ck, by rw [e, hm] at h1; exact (Option.some.inj h1).symm⟩
  have hP : ∀ y, (P y ∨ pcB l j (j + 1 + (q + 1)) y) ↔ (P y ∨ pcB l j (j + 1 + q) y) ∨ y = [t, p, t', p', x] := fun y => by
    rw [show j + 1 + (q + 1) = j + 1 + q + 1 by omega, pcB_next (by omega), hcl]
    simp only [Option.some.injEq]
    rw [or_assoc]
    exact or_congr Iff.rfl (or_congr Iff.rfl ⟨fun e => e.symm, fun e => e.symm⟩)
  refine ⟨⟨⟨nk + 1, _, by omega, hm4, fun l' => ?_⟩, fun y hy => ?_, fun y hy => ?_⟩, hf.trans f4, ⟨hu.is, hu.four, Fr.own hu.own f4 fun _ _ => nf_cells⟩, f4.kept _ _ hbx nf_cells⟩
  · by_cases e : l' = clL [t, p, t', p', x]
    · subst e
      rw [Maps.has_put_same hown.isMap (clKeyed.key (clKey hwf.1 hwf.2.1 hwf.2.2.1 hwf.2.2.2.1 hwf.2.2.2.2))]
      exact ⟨fun _ => ⟨_, (hP _).mpr (Or.inr rfl), rfl⟩, fun _ => rfl⟩
    · rw [Maps.has_put_other e, hhas l']
      constructor
      · rintro ⟨c, h1, h2⟩
        exact ⟨c, (hP c).mpr (Or.inl h1), h2⟩
      · rintro ⟨c, h1, h2⟩
        rcases (hP c).mp h1 with h3 | rfl
        · exact ⟨c, h3, h2⟩
        · exact absurd h2.symm e
  · rcases (hP y).mp hy with h3 | rfl
    · exact h.five y h3
    · rfl
  · rcases (hP y).mp hy with h3 | rfl
    · exact h.wf y h3
    · intro z hz
      simp only [List.mem_cons, List.not_mem_nil, or_false] at hz
      rcases hz with rfl | rfl | rfl | rfl | rfl
      · exact hwf.1
      · exact hwf.2.1
      · exact hwf.2.2.1
      · exact hwf.2.2.2.1
      · exact hwf.2.2.2.2
set_option maxRecDepth 100000 in
set_option maxHeartbeats 6400000 in
theorem addCl_any (w : World) (B C fm km k : Nat) (P : List Int → Prop) (a : Option Addr) (len c : Nat) (l : List (List Int)) (hS : SetC w fm k P) (hU : IsU w C a len c l) (hl : l.length ≤ 4) (hwf : ∀ r, r ∈ l → ∀ x, x ∈ r → (Lit.int .i64 x).wf = true) (hB : B ≤ fm) (hBw : B ≤ w.heap.size) (hk : k ≤ 1000000) (hkm : fm ≠ km) :
    Calls Tryz.prog 17 #[.map (some fm), .slice a len c] w fun e w' => e = .returned (.tuple #[]) ∧ SetC w' fm (k + 16) (fun x => P x ∨ pcA l l.length x) ∧ Fr B (NF fm km) w w' := by
  have hlen := hU.is
  have hn4 : len ≤ 4 := by omega
  have HL : Hid (l.length = len ∧ (∀ r, r ∈ l → ∀ x, x ∈ r → (Lit.int .i64 x).wf = true) ∧ B ≤ fm ∧ B ≤ w.heap.size ∧ k ≤ 1000000 ∧ fm ≠ km) := ⟨hlen, hwf, hB, hBw, hk, hkm⟩
  have HROW : Hid (∀ W, IsU W C a len c l → ∀ j, j < len → ∃ (g : Nat) (t p op x : Int), a = some ⟨g, 0, none⟩ ∧ len ≤ c ∧ l.getD j [] = [t, p, op, x] ∧ W.cell? ⟨g, j * 4, none⟩ = some (.int .i64 t) ∧ W.cell? ⟨g, j * 4 + 1, none⟩ = some (.int .i64 p) ∧ W.cell? ⟨g, j * 4 + 2, none⟩ = some (.int .i64 op) ∧ W.cell? ⟨g, j * 4 + 3, none⟩ = some (.int .i64 x)) := fun W h j hj => by
    obtain ⟨g, cap, h1, h2, _, _⟩ := fam_block h.own (by omega)
    simp only [Value.slice.injEq] at h1
    have hcap : len ≤ c := by
      rcases h.own.2 with ⟨h0, _⟩ | ⟨g', cap', cur, hv, _, _, h3, _⟩
      · rw [h0] at h2; simp [Value.ownBlock] at h2
      · simp only [Value.slice.injEq] at hv
        rw [hv.2.2]; exact h3
    have hm : l.getD j [] ∈ l := by
      rw [List.getD_eq_getElem?_getD, List.getElem?_eq_getElem (by omega)]; exact List.getElem_mem _
    have k4 : ∀ q, q < 4 → W.cell? ⟨g, j * 4 + q, none⟩ = some (.int .i64 ((l.getD j []).getD q 0)) := fun q hq => fam_cell h.own h2 (flatN_at h.four (by omega) hq)
    have h5 := h.four _ hm
    obtain ⟨t, p, op, x, e⟩ : ∃ t p op x, l.getD j [] = [t, p, op, x] := by
      match l.getD j [], h5 with
      | [t, p, op, x], _ => exact ⟨t, p, op, x, rfl⟩
    rw [e] at k4
    exact ⟨g, t, p, op, x, h1.1, hcap, e, k4 0 (by omega), k4 1 (by omega), k4 2 (by omega), k4 3 (by omega)⟩
  have HFU : Hid (∀ W W', IsU W C a len c l → Fr B (NF fm km) W W' → IsU W' C a len c l) := fun W W' h hf => ⟨h.is, h.four, Fr.own h.own hf fun _ _ => nf_cells⟩
  have HS0 : Hid (SetC w fm k P ∧ IsU w C a len c l) := ⟨hS, hU⟩
  clear hS hU hwf hB hBw hk hkm hl hlen
  go_enter Tryz.func17, Tryz.ntmps17
  go_wp2_with fail
  go_loopw [10] (fun i wr => ∃ j : Nat, j ≤ len ∧ i = .int .i64 j ∧ Hid (SetC wr fm (k + 4 * j) (fun x => P x ∨ pcA l j x) ∧ Fr B (NF fm km) w wr ∧ IsU wr C a len c l)) (fun i _ => len - (intOf i).toNat)
  case atStart => exact ⟨0, Nat.zero_le _, rfl, ⟨HS0.out.1.more (by omega) (fun c => ⟨Or.inl, fun h => h.elim id fun h => absurd h pcA_zero⟩), Fr.refl _ _ _, HS0.out.2⟩⟩
  case round =>
    obtain ⟨j, hj, rfl, HI⟩ := hrel
    by_cases hlt : j < len
    · obtain ⟨g, t, p, op, x, rfl, hcap, hrow, c0, c1, c2, c3⟩ := HROW.out _ HI.out.2.2 j hlt
      have c0u := cell_up c0
      have c1u := cell_up c1
      have c2u := cell_up c2
      have c3u := cell_up c3
      obtain ⟨ab, hab⟩ : ∃ z, wr.heap.size = z := ⟨_, rfl⟩
      obtain ⟨V, hV⟩ : ∃ V, wr.alloc (.cells #[.int .i64 t, .int .i64 p, .int .i64 op, .int .i64 x] 94) = V := ⟨_, rfl⟩
      have hbV : Below wr.heap.size wr V := by rw [← hV]; exact (Below.refl _ _).alloc (Nat.le_refl _) _
      have hfV : Fr B (NF fm km) wr V := Fr.of_below (Nat.le_trans HL.out.2.2.2.1 HI.out.2.1.below.size) hbV
      have hbox : V.heap[ab]? = some (.cells #[.int .i64 t, .int .i64 p, .int .i64 op, .int .i64 x] 94) := by rw [← hV, ← hab]; exact heap_alloc_new _ _
      have hmap : V.heap[fm]? = wr.heap[fm]? := by
        obtain ⟨n, D, _, ⟨es, ck, hh, _⟩, _⟩ := HI.out.1.own
        exact hbV.block _ (box_lt hh)
      have HJ : Hid (SetC V fm (k + 4 * j) (fun y => P y ∨ pcA l j y) ∧ Fr B (NF fm km) w V ∧ IsU V C (some ⟨g, 0, none⟩) len c l ∧ V.heap[ab]? = some (.cells #[.int .i64 t, .int .i64 p, .int .i64 op, .int .i64 x] 94)) := ⟨HI.out.1.fr hmap, HI.out.2.1.trans hfV, HFU.out _ _ HI.out.2.2 hfV, hbox⟩
      have HV := Hid.out (p := Hid _) hV
      have HAB := Hid.out (p := Hid _) hab
      have HRW := Hid.out (p := Hid _) hrow
      clear hbV hfV hbox hmap hV hrow
      have hcj : c = j + 1 ∨ j + 1 < c := by omega
      rcases hcj with rfl | hcj
      · go_wp2_with fail
        rw [HV.out]
        clear hab HV c0 c1 c2 c3 c0u c1u c2u c3u HI
        have HMM : Hid (len - (j + 1) = 0) := by show _ = _; omega
        go_loopw [20] (fun i wr2 => ∃ q : Nat, q ≤ 0 ∧ i = .int .i64 q ∧ Hid (SetC wr2 fm (k + 4 * j + q) (fun y => (P y ∨ pcA l j y) ∨ pcB l j (j + 1 + q) y) ∧ Fr B (NF fm km) w wr2 ∧ IsU wr2 C (some ⟨g, 0, none⟩) len (j + 1) l ∧ wr2.heap[ab]? = some (.cells #[.int .i64 t, .int .i64 p, .int .i64 op, .int .i64 x] 94))) (fun i _ => 0 - (intOf i).toNat)
        case atStart => exact ⟨0, Nat.zero_le _, rfl, ⟨HJ.out.1.more (by omega) (fun y => ⟨Or.inl, fun h => h.elim id fun h => absurd h pcB_first⟩), HJ.out.2.1, HJ.out.2.2.1, HJ.out.2.2.2⟩⟩
        case round =>
          obtain ⟨q, hq, rfl, HK⟩ := hrel
          obtain rfl : q = 0 := by omega
          have HR : Hid (SetC wr fm (k + 4 * (j + 1)) (fun y => P y ∨ pcA l (j + 1) y) ∧ Fr B (NF fm km) w wr ∧ IsU wr C (some ⟨g, 0, none⟩) len (j + 1) l) := by
            refine ⟨HK.out.1.more (by have := HMM.out; omega) (fun y => ?_), HK.out.2.1, HK.out.2.2.1⟩
            have e : j + 1 + 0 = l.length := by have := HMM.out; have := HL.out.1; omega
            rw [pcA_next, e]
            exact or_assoc
          clear HK HJ
          go_wp2
          go_roundw
          case rel => exact ⟨j + 1, by omega, by go_num, HR⟩
          case measure => simp [intOf]; omega
      · go_wp2_with fail
        rw [HV.out]
        clear hab HV c0 c1 c2 c3 c0u c1u c2u c3u HI
        obtain ⟨M, hM⟩ : ∃ M, len - (j + 1) = M := ⟨_, rfl⟩
        have HMM := Hid.out (p := Hid _) hM
        rw [hM]
        clear hM
        go_loopw [20] (fun i wr2 => ∃ q : Nat, q ≤ M ∧ i = .int .i64 q ∧ Hid (SetC wr2 fm (k + 4 * j + q) (fun y => (P y ∨ pcA l j y) ∨ pcB l j (j + 1 + q) y) ∧ Fr B (NF fm km) w wr2 ∧ IsU wr2 C (some ⟨g, 0, none⟩) len c l ∧ wr2.heap[ab]? = some (.cells #[.int .i64 t, .int .i64 p, .int .i64 op, .int .i64 x] 94))) (fun i _ => M - (intOf i).toNat)
        case atStart => exact ⟨0, Nat.zero_le _, rfl, ⟨HJ.out.1.more (by omega) (fun y => ⟨Or.inl, fun h => h.elim id fun h => absurd h pcB_first⟩), HJ.out.2.1, HJ.out.2.2.1, HJ.out.2.2.2⟩⟩
        case round =>
          obtain ⟨q, hq, rfl, HK⟩ := hrel
          by_cases hqlt : q < M
          · have hjq : j + 1 + q < len := by have := HMM.out; omega
            obtain ⟨g', t', p', op', x', eg, _, hrow', d0, d1, d2, d3⟩ := HROW.out _ HK.out.2.2.1 (j + 1 + q) hjq
            simp only [Option.some.injEq, Addr.mk.injEq, and_true] at eg
            subst eg
            rw [show (j + 1 + q) * 4 = (j + 1) * 4 + q * 4 by omega] at d0 d1 d2 d3
            have d0u := cell_up d0
            have d1u := cell_up d1
            have d2u := cell_up d2
            have d3u := cell_up d3
            have a0 : ∀ o, (wr.alloc o).cell? ⟨ab, 0, none⟩ = some (.int .i64 t) := fun o => box_cell (box_later HK.out.2.2.2 o) rfl
            have a1 : ∀ o, (wr.alloc o).cell? ⟨ab, 1, none⟩ = some (.int .i64 p) := fun o => box_cell (box_later HK.out.2.2.2 o) rfl
            have a2 : ∀ o, (wr.alloc o).cell? ⟨ab, 2, none⟩ = some (.int .i64 op) := fun o => box_cell (box_later HK.out.2.2.2 o) rfl
            have a3 : ∀ o, (wr.alloc o).cell? ⟨ab, 3, none⟩ = some (.int .i64 x) := fun o => box_cell (box_later HK.out.2.2.2 o) rfl
            have hbW : ∀ o, Below wr.heap.size wr (wr.alloc o) := fun o => (Below.refl _ _).alloc (Nat.le_refl _) _
            have hBz : B ≤ wr.heap.size := Nat.le_trans HL.out.2.2.2.1 HK.out.2.1.below.size
            have HG : Hid (∀ o, SetC (wr.alloc o) fm (k + 4 * j + q) (fun y => (P y ∨ pcA l j y) ∨ pcB l j (j + 1 + q) y) ∧ Fr B (NF fm km) w (wr.alloc o) ∧ IsU (wr.alloc o) C (some ⟨g, 0, none⟩) len c l ∧ (wr.alloc o).heap[ab]? = some (.cells #[.int .i64 t, .int .i64 p, .int .i64 op, .int .i64 x] 94)) := fun o => by
              have hf : Fr B (NF fm km) wr (wr.alloc o) := Fr.of_below hBz (hbW o)
              refine ⟨HK.out.1.fr ?_, HK.out.2.1.trans hf, HFU.out _ _ HK.out.2.2.1 hf, box_later HK.out.2.2.2 o⟩
              obtain ⟨n, D, _, ⟨es, ck, hh, _⟩, _⟩ := HK.out.1.own
              exact (hbW o).block _ (box_lt hh)
            have HCL : Hid (cl2 (l.getD j []) (l.getD (j + 1 + q) []) = if x = x' ∧ (stOp op || stOp op') = true then some [t, p, t', p', x] else none) := by
              show _ = _
              rw [HRW.out, hrow']
              rfl
            have HNO : Hid (cl2 (l.getD j []) (l.getD (j + 1 + q) []) = none → ∀ o, SetC (wr.alloc o) fm (k + 4 * j + (q + 1)) (fun y => (P y ∨ pcA l j y) ∨ pcB l j (j + 1 + (q + 1)) y)) := fun h o => (HG.out o).1.more (by omega) (fun y => by
              rw [show j + 1 + (q + 1) = j + 1 + q + 1 by omega, pcB_next (by omega), h]
              simp)
            have HWF : Hid ((Lit.int .i64 t).wf = true ∧ (Lit.int .i64 p).wf = true ∧ (Lit.int .i64 t').wf = true ∧ (Lit.int .i64 p').wf = true ∧ (Lit.int .i64 x).wf = true) := by
              have m1 : l.getD j [] ∈ l := by
                rw [List.getD_eq_getElem?_getD, List.getElem?_eq_getElem (by have := HL.out.1; omega)]; exact List.getElem_mem _
              have m2 : l.getD (j + 1 + q) [] ∈ l := by
                rw [List.getD_eq_getElem?_getD, List.getElem?_eq_getElem (by have := HL.out.1; omega)]; exact List.getElem_mem _
              have f1 := HL.out.2.1 _ m1
              have f2 := HL.out.2.1 _ m2
              rw [HRW.out] at f1
              rw [hrow'] at f2
              exact ⟨f1 t (by simp), f1 p (by simp), f2 t' (by simp), f2 p' (by simp), f1 x (by simp)⟩
            clear hbW hrow'
            by_cases hxx : x = x'
            rotate_left
            · have hxx' : (x == x') = false := by simpa using hxx
              have HR := Hid.out (p := Hid _) (HNO.out (by rw [HCL.out, if_neg (fun h => hxx h.1)]))
              clear hxx HNO HCL HK HJ
              go_wp2
              go_roundw
              case rel => exact ⟨q + 1, by omega, by go_num, ⟨HR.out _, (HG.out _).2⟩⟩
              case measure => simp [intOf]; omega
            · subst hxx
              obtain ⟨V2, hV2⟩ : ∃ V, wr.alloc (.cells #[.int .i64 t', .int .i64 p', .int .i64 op', .int .i64 x] 94) = V := ⟨_, rfl⟩
              have HV2 := Hid.out (p := Hid _) hV2
              have b0 : V2.cell? ⟨wr.heap.size, 0, none⟩ = some (.int .i64 t') := box_cell (by rw [← hV2]; exact heap_alloc_new _ _) rfl
              have b1 : V2.cell? ⟨wr.heap.size, 1, none⟩ = some (.int .i64 p') := box_cell (by rw [← hV2]; exact heap_alloc_new _ _) rfl
              have b2 : V2.cell? ⟨wr.heap.size, 2, none⟩ = some (.int .i64 op') := box_cell (by rw [← hV2]; exact heap_alloc_new _ _) rfl
              have e0 : V2.cell? ⟨ab, 0, none⟩ = some (.int .i64 t) := by rw [← hV2]; exact a0 _
              have e1 : V2.cell? ⟨ab, 1, none⟩ = some (.int .i64 p) := by rw [← hV2]; exact a1 _
              have e3 : V2.cell? ⟨ab, 3, none⟩ = some (.int .i64 x) := by rw [← hV2]; exact a3 _
              have HGV := Hid.out (p := Hid _) (HG.out (.cells #[.int .i64 t', .int .i64 p', .int .i64 op', .int .i64 x] 94))
              rw [hV2] at HGV
              have HNV : Hid ((stOp op || stOp op') = false → SetC V2 fm (k + 4 * j + (q + 1)) (fun y => (P y ∨ pcA l j y) ∨ pcB l j (j + 1 + (q + 1)) y)) := fun h => by
                rw [← hV2]
                exact HNO.out (by rw [HCL.out, if_neg (fun e => by rw [h] at e; cases e.2)]) _
              have HYV : Hid ((stOp op || stOp op') = true → cl2 (l.getD j []) (l.getD (j + 1 + q) []) = some [t, p, t', p', x]) := fun h => by rw [HCL.out, if_pos ⟨rfl, h⟩]
              obtain ⟨s1, hs1⟩ : ∃ s, stOp op = s := ⟨_, rfl⟩
              obtain ⟨s2, hs2⟩ : ∃ s, stOp op' = s := ⟨_, rfl⟩
              rw [hs1, hs2] at HNV HYV
              have HST1 : Hid (∀ W, Calls Tryz.prog 44 #[.int .i64 op] W fun e w' => e = .returned (.bool s1) ∧ w' = W) := fun W => by rw [← hs1]; exact stores_any W op
              have HST2 : Hid (∀ W, Calls Tryz.prog 44 #[.int .i64 op'] W fun e w' => e = .returned (.bool s2) ∧ w' = W) := fun W => by rw [← hs2]; exact stores_any W op'
              clear hV2 hs1 hs2 HNO HCL HG HJ HK hBz
              go_wp2_with fail
              rw [HV2.out]
              refine Calls.mono (HST1.out _) ?_
              rintro e w2 ⟨rfl, rfl⟩
              clear HV2 HST1 a0 a1 a2 a3 d0 d1 d2 d3 d0u d1u d2u d3u
              cases s1 with
              | true =>
                obtain ⟨nk, D, hnk, hown, hhas⟩ := HGV.out.1.own
                have HM := Hid.out (p := Hid _) hown
                have hkey := clKey HWF.out.1 HWF.out.2.1 HWF.out.2.2.1 HWF.out.2.2.2.1 HWF.out.2.2.2.2
                have hnm : nk < maxLen := by have := HL.out.2.2.2.2.1; unfold maxLen; omega
                have HHS := Hid.out (p := Hid _) (And.intro hnk hhas)
                clear hown hhas hnk
                go_wp2_with (at_mapUpdate; refine wpList_mapUpdate_own _ rfl _ _ _ 53 rfl 97 95 clKeyed Tryz.underlying53 _ fm nk D rfl HM.out hnm _ _ _ rfl rfl hkey _ [] unitElem_mk ?_; intro w4 hm4 hg4; refine Hid.out ?_)
                refine Lib.hid ?_
                have HR := Hid.out (p := Hid _) (SetC.put (km := km) HGV.out.1 HGV.out.2.1 HGV.out.2.2.1 HGV.out.2.2.2 HHS.out.1 HM.out HHS.out.2 hm4 hg4 HWF.out HL.out.2.2.1 HL.out.2.2.2.2.2 (show cl2 (l.getD j []) (l.getD (j + 1 + q) []) = some [t, p, t', p', x] from HYV.out rfl))
                clear HNV HYV hm4 hg4 HM HHS hkey HWF b0 b1 b2 e0 e1 e3 HGV
                go_wp2
                go_roundw
                case rel => exact ⟨q + 1, by omega, by go_num, HR⟩
                case measure => simp [intOf]; omega
              | false =>
                go_wp2_with fail
                refine Calls.mono (HST2.out _) ?_
                rintro e w3 ⟨rfl, rfl⟩
                cases s2 with
                | false =>
                  have HR := Hid.out (p := Hid _) (HNV.out rfl)
                  clear HNV HYV HST2
                  go_wp2
                  go_roundw
                  case rel => exact ⟨q + 1, by omega, by go_num, ⟨HR.out, HGV.out.2⟩⟩
                  case measure => simp [intOf]; omega
                | true =>
                  obtain ⟨nk, D, hnk, hown, hhas⟩ := HGV.out.1.own
                  have HM := Hid.out (p := Hid _) hown
                  have hkey := clKey HWF.out.1 HWF.out.2.1 HWF.out.2.2.1 HWF.out.2.2.2.1 HWF.out.2.2.2.2
                  have hnm : nk < maxLen := by have := HL.out.2.2.2.2.1; unfold maxLen; omega
                  have HHS := Hid.out (p := Hid _) (And.intro hnk hhas)
                  clear hown hhas hnk
                  go_wp2_with (at_mapUpdate; refine wpList_mapUpdate_own _ rfl _ _ _ 53 rfl 97 95 clKeyed Tryz.underlying53 _ fm nk D rfl HM.out hnm _ _ _ rfl rfl hkey _ [] unitElem_mk ?_; intro w4 hm4 hg4; refine Hid.out ?_)
                  refine Lib.hid ?_
                  have HR := Hid.out (p := Hid _) (SetC.put (km := km) HGV.out.1 HGV.out.2.1 HGV.out.2.2.1 HGV.out.2.2.2 HHS.out.1 HM.out HHS.out.2 hm4 hg4 HWF.out HL.out.2.2.1 HL.out.2.2.2.2.2 (show cl2 (l.getD j []) (l.getD (j + 1 + q) []) = some [t, p, t', p', x] from HYV.out rfl))
                  clear HNV HYV hm4 hg4 HM HHS hkey HWF b0 b1 b2 e0 e1 e3 HGV
                  go_wp2
                  go_roundw
                  case rel => exact ⟨q + 1, by omega, by go_num, HR⟩
                  case measure => simp [intOf]; omega
          · have HR : Hid (SetC wr fm (k + 4 * (j + 1)) (fun y => P y ∨ pcA l (j + 1) y) ∧ Fr B (NF fm km) w wr ∧ IsU wr C (some ⟨g, 0, none⟩) len c l) := by
              refine ⟨HK.out.1.more (by have := HMM.out; omega) (fun y => ?_), HK.out.2.1, HK.out.2.2.1⟩
              have e : j + 1 + q = l.length := by have := HMM.out; have := HL.out.1; omega
              rw [pcA_next, e]
              exact or_assoc
            clear HK HJ
            go_wp2
            go_roundw
            case rel => exact ⟨j + 1, by omega, by go_num, HR⟩
            case measure => simp [intOf]; omega
    · obtain rfl : j = len := by omega
      have HR : Hid (SetC wr fm (k + 16) (fun x => P x ∨ pcA l l.length x) ∧ Fr B (NF fm km) w wr) := ⟨HI.out.1.more (by omega) (fun c => by rw [HL.out.1]), HI.out.2.1⟩
      go_wp2
      go_end0
      exact ⟨rfl, HR.out.1, HR.out.2⟩

end Go.Proofs.YtgofbkgfonlceacGreatDoor
