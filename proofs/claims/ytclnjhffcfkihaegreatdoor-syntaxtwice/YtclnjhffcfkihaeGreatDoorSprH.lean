/-
  The program's printer: blocks.
-/
import Derived.Test.YtclnjhffcfkihaeGreatDoorSprF
namespace Go.Proofs.YtclnjhffcfkihaeGreatDoor
open Go.RowKit

theorem Px.tab {w0 w : World} {a : Option Addr} {c : Nat} {rows : List Row} {P : Nat} {l : List UInt8} {d : Nat} (h : Px w0 a c rows w P l d) (e : Nat) (v : Int) (hv : v = (e : Int)) : Pz w0 a c rows w P l e (w.setCell ⟨P, 3, none⟩ (.int .i64 v)) := by
  subst hv
  obtain ⟨p, v, hp, hU⟩ := h.pr
  have hb := (Below.refl w0.heap.size w).setCell (p := ⟨P, 3, none⟩) hU.le (.int .i64 (e : Int))
  refine ⟨⟨⟨p, v, hp, ⟨hU.le, heap_set4 hU.box, fam_keeps hU.own fun g hg => Below.heap_setCell _ _ _ _ (fun q => hU.far (by rw [hg, q])), hU.far⟩⟩, h.low.trans hb⟩, hb, TypP.box hU.box _⟩
theorem nds_take : ∀ {ks : List Nd} {j : Nat} {y : Nd}, ks[j]? = some y → ndsSize (ks.take j) + ndSize y ≤ ndsSize ks
  | [], _, _, h => by simp at h
  | x :: r, 0, y, h => by
    simp only [List.getElem?_cons_zero, Option.some.injEq] at h
    subst h
    rw [List.take_zero, ndsSize, ndsSize]
    omega
  | x :: r, j + 1, y, h => by
    simp only [List.getElem?_cons_succ] at h
    have := nds_take h
    rw [List.take_succ_cons, ndsSize, ndsSize]
    omega
section
variable {rows : List Row}
set_option maxRecDepth 100000 in
set_option maxHeartbeats 3200000 in
theorem gblock_any {d : Nat} {p : Int} {ks : List Nd} (hks : ∀ y, y ∈ ks → PgS rows (d + 1) y) (hls : ∀ y, y ∈ ks → (pcsB (pcsN (d + 1) y)).length ≤ 7000 * ndSize y) (hd : d ≤ 2000) (hkl : ks.length ≤ 100000) : PgK rows d (.mk 5 0 p [] ks) := by
  intro w0 w a c i P l hE hr ht hp hlen
  obtain ⟨hi, is, g, ka, kc, rfl, hnd, hts⟩ := ht.node hr
  have hil := ts_len hts
  have hi' : (i : Int) < (rows.length : Int) := by omega
  obtain ⟨R, hR⟩ : ∃ R, R = pcsB (pcsN d (.mk 5 0 p [] ks)) := ⟨_, rfl⟩
  rw [← hR]
  rw [pcsN_b (d := d) (x := .mk 5 0 p [] ks) rfl, bodP, pcsNs_is] at hR
  have HR : Hid (R = [123, 10] ++ pcsB ((ks.map (pcsN (d + 1))).flatten) ++ tabB d ++ [125]) := by
    show _ = _
    rw [hR]
    simp [pcsB, pcB, pcsB_app, tab_is]
  obtain ⟨m, hm⟩ : ∃ m, m = is.length := ⟨_, rfl⟩
  have HK : Hid (∀ (j : Nat), j < m → ∃ (b o : Nat) (i1 : Nat) (y : Nd) (T : List UInt8) (k1 n1 p1 : Int) (t1 : List UInt8) (ka1 : Option Addr) (kn1 kc1 : Nat), ka = some ⟨b, o, none⟩ ∧ (i1 : Int) < (rows.length : Int) ∧ ks[j]? = some y ∧ pcsB (pcsN (d + 1) y) = tabB (d + 1) ++ T ++ [10] ∧
      (∀ W, Below w0.heap.size w0 W → W.cell? ⟨b, o + j, none⟩ = some (.int .i64 (i1 : Int)) ∧ W.cell? ⟨g, i1 * 5, none⟩ = some (.int .i64 k1) ∧ W.cell? ⟨g, i1 * 5 + 1, none⟩ = some (.int .i64 n1) ∧ W.cell? ⟨g, i1 * 5 + 2, none⟩ = some (.int .i64 p1) ∧ W.cell? ⟨g, i1 * 5 + 3, none⟩ = some (.string ⟨⟨t1⟩⟩) ∧ W.cell? ⟨g, i1 * 5 + 4, none⟩ = some (.slice ka1 kn1 kc1)) ∧
      ∀ (W : World) (l : List UInt8), Px w0 (some ⟨g, 0, none⟩) c rows W P l (d + 1) → l.length + 7000 * ndSize y ≤ 9000000 → Calls Tryz.prog 72 #[.pointer (some ⟨P, 0, none⟩), .agg #[.int .i64 k1, .int .i64 n1, .int .i64 p1, .string ⟨⟨t1⟩⟩, .slice ka1 kn1 kc1]] W fun e w' => e = .returned (.tuple #[]) ∧ Pz w0 (some ⟨g, 0, none⟩) c rows W P (l ++ T) (d + 1) w') := fun j hj => by
    obtain ⟨y, hy⟩ : ∃ y, ks[j]? = some y := ⟨_, List.getElem?_eq_getElem (by omega)⟩
    obtain ⟨i1, h1, h2⟩ := ts_get hts hy
    obtain ⟨b, o, e, hc, _⟩ := kid_cell hnd.kin j _ h1
    have hs := hks y (List.mem_of_getElem? hy)
    match y, hy, h2, hs with
    | .mk k1 n1 p1 t1 ks1, hy, h2, hs =>
      obtain ⟨hi1, is1, g1, ka1, kc1, hg, hn1, hts1⟩ := h2.node hr
      simp only [Option.some.injEq, Addr.mk.injEq, and_true] at hg
      obtain rfl := hg
      obtain ⟨T, hT, hS⟩ := hs
      refine ⟨b, o, i1, _, T, k1, n1, p1, t1, ka1, is1.length, kc1, e, by omega, hy, hT, fun W hW => ?_, fun W l hW hl => hS w0 W _ c P l ka1 kc1 is1 hE hr hts1 hn1.kin hW hl⟩
      have hn := hn1.below hW
      exact ⟨(hW.cell (lt_of_cell hc)).trans hc, hn.k, hn.n, hn.p, hn.t, hn.ks⟩
  have HN : Hid (∀ W, Below w0.heap.size w0 W → W.cell? ⟨g, i * 5 + 4, none⟩ = some (.slice ka m kc)) := fun W hW => by
    have := (hnd.below hW).ks
    rw [hm]
    exact this
  have HS : Hid (∀ j (y : Nd), ks[j]? = some y → (pcsB ((ks.map (pcsN (d + 1))).take j).flatten).length + 7000 * ndSize y + 7000 ≤ 7000 * ndSize (.mk 5 0 p [] ks)) := fun j y hy => by
    have h1 := nds_take hy
    have h2 := len_flat (d := d + 1) (ks.take j) fun z hz => hls z (List.mem_of_mem_take hz)
    rw [List.map_take] at h2
    rw [ndSize]
    omega
  have HF : Hid ((pcsB ((ks.map (pcsN (d + 1))).take m).flatten).length + 7000 ≤ 7000 * ndSize (.mk 5 0 p [] ks)) := by
    show _ ≤ _
    have h2 := len_flat (d := d + 1) ks fun z hz => hls z hz
    rw [show m = (ks.map (pcsN (d + 1))).length by rw [List.length_map]; omega, List.take_length, ndSize]
    omega
  have HM : Hid (m = ks.length) := by show _ = _; omega
  have HP := Hid.out (p := Hid _) hp
  have HL := Hid.out (p := Hid _) hlen
  have hl0 : l.length + 10 ≤ 10000000 := by omega
  have hml : m ≤ 100000 := by omega
  clear hE hr ht hp hnd hts hks hls hlen hR hm hil
  go_enter Tryz.func42, Tryz.ntmps42
  go_wp2_with fail
  refine Calls.mono (put1 HP.out.pr w.heap.size rfl ⟨#[123, 10]⟩ (by show _ + 2 ≤ _; omega)) ?_
  rintro e w1 ⟨rfl, hq⟩
  have hz1 := HP.out.puq hq
  obtain ⟨c2, c3, cf, hPl, hPw⟩ := hz1.px.nodes
  have cf3 := cf 3
  have hz2 := hz1.px.tab (d + 1) ((d : Int) + 1) (by omega)
  have y4 := HN.out _ hz2.px.low
  have c22 := hz2.px.nodes.1
  have hZ2 : Pz w0 (some ⟨g, 0, none⟩) c rows w P (l ++ ([123, 10] ++ pcsB ((ks.map (pcsN (d + 1))).take 0).flatten)) (d + 1) (w1.setCell ⟨P, 3, none⟩ (.int .i64 ((d : Int) + 1))) := by
    have := hz1.trans hz2
    simpa [pcsB] using this
  have HZ2 := Hid.out (p := Hid _) hZ2
  clear hq hz1 hz2 cf hZ2
  go_wp2_with fail
  clear c2 c3 cf3 y4 c22
  go_loopw [25] (fun i wr => ∃ j : Nat, j ≤ m ∧ i = .int .i64 j ∧ Hid (Pz w0 (some ⟨g, 0, none⟩) c rows w P (l ++ ([123, 10] ++ pcsB ((ks.map (pcsN (d + 1))).take j).flatten)) (d + 1) wr)) (fun i _ => m - (intOf i).toNat)
  case atStart => exact ⟨0, Nat.zero_le _, rfl, HZ2⟩
  case round =>
    obtain ⟨j, hj, rfl, HJ⟩ := hrel
    clear HZ2
    by_cases hlt : j < m
    · obtain ⟨kb, ko, i1, y, T, k1, n1, p1, t1, ka1, kn1, kc1, rfl, hi1, hy, hT, hcs, HX⟩ := HK.out j hlt
      have y0 := (hcs _ HJ.out.px.low).1
      have hlt' : (j : Int) < (m : Int) := by omega
      have HB : Hid ((pcsB ((ks.map (pcsN (d + 1))).take j).flatten).length + 7000 * ndSize y + 7000 ≤ 7000 * ndSize (.mk 5 0 p [] ks)) := HS.out j y hy
      have HNX : Hid (pcsB ((ks.map (pcsN (d + 1))).take (j + 1)).flatten = pcsB ((ks.map (pcsN (d + 1))).take j).flatten ++ (tabB (d + 1) ++ T ++ [10])) := by
        show _ = _
        rw [List.take_add_one, List.getElem?_map, hy, ← hT]
        exact pcsB_flat _ _
      have HT : Hid (T.length ≤ 7000 * ndSize y → True) := fun _ => trivial
      have HY := Hid.out (p := Hid _) HX
      have HC := Hid.out (p := Hid _) hcs
      have hHJ : (pcsB ((ks.map (pcsN (d + 1))).take j).flatten).length + 10 ≤ 9000000 := by have := HB.out; have := HL.out; omega
      have HHJ := Hid.out (p := Hid _) hHJ
      have HTT : Hid (T.length + 10 ≤ 9000000) := by
        show _ ≤ _
        have h1 := congrArg List.length HNX.out
        have h2 : (pcsB ((ks.map (pcsN (d + 1))).take (j + 1)).flatten).length ≤ 7000 * ndSize (.mk 5 0 p [] ks) - 7000 := by
          have h3 := HF.out
          have h4 := pcsB_take ((ks.map (pcsN (d + 1))).take m) (j + 1)
          rw [List.take_take, Nat.min_eq_left (by omega)] at h4
          omega
        simp only [List.length_append, List.length_cons, List.length_nil] at h1
        have := HL.out
        omega
      have HT2 : Hid ((pcsB ((ks.map (pcsN (d + 1))).take j).flatten).length + d + T.length + 2 + 7000 ≤ 7000 * ndSize (.mk 5 0 p [] ks)) := by
        show _ ≤ _
        have h1 := congrArg List.length HNX.out
        have h3 := HF.out
        have h4 := pcsB_take ((ks.map (pcsN (d + 1))).take m) (j + 1)
        rw [List.take_take, Nat.min_eq_left (by omega)] at h4
        simp only [List.length_append, List.length_cons, List.length_nil, tab_len] at h1
        omega
      clear hcs HX hy hT hHJ HT
      go_wp2_with fail
      refine Calls.mono (indent_any9 (m := d + 1) HJ.out.px.pr (by omega) (by have := HHJ.out; have := HL.out; have := HB.out; simp only [List.length_append, List.length_cons, List.length_nil]; omega)) ?_
      rintro e w2 ⟨rfl, hq⟩
      have hz2 := HJ.out.px.puq hq
      obtain ⟨c2, -, -, hPl2, -⟩ := hz2.px.nodes
      obtain ⟨-, x0, x1, x2, x3, x4⟩ := HC.out _ hz2.px.low
      have HZ2 := Hid.out (p := Hid _) hz2
      clear hq hz2 y0
      go_wp2_with fail
      refine Calls.mono (HY.out _ _ HZ2.out.px (by have := HB.out; have := HL.out; simp only [List.length_append, List.length_cons, List.length_nil, tab_len]; omega)) ?_
      rintro e w3 ⟨rfl, hz⟩
      have HZ3 := Hid.out (p := Hid _) (HZ2.out.trans hz)
      clear hz c2 x0 x1 x2 x3 x4 hPl2
      go_wp2_with fail
      refine Calls.mono (put1 HZ3.out.px.pr w3.heap.size rfl ⟨#[10]⟩ (by have := HT2.out; have := HL.out; simp only [List.length_append, List.length_cons, List.length_nil, tab_len]; show _ + 1 ≤ _; omega)) ?_
      rintro e w4 ⟨rfl, hq⟩
      have hQ : Pz w0 (some ⟨g, 0, none⟩) c rows w P (l ++ ([123, 10] ++ pcsB ((ks.map (pcsN (d + 1))).take (j + 1)).flatten)) (d + 1) w4 := by
        have := HJ.out.trans (HZ3.out.trans (HZ3.out.px.puq hq))
        rw [HNX.out]
        simpa using this
      have HQ := Hid.out (p := Hid _) hQ
      clear hq hQ
      go_wp2_with fail
      go_roundw
      case rel => exact ⟨j + 1, by omega, by go_num, HQ⟩
      case measure => simp [intOf]; omega
    · obtain rfl : j = m := by omega
      obtain ⟨c2, c3, cf, hPl2, -⟩ := HJ.out.px.nodes
      have cf3 := cf 3
      have hc3 : ((d + 1 : Nat) : Int) = (d : Int) + 1 := by omega
      rw [hc3] at c3
      have HZ2 := Hid.out (p := Hid _) (HJ.out.trans (HJ.out.px.tab d ((d : Int) + 1 - 1) (by omega)))
      have hc4 : (d : Int) + 1 - 1 = (d : Int) := by omega
      rw [hc4] at HZ2
      clear cf
      go_wp2_with fail
      refine Calls.mono (indent_any9 (m := d) HZ2.out.px.pr (by omega) (by have := HF.out; have := HL.out; simp only [List.length_append, List.length_cons, List.length_nil]; omega)) ?_
      rintro e w2 ⟨rfl, hq⟩
      have HZ3 := Hid.out (p := Hid _) (HZ2.out.trans (HZ2.out.px.puq hq))
      clear hq c2 c3 cf3
      go_wp2_with fail
      refine Calls.mono (put1 HZ3.out.px.pr w2.heap.size rfl ⟨#[125]⟩ (by have := HF.out; have := HL.out; simp only [List.length_append, List.length_cons, List.length_nil, tab_len]; show _ + 1 ≤ _; omega)) ?_
      rintro e w4 ⟨rfl, hq⟩
      have HZ4 := Hid.out (p := Hid _) (HZ3.out.trans (HZ3.out.px.puq hq))
      clear hq
      go_wp2_with fail
      go_end0
      refine ⟨rfl, ?_⟩
      have := HZ4.out
      rw [show j = (ks.map (pcsN (d + 1))).length by rw [List.length_map]; exact HM.out, List.take_length] at this
      rw [HR.out]
      simpa using this
end

end Go.Proofs.YtclnjhffcfkihaeGreatDoor
