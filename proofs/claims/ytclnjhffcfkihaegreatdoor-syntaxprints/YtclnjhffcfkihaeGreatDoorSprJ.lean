/-
  The program's printer: every statement, every block.
  The program's printer: globals, locks, threads; the whole program.
  The program's printer: the whole program.
-/
import Derived.Test.YtclnjhffcfkihaeGreatDoorSprI
import Derived.Test.YtclnjhffcfkihaeGreatDoorSynK4
import Derived.Deep.QuietTactic
import Derived.BigQuiet
namespace Go.Proofs.YtclnjhffcfkihaeGreatDoor
section
open Go.RowKit

theorem blk_len {d : Nat} {y : Nd} (h5 : kindN y = 5) (hw : WfN y) (hd : d + ndSize y ≤ 2000) : (pcsB (pcsN d y)).length ≤ 7000 * ndSize y := by
  have := (len_n _ y d (Nat.le_refl _) hd hw).2.2 h5
  rw [pcsN_b h5]
  simp only [pcsB, pcB, pcsB_app, tab_is, List.length_append, List.length_cons, List.length_nil, tab_len]
  omega
/-- The program prints every statement, and every block. -/
theorem gst_any {rows : List Row} : ∀ N x d, ndSize x ≤ N → N ≤ 700 → d + ndSize x ≤ 2000 → WfN x → (6 ≤ kindN x ∧ kindN x ≤ 14 → PgS rows d x) ∧ (kindN x = 5 → PgK rows d x)
  | 0, x, _, hN, _, _, _ => by have := size_pos x; omega
  | N + 1, .mk k n p t ks, d, hN, h7, hM, hw => by
    unfold WfN at hw
    by_cases hk : 15 ≤ k
    · refine ⟨fun h => ?_, fun h => ?_⟩
      · have : k ≤ 14 := h.2
        omega
      · have : k = 5 := h
        omega
    · rw [if_neg hk] at hw
      obtain ⟨rfl, hs, hks⟩ := hw
      have hsz : ndSize (.mk k 0 p t ks) = ndsSize ks + 1 := by rw [ndSize]
      rw [hsz] at hN hM
      have IX : ∀ y, y ∈ ks → 15 ≤ kindN y → WfX y ∧ ndSize y ≤ 1000 := fun y hy h => by
        have hs1 := size_mem hy
        exact ⟨wfn_x (wfNs_mem hks hy) h, by omega⟩
      have IB : ∀ y, y ∈ ks → kindN y = 5 → PgK rows d y ∧ (pcsB (pcsN d y)).length ≤ 7000 * ndSize y := fun y hy h => by
        have hs1 := size_mem hy
        have hwy := wfNs_mem hks hy
        exact ⟨(gst_any N y d (by omega) (by omega) (by omega) hwy).2 h, blk_len h hwy (by omega)⟩
      refine ⟨fun h6 => ?_, fun h5 => ?_⟩
      · have h6' : 6 ≤ k ∧ k ≤ 14 := h6
        rcases hs with h | ⟨rfl, ht, a, hq, ha⟩ | ⟨rfl, ht, a, hq, ha⟩ | ⟨rfl, ht, b, c, hq, hb, hc⟩ | ⟨rfl, rfl, a, ha, hq⟩ | ⟨rfl, rfl, a, ha, hq⟩ | ⟨rfl, rfl, a, hq, ha⟩ | ⟨hk2, ht, hq⟩ | ⟨rfl, rfl, hq⟩
        · omega
        · obtain ⟨x, rfl, rfl⟩ := one_kid hq
          refine gst_local ht.2.1 (fun y hy => IX y hy (by obtain rfl : y = x := by simpa using hy
                                                           exact ha)) (by simp) ?_
          have qx : pcsN d x = pcsX x := pcsN_x ha
          simp [pcsN, partsP, pcsNs, pcsB_app, pcsB, pcB, tab_is, qx, lisT, txtX]
        · obtain ⟨x, rfl, rfl⟩ := one_kid hq
          refine gst_assign ht.2.1 (fun y hy => IX y hy (by obtain rfl : y = x := by simpa using hy
                                                            exact ha)) (by simp) ?_
          have qx : pcsN d x = pcsX x := pcsN_x ha
          simp [pcsN, partsP, pcsNs, pcsB_app, pcsB, pcB, tab_is, qx, lisT, txtX]
        · obtain ⟨x, y, z, rfl, kx, rfl, rfl⟩ := three_kids hq
          have hx : 15 ≤ kindN x := by omega
          refine gst_cas ht.2.1 (fun v hv => IX v hv (by
            have hv' : v = x ∨ v = y ∨ v = z := by simpa using hv
            rcases hv' with rfl | rfl | rfl
            · exact hx
            · exact hb
            · exact hc)) (by simp) ?_
          have qx : pcsN d x = pcsX x := pcsN_x hx
          have qy : pcsN d y = pcsX y := pcsN_x hb
          have qz : pcsN d z = pcsX z := pcsN_x hc
          simp [pcsN, partsP, pcsNs, pcsB_app, pcsB, pcB, tab_is, qx, qy, qz, lisT, txtX]
        · rcases hq with hq | hq
          · obtain ⟨x, y, rfl, rfl, ky⟩ := two_kids hq
            refine gst_if (IX x (by simp) ha).1 (IB y (by simp) ky).1 ?_
            have qx : pcsN d x = pcsX x := pcsN_x ha
            simp [pcsN, partsP, pcsNs, pcsB_app, pcsB, pcB, tab_is, qx]
          · obtain ⟨x, y, z, rfl, rfl, ky, kz⟩ := three_kids hq
            refine gst_else (IX x (by simp) ha).1 (IB y (by simp) ky).1 (IB z (by simp) kz).1 (IB y (by simp) ky).2 ?_
            have qx : pcsN d x = pcsX x := pcsN_x ha
            simp [pcsN, partsP, pcsNs, pcsB_app, pcsB, pcB, tab_is, qx]
        · obtain ⟨x, y, rfl, rfl, ky⟩ := two_kids hq
          refine gst_while (IX x (by simp) ha).1 (IB y (by simp) ky).1 ?_
          have qx : pcsN d x = pcsX x := pcsN_x ha
          simp [pcsN, partsP, pcsNs, pcsB_app, pcsB, pcB, tab_is, qx]
        · obtain ⟨x, rfl, rfl⟩ := one_kid hq
          refine gst_print (fun y hy => IX y hy (by obtain rfl : y = x := by simpa using hy
                                                    exact ha)) (by simp) ?_
          have qx : pcsN d x = pcsX x := pcsN_x ha
          simp [pcsN, partsP, pcsNs, pcsB_app, pcsB, pcB, tab_is, qx, lisT, txtX]
        · obtain rfl : ks = [] := by simpa using hq
          rcases hk2 with rfl | rfl
          · refine gst_take ht.2.1 ?_
            simp [pcsN, partsP, pcsB_app, pcsB, pcB, tab_is]
          · refine gst_give ht.2.1 ?_
            simp [pcsN, partsP, pcsB_app, pcsB, pcB, tab_is]
        · obtain rfl : ks = [] := by simpa using hq
          refine gst_fence ?_
          simp [pcsN, partsP, pcsB_app, pcsB, pcB, tab_is]
      · obtain rfl : k = 5 := h5
        have ht : t = [] ∧ ∀ y, y ∈ ks → 6 ≤ kindN y ∧ kindN y ≤ 14 := by
          rcases hs with h | h | h | h | h | h | h | h | h
          · exact ⟨h.2.1, fun y hy => h.2.2 _ (List.mem_map_of_mem hy)⟩
          all_goals omega
        obtain ⟨rfl, hq⟩ := ht
        refine gblock_any (fun y hy => (gst_any N y (d + 1) (by have := size_mem hy; omega) (by omega) (by have := size_mem hy; omega) (wfNs_mem hks hy)).1 (hq y hy)) (fun y hy => ?_) (by omega) ?_
        · have := size_mem hy
          exact (len_n _ y (d + 1) (Nat.le_refl _) (by omega) (wfNs_mem hks hy)).2.1 (hq y hy)
        · have := nds_len ks
          omega
end

section
open Go.RowKit

section
variable {rows : List Row}
set_option maxRecDepth 100000 in
set_option maxHeartbeats 1600000 in
theorem gglob_zero {p : Int} {t : List UInt8} (ht12 : t.length ≤ 12) (w0 w : World) (a : Option Addr) (c P : Nat) (l : List UInt8) (d : Nat) (ka : Option Addr) (kn kc : Nat) (hp : Px w0 a c rows w P l d) (hlen : l.length ≤ 9000000) :
    Calls Tryz.prog 40 #[.pointer (some ⟨P, 0, none⟩), .agg #[.int .i64 2, .int .i64 0, .int .i64 p, .string ⟨⟨t⟩⟩, .slice ka kn kc]] w fun e w' => e = .returned (.tuple #[]) ∧ Pz w0 a c rows w P (l ++ ([105, 110, 116, 32] ++ t ++ [59])) d w' := by
  obtain ⟨o, ho⟩ : ∃ o, o = Obj.cells #[.int .i64 2, .int .i64 0, .int .i64 p, .string ⟨⟨t⟩⟩, .slice ka kn kc] 53 := ⟨_, rfl⟩
  have hA := (Below.refl w.heap.size w).alloc (Nat.le_refl _) o
  have HA := Hid.out (p := Hid _) hA
  have HP := Hid.out (p := Hid _) hp
  have HP1 := Hid.out (p := Hid _) (hp.below hA)
  have HO := Hid.out (p := Hid _) ho
  clear hp hA ho
  go_enter Tryz.func40, Tryz.ntmps40
  go_wp2_with fail
  rw [← HO.out]
  refine Calls.mono (put2 HP1.out.pr (w.heap.size + 1) (by simp) ⟨#[105, 110, 116, 32]⟩ ⟨⟨t⟩⟩ (by simp only [Lib.size_eq]; show l.length + 4 + t.length ≤ 10000000; omega)) ?_
  rintro e w2 ⟨rfl, hq⟩
  have hz := HP1.out.puq hq
  have hx2 := (hz.typ _ _ (heap_alloc_new w o) (by rw [HO.out]; exact oth_node _)).trans (heap_alloc_new w o)
  rw [HO.out] at hx2
  obtain ⟨e0, e1, e2, e3, e4, ef⟩ := box5 hx2
  have HZ := Hid.out (p := Hid _) (Pz.after HP.out HA.out hz)
  clear hq hx2 hz
  go_wp2_with fail
  refine Calls.mono (put1 HZ.out.px.pr w2.heap.size rfl ⟨#[59]⟩ (by simp only [List.length_append, List.length_cons, List.length_nil]; show _ + 1 ≤ 10000000; omega)) ?_
  rintro e w3 ⟨rfl, hq⟩
  have HZ3 := Hid.out (p := Hid _) (HZ.out.trans (HZ.out.px.puq hq))
  clear hq e0 e1 e2 e3 e4 ef
  go_wp2_with fail
  go_end0
  refine ⟨rfl, ?_⟩
  simpa using HZ3.out
set_option maxRecDepth 100000 in
set_option maxHeartbeats 1600000 in
theorem gglob_num {q p : Int} {t : List UInt8} (h0 : q ≠ 0) (h9 : q.natAbs ≤ 999999999) (ht12 : t.length ≤ 12) (w0 w : World) (a : Option Addr) (c P : Nat) (l : List UInt8) (d : Nat) (ka : Option Addr) (kn kc : Nat) (hE : PowE w0) (hp : Px w0 a c rows w P l d) (hlen : l.length ≤ 9000000) :
    Calls Tryz.prog 40 #[.pointer (some ⟨P, 0, none⟩), .agg #[.int .i64 2, .int .i64 q, .int .i64 p, .string ⟨⟨t⟩⟩, .slice ka kn kc]] w fun e w' => e = .returned (.tuple #[]) ∧ Pz w0 a c rows w P (l ++ ([105, 110, 116, 32] ++ t ++ [32, 61, 32] ++ Lib.itoa q ++ [59])) d w' := by
  obtain ⟨o, ho⟩ : ∃ o, o = Obj.cells #[.int .i64 2, .int .i64 q, .int .i64 p, .string ⟨⟨t⟩⟩, .slice ka kn kc] 53 := ⟨_, rfl⟩
  have hA := (Below.refl w.heap.size w).alloc (Nat.le_refl _) o
  have HA := Hid.out (p := Hid _) hA
  have HP := Hid.out (p := Hid _) hp
  have HP1 := Hid.out (p := Hid _) (hp.below hA)
  have HO := Hid.out (p := Hid _) ho
  have hDl := Lib.itoa_length_le q (by omega) (by omega)
  obtain ⟨D, hD⟩ : ∃ S : ByteArray, S = ⟨⟨Lib.itoa q⟩⟩ := ⟨_, rfl⟩
  have hDl2 : D.size ≤ 30 := by rw [hD, Lib.size_eq]; show (Lib.itoa q).length ≤ _; omega
  have HD : Hid (∀ W, Below w0.heap.size w0 W → Calls Tryz.prog 69 #[.int .i64 q] W fun e w' => e = .returned (.string D) ∧ Below W.heap.size W w') := fun W hW => by
    rw [hD]
    exact itoa_any9 (hE.below hW) q (by omega) (by omega)
  have HD3 : Hid (D.data.toList.length ≤ 30) := by show _ ≤ _; rw [← Lib.size_eq]; exact hDl2
  have HDD : Hid (D.data.toList = Lib.itoa q) := by show _ = _; rw [hD]
  have h0' : (q == 0) = false := by simpa using h0
  clear hp hA ho hD hDl h0 h9 hE
  go_enter Tryz.func40, Tryz.ntmps40
  go_wp2_with fail
  rw [← HO.out]
  refine Calls.mono (put2 HP1.out.pr (w.heap.size + 1) (by simp) ⟨#[105, 110, 116, 32]⟩ ⟨⟨t⟩⟩ (by simp only [Lib.size_eq]; show l.length + 4 + t.length ≤ 10000000; omega)) ?_
  rintro e w2 ⟨rfl, hq⟩
  have hz := HP1.out.puq hq
  have hx2 := (hz.typ _ _ (heap_alloc_new w o) (by rw [HO.out]; exact oth_node _)).trans (heap_alloc_new w o)
  rw [HO.out] at hx2
  obtain ⟨e0, e1, e2, e3, e4, ef⟩ := box5 hx2
  have HZ := Hid.out (p := Hid _) (Pz.after HP.out HA.out hz)
  clear hq hx2 hz
  go_wp2_with fail
  refine Calls.mono (HD.out _ HZ.out.px.low) ?_
  rintro e w3 ⟨rfl, hb3⟩
  have HZ3 := Hid.out (p := Hid _) (HZ.out.below hb3)
  clear hb3 e0 e1 e2 e3 e4 ef
  go_wp2_with fail
  refine Calls.mono (put2 HZ3.out.px.pr w3.heap.size rfl ⟨#[32, 61, 32]⟩ D (by simp only [List.length_append, List.length_cons, List.length_nil]; show _ + 3 + D.size ≤ 10000000; omega)) ?_
  rintro e w4 ⟨rfl, hq⟩
  have HZ4 := Hid.out (p := Hid _) (HZ3.out.trans (HZ3.out.px.puq hq))
  clear hq
  go_wp2_with fail
  refine Calls.mono (put1 HZ4.out.px.pr w4.heap.size rfl ⟨#[59]⟩ (by have := HD3.out; simp only [List.length_append, List.length_cons, List.length_nil]; show _ + 1 ≤ 10000000; omega)) ?_
  rintro e w5 ⟨rfl, hq⟩
  have HZ5 := Hid.out (p := Hid _) (HZ4.out.trans (HZ4.out.px.puq hq))
  clear hq
  go_wp2_with fail
  go_end0
  refine ⟨rfl, ?_⟩
  have := HZ5.out
  rw [HDD.out] at this
  simpa using this
end
theorem glob_txt2 {x : Nd} (h : WfG x ∨ WfT x) : (∃ p t, x = .mk 2 0 p t [] ∧ NameOk t ∧ pcsB (pcsG x) = [105, 110, 116, 32] ++ t ++ [59] ++ [10]) ∨ (∃ n p t, x = .mk 2 n p t [] ∧ n ≠ 0 ∧ n.natAbs ≤ 999999999 ∧ NameOk t ∧ pcsB (pcsG x) = [105, 110, 116, 32] ++ t ++ [32, 61, 32] ++ Lib.itoa n ++ [59] ++ [10]) ∨ (∃ p t, x = .mk 3 0 p t [] ∧ NameOk t ∧ pcsB (pcsG x) = [108, 111, 99, 107, 32] ++ t ++ [59] ++ [10]) ∨ (∃ p b, x = .mk 4 0 p [] [b] ∧ WfN b ∧ kindN b = 5 ∧ pcsB (pcsG x) = [116, 104, 114, 101, 97, 100, 32] ++ pcsB (pcsN 0 b) ++ [10]) := by
  rcases glob_txt h with ⟨p, t, rfl, hto, he⟩ | ⟨q, p, t, rfl, h0, hq, hto, he⟩ | ⟨p, t, rfl, hto, he⟩ | ⟨p, b, rfl, hb, h5, he⟩
  · exact Or.inl ⟨p, t, rfl, hto, by rw [he]; simp⟩
  · exact Or.inr (Or.inl ⟨q, p, t, rfl, h0, hq, hto, by rw [he]; simp⟩)
  · exact Or.inr (Or.inr (Or.inl ⟨p, t, rfl, hto, by rw [he]; simp⟩))
  · refine Or.inr (Or.inr (Or.inr ⟨p, b, rfl, hb, h5, ?_⟩))
    rw [he, pcsN_b h5]
    simp [pcsB, pcB, pcsB_app, tab_is, tabB]
end

section
open Go.RowKit

set_option maxRecDepth 100000 in
set_option maxHeartbeats 6400000 in
theorem gprog_any {ks : List Nd} (hw : WfP ks) (hsz : ndsSize ks + 1 ≤ 600) (w0 w : World) (a : Option Addr) (c P : Nat) (hE : PowE w0) (hr : NdsR w0 a (rowsP ks)) (hp : Px w0 a c (rowsP ks) w P [] 0) :
    Calls Tryz.prog 24 #[.pointer (some ⟨P, 0, none⟩)] w fun e w' => e = .returned (.tuple #[]) ∧ Pz w0 a c (rowsP ks) w P (pcsB (pcsP ks)) 0 w' := by
  have hn : (rowsP ks).length = ndsSize ks + 1 := by unfold rowsP; rw [List.length_append, flats_len]; rfl
  have hts := prog_at ks
  have hgs := wfp_mem hw
  have hlen := prog_len ks hgs (by omega)
  have hil := ts_len hts
  have hkl := nds_len ks
  obtain ⟨g, ka, kc, rfl, hnd⟩ := hr.get (ndsSize ks) (by omega)
  have hlast : (rowsP ks).getD (ndsSize ks) row0 = ⟨1, 0, 0, [], idxs 0 ks⟩ := by
    rw [List.getD_eq_getElem?_getD]
    unfold rowsP
    rw [List.getElem?_append_right (by rw [flats_len]; exact Nat.le_refl _), flats_len, Nat.sub_self]
    rfl
  rw [hlast] at hnd
  obtain ⟨n, hnn⟩ : ∃ n, n = (rowsP ks).length := ⟨_, rfl⟩
  obtain ⟨m, hm⟩ : ∃ m, m = ks.length := ⟨_, rfl⟩
  have x4 := (hnd.below hp.low).ks
  simp only at x4
  rw [hil, ← hm, show ndsSize ks = n - 1 by omega] at x4
  obtain ⟨c2, -, -, hPl, -⟩ := hp.nodes
  rw [← hnn] at c2
  have HK : Hid (∀ j : Nat, j < m → ∃ (b o i1 : Nat) (y : Nd) (k1 n1 p1 : Int) (t1 : List UInt8) (ka1 : Option Addr) (is1 : List Int) (kc1 : Nat) (ks1 : List Nd), y = .mk k1 n1 p1 t1 ks1 ∧ ka = some ⟨b, o, none⟩ ∧ (i1 : Int) < (n : Int) ∧ ks[j]? = some y ∧ (WfG y ∨ WfT y) ∧ ndSize y ≤ 600 ∧ TsAt (rowsP ks) ks1 is1 ∧ IIn w0 ka1 is1.length (fun j => is1.getD j 0) ∧
      ∀ W, Below w0.heap.size w0 W → W.cell? ⟨b, o + j, none⟩ = some (.int .i64 (i1 : Int)) ∧ W.cell? ⟨g, i1 * 5, none⟩ = some (.int .i64 k1) ∧ W.cell? ⟨g, i1 * 5 + 1, none⟩ = some (.int .i64 n1) ∧ W.cell? ⟨g, i1 * 5 + 2, none⟩ = some (.int .i64 p1) ∧ W.cell? ⟨g, i1 * 5 + 3, none⟩ = some (.string ⟨⟨t1⟩⟩) ∧ W.cell? ⟨g, i1 * 5 + 4, none⟩ = some (.slice ka1 is1.length kc1)) := fun j hj => by
    obtain ⟨y, hy⟩ : ∃ y, ks[j]? = some y := ⟨_, List.getElem?_eq_getElem (by omega)⟩
    obtain ⟨i1, h1, h2⟩ := ts_get hts hy
    obtain ⟨b, o, e, hc, _⟩ := kid_cell hnd.kin j _ h1
    have hym := List.mem_of_getElem? hy
    have hys : ndSize y ≤ ndsSize ks := size_mem hym
    have hgy := hgs y hym
    match y, hy, h2, hys, hgy with
    | .mk k1 n1 p1 t1 ks1, hy, h2, hys, hgy =>
      obtain ⟨hi1, is1, g1, ka1, kc1, hg, hn1, hts1⟩ := h2.node hr
      simp only [Option.some.injEq, Addr.mk.injEq, and_true] at hg
      obtain rfl := hg
      refine ⟨b, o, i1, _, k1, n1, p1, t1, ka1, is1, kc1, ks1, rfl, e, by omega, hy, hgy, by omega, hts1, hn1.kin, fun W hW => ?_⟩
      have hn := hn1.below hW
      exact ⟨(hW.cell (lt_of_cell hc)).trans hc, hn.k, hn.n, hn.p, hn.t, hn.ks⟩
  have HB1 : Hid (∀ b, WfN b → kindN b = 5 → ndSize b ≤ 600 → PgK (rowsP ks) 0 b) := fun b hb h5 hs => (gst_any _ b 0 (Nat.le_refl _) (by omega) (by omega) hb).2 h5
  have HL : Hid (∀ j, (pcsB ((ks.map pcsG).take j).flatten).length ≤ 4200000) := fun j => Nat.le_trans (pcsB_take _ j) (by unfold pcsP at hlen; omega)
  have HZ0 : Hid (∀ q, Pz w0 (some ⟨g, 0, none⟩) c (rowsP ks) w P (pcsB ((ks.map pcsG).take 0).flatten) 0 (w.drewN q)) := fun q => (Pz.refl hp).below (below_drewN (Below.refl _ _))
  have HE := Hid.out (p := Hid _) (And.intro hE hr)
  have HNN := Hid.out (p := Hid _) hnn
  have HM := Hid.out (p := Hid _) hm
  have hm6 : m ≤ 600 := by omega
  have hn6 : n ≤ 600 ∧ 1 ≤ n := by omega
  have hc1 : ((n : Int) - 1) = ((n - 1 : Nat) : Int) := by omega
  clear hr hnd hlast hts hgs hlen hw hnn hm hil hsz hn hkl hE hp
  go_enter Tryz.func24, Tryz.ntmps24
  go_wp2_with fail
  go_quiet (fail)
  clear x4 c2 hc1
  go_wp2_with fail
  go_loopw [19] (fun i wr => ∃ j : Nat, j ≤ m ∧ i = .int .i64 j ∧ Hid (Pz w0 (some ⟨g, 0, none⟩) c (rowsP ks) w P (pcsB ((ks.map pcsG).take j).flatten) 0 wr)) (fun i _ => m - (intOf i).toNat)
  case atStart => exact ⟨0, Nat.zero_le _, rfl, HZ0.out _⟩
  case round =>
    obtain ⟨j, hj, rfl, HJ⟩ := hrel
    clear HZ0
    by_cases hlt : j < m
    · obtain ⟨kb, ko, i1, y, k1, n1, p1, t1, ka1, is1, kc1, ks1, hye, rfl, hi1, hy, hgy, hys, hts1, hin1, hcs⟩ := HK.out j hlt
      obtain ⟨y0, x0, x1, x2, x3, x4⟩ := hcs _ HJ.out.px.low
      have hlt' : (j : Int) < (m : Int) := by omega
      have hnx : pcsB ((ks.map pcsG).take (j + 1)).flatten = pcsB ((ks.map pcsG).take j).flatten ++ pcsB (pcsG y) := by
        rw [List.take_add_one, List.getElem?_map, hy]
        exact pcsB_flat _ _
      have hlj := HL.out j
      obtain ⟨c2, -, -, hPl2, -⟩ := HJ.out.px.nodes
      rw [← HNN.out] at c2
      obtain ⟨o, ho⟩ : ∃ o, o = Obj.cells #[.int .i64 k1, .int .i64 n1, .int .i64 p1, .string ⟨⟨t1⟩⟩, .slice ka1 is1.length kc1] 53 := ⟨_, rfl⟩
      have hA := (Below.refl wr.heap.size wr).alloc (Nat.le_refl _) o
      have HA := Hid.out (p := Hid _) (And.intro (HJ.out.px.below hA) hA)
      have HO := Hid.out (p := Hid _) ho
      have HQ : Hid (∀ W T, Pz w0 (some ⟨g, 0, none⟩) c (rowsP ks) (wr.alloc o) P (pcsB ((ks.map pcsG).take j).flatten ++ T) 0 W → pcsB (pcsG y) = T ++ [10] → T.length ≤ 4210000 → ∀ W', PuQ W w0.heap.size P (pcsB ((ks.map pcsG).take j).flatten ++ T ++ [10]) (.slice (some ⟨g, 0, none⟩) (rowsP ks).length c) ((0 : Nat) : Int) W' → Pz w0 (some ⟨g, 0, none⟩) c (rowsP ks) w P (pcsB ((ks.map pcsG).take (j + 1)).flatten) 0 W') := fun W T hW he _ W' hq => by
        have h1 := Pz.after HJ.out.px HA.out.2 (hW.trans (hW.px.puq hq))
        rw [hnx, he, ← List.append_assoc]
        exact HJ.out.trans h1
      have HTL : Hid (∀ T, pcsB (pcsG y) = T ++ [10] → T.length ≤ 4210000) := fun T he => by
        have h1 := HL.out (j + 1)
        rw [hnx, he] at h1
        simp only [List.length_append, List.length_cons, List.length_nil] at h1
        omega
      have HLJ := Hid.out (p := Hid _) hlj
      clear hcs hnx hlj hA hy
      have hk4 : k1 = 2 ∨ k1 = 3 ∨ k1 = 4 := by
        rcases glob_txt2 hgy with ⟨p, t, he, _⟩ | ⟨q, p, t, he, _⟩ | ⟨p, t, he, _⟩ | ⟨p, b, he, _⟩
        all_goals
          rw [hye, Nd.mk.injEq] at he
          have := he.1
          omega
      rcases glob_txt2 hgy with ⟨p, t, he, hto, htx⟩ | ⟨q, p, t, he, h0, hq, hto, htx⟩ | ⟨p, t, he, hto, htx⟩ | ⟨p, b, he, hb, h5, htx⟩
      · rw [hye, Nd.mk.injEq] at he
        obtain ⟨rfl, rfl, rfl, rfl, rfl⟩ := he
        have HX : Hid (Calls Tryz.prog 40 #[.pointer (some ⟨P, 0, none⟩), .agg #[.int .i64 2, .int .i64 0, .int .i64 p1, .string ⟨⟨t1⟩⟩, .slice ka1 is1.length kc1]] (wr.alloc o) fun e w' => e = .returned (.tuple #[]) ∧ Pz w0 (some ⟨g, 0, none⟩) c (rowsP ks) (wr.alloc o) P (pcsB ((ks.map pcsG).take j).flatten ++ ([105, 110, 116, 32] ++ t1 ++ [59])) 0 w') := gglob_zero hto.2.1 w0 _ _ c P _ 0 ka1 is1.length kc1 HA.out.1 (by have := HLJ.out; omega)
        have HT := Hid.out (p := Hid _) htx
        clear hto htx hts1 hin1 hgy hk4 ho
        go_wp2_with fail
        rw [← HO.out]
        refine Calls.mono HX.out ?_
        rintro e w1 ⟨rfl, hz⟩
        have HZ := Hid.out (p := Hid _) hz
        clear hz y0 x0 x1 x2 x3 x4 c2
        go_wp2_with fail
        refine Calls.mono (put1 HZ.out.px.pr w1.heap.size rfl ⟨#[10]⟩ (by have := HLJ.out; have := HTL.out _ HT.out; rw [List.length_append]; show _ + 1 ≤ _; omega)) ?_
        rintro e w2 ⟨rfl, hq⟩
        have HQ2 := Hid.out (p := Hid _) (HQ.out _ _ HZ.out HT.out (HTL.out _ HT.out) _ hq)
        clear hq
        go_wp2_with fail
        go_roundw
        case rel => exact ⟨j + 1, by omega, by go_num, HQ2⟩
        case measure => simp [intOf]; omega
      · rw [hye, Nd.mk.injEq] at he
        obtain ⟨rfl, rfl, rfl, rfl, rfl⟩ := he
        have HX : Hid (Calls Tryz.prog 40 #[.pointer (some ⟨P, 0, none⟩), .agg #[.int .i64 2, .int .i64 n1, .int .i64 p1, .string ⟨⟨t1⟩⟩, .slice ka1 is1.length kc1]] (wr.alloc o) fun e w' => e = .returned (.tuple #[]) ∧ Pz w0 (some ⟨g, 0, none⟩) c (rowsP ks) (wr.alloc o) P (pcsB ((ks.map pcsG).take j).flatten ++ ([105, 110, 116, 32] ++ t1 ++ [32, 61, 32] ++ Lib.itoa n1 ++ [59])) 0 w') := gglob_num h0 hq hto.2.1 w0 _ _ c P _ 0 ka1 is1.length kc1 HE.out.1 HA.out.1 (by have := HLJ.out; omega)
        have HT := Hid.out (p := Hid _) htx
        clear hto htx hts1 hin1 hgy hk4 ho h0 hq
        go_wp2_with fail
        rw [← HO.out]
        refine Calls.mono HX.out ?_
        rintro e w1 ⟨rfl, hz⟩
        have HZ := Hid.out (p := Hid _) hz
        clear hz y0 x0 x1 x2 x3 x4 c2
        go_wp2_with fail
        refine Calls.mono (put1 HZ.out.px.pr w1.heap.size rfl ⟨#[10]⟩ (by have := HLJ.out; have := HTL.out _ HT.out; rw [List.length_append]; show _ + 1 ≤ _; omega)) ?_
        rintro e w2 ⟨rfl, hq⟩
        have HQ2 := Hid.out (p := Hid _) (HQ.out _ _ HZ.out HT.out (HTL.out _ HT.out) _ hq)
        clear hq
        go_wp2_with fail
        go_roundw
        case rel => exact ⟨j + 1, by omega, by go_num, HQ2⟩
        case measure => simp [intOf]; omega
      · rw [hye, Nd.mk.injEq] at he
        obtain ⟨rfl, rfl, rfl, rfl, rfl⟩ := he
        have hpt := put3 HA.out.1.pr (wr.heap.size + 1) (by simp) ⟨#[108, 111, 99, 107, 32]⟩ ⟨⟨t1⟩⟩ ⟨#[59]⟩ (by have := HLJ.out; have := hto.2.1; simp only [Lib.size_eq]; show _ + 5 + t1.length + 1 ≤ 10000000; omega)
        have HX := Hid.out (p := Hid _) hpt
        have HT := Hid.out (p := Hid _) htx
        clear hto htx hts1 hin1 hgy hk4 ho hpt
        go_wp2_with fail
        rw [← HO.out]
        refine Calls.mono HX.out ?_
        rintro e w1 ⟨rfl, hq⟩
        have hz := HA.out.1.puq hq
        have hz' : Pz w0 (some ⟨g, 0, none⟩) c (rowsP ks) (wr.alloc o) P (pcsB ((ks.map pcsG).take j).flatten ++ ([108, 111, 99, 107, 32] ++ t1 ++ [59])) 0 w1 := by simpa using hz
        have HZ := Hid.out (p := Hid _) hz'
        clear hz hz' hq y0 x0 x1 x2 x3 x4 c2
        go_wp2_with fail
        refine Calls.mono (put1 HZ.out.px.pr w1.heap.size rfl ⟨#[10]⟩ (by have := HLJ.out; have := HTL.out _ HT.out; rw [List.length_append]; show _ + 1 ≤ _; omega)) ?_
        rintro e w2 ⟨rfl, hq⟩
        have HQ2 := Hid.out (p := Hid _) (HQ.out _ _ HZ.out HT.out (HTL.out _ HT.out) _ hq)
        clear hq
        go_wp2_with fail
        go_roundw
        case rel => exact ⟨j + 1, by omega, by go_num, HQ2⟩
        case measure => simp [intOf]; omega
      · rw [hye, Nd.mk.injEq] at he
        obtain ⟨rfl, rfl, rfl, rfl, rfl⟩ := he
        obtain ⟨i2, rfl, ht2⟩ := ts_one hts1
        have hbs : ndSize b ≤ 599 := by rw [hye] at hys; simp only [ndSize, ndsSize] at hys; omega
        obtain ⟨kb2, ko2, rfl, z0, -⟩ := kid_cell hin1 0 _ rfl
        have HC : Hid (∀ W, Below w0.heap.size w0 W → W.cell? ⟨kb2, ko2, none⟩ = some (.int .i64 (i2 : Int))) := fun W hW => (hW.cell (lt_of_cell z0)).trans z0
        have HX : Hid (∀ (W : World) (l : List UInt8), Px w0 (some ⟨g, 0, none⟩) c (rowsP ks) W P l 0 → l.length ≤ 4300000 → Calls Tryz.prog 42 #[.pointer (some ⟨P, 0, none⟩), .int .i64 (i2 : Int)] W fun e w' => e = .returned (.tuple #[]) ∧ Pz w0 (some ⟨g, 0, none⟩) c (rowsP ks) W P (l ++ pcsB (pcsN 0 b)) 0 w') := fun W l hW hl => HB1.out b hb h5 (by omega) w0 W _ c i2 P l HE.out.1 HE.out.2 ht2 hW (by omega)
        have HT := Hid.out (p := Hid _) htx
        simp only [List.length_cons, List.length_nil, Nat.zero_add] at x4 ho HO
        clear hb h5 htx hts1 hin1 hgy hk4 ho ht2 hbs z0
        go_wp2_with fail
        rw [← HO.out]
        refine Calls.mono (put1 HA.out.1.pr (wr.heap.size + 1) (by simp) ⟨#[116, 104, 114, 101, 97, 100, 32]⟩ (by have := HLJ.out; show _ + 7 ≤ _; omega)) ?_
        rintro e w1 ⟨rfl, hq⟩
        have hz := HA.out.1.puq hq
        have hx2 := (hz.typ _ _ (heap_alloc_new wr o) (by rw [HO.out]; exact oth_node _)).trans (heap_alloc_new wr o)
        rw [HO.out] at hx2
        obtain ⟨e0, e1, e2, e3, e4, ef⟩ := box5 hx2
        have z0 := HC.out _ hz.px.low
        have HZ := Hid.out (p := Hid _) hz
        clear hz hq y0 x0 x1 x2 x3 x4 c2 hx2
        go_wp2_with fail
        refine Calls.mono (HX.out _ _ HZ.out.px (by have := HLJ.out; simp only [List.length_append, List.length_cons, List.length_nil]; omega)) ?_
        rintro e w2 ⟨rfl, hz⟩
        have hz' : Pz w0 (some ⟨g, 0, none⟩) c (rowsP ks) (wr.alloc o) P (pcsB ((ks.map pcsG).take j).flatten ++ ([116, 104, 114, 101, 97, 100, 32] ++ pcsB (pcsN 0 b))) 0 w2 := by simpa using HZ.out.trans hz
        have HZ2 := Hid.out (p := Hid _) hz'
        clear hz hz' e0 e1 e2 e3 e4 ef z0
        go_wp2_with fail
        refine Calls.mono (put1 HZ2.out.px.pr w2.heap.size rfl ⟨#[10]⟩ (by have := HLJ.out; have := HTL.out _ HT.out; rw [List.length_append]; show _ + 1 ≤ _; omega)) ?_
        rintro e w3 ⟨rfl, hq⟩
        have HQ2 := Hid.out (p := Hid _) (HQ.out _ _ HZ2.out HT.out (HTL.out _ HT.out) _ hq)
        clear hq
        go_wp2_with fail
        go_roundw
        case rel => exact ⟨j + 1, by omega, by go_num, HQ2⟩
        case measure => simp [intOf]; omega
    · obtain rfl : j = m := by omega
      go_wp2_with fail
      go_end0
      refine ⟨rfl, ?_⟩
      have := HJ.out
      rw [HM.out, show ks.length = (ks.map pcsG).length by rw [List.length_map], List.take_length] at this
      exact this
end

end Go.Proofs.YtclnjhffcfkihaeGreatDoor
