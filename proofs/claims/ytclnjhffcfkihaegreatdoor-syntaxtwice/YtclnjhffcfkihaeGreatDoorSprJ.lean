/-
  The program's printer: every statement, every block.
  The program's printer: globals, locks, threads; the whole program.
-/
import Derived.Test.YtclnjhffcfkihaeGreatDoorSprI
import Derived.Test.YtclnjhffcfkihaeGreatDoorSynK4
import Derived.Deep.QuietTactic
import Derived.BigQuiet
namespace Go.Proofs.YtclnjhffcfkihaeGreatDoor
section
open Go.RowKit

theorem blk_len {d : Nat} {y : Nd} (h5 : kindN y = 5) (hw : WfN y) (hd : d + ndSize y ≤ 2000) : (pcsB (pcsN d y)).length ≤ 7000 * ndSize y := by
  have := (len_n _ y d (Nat.le_refl _) hd hw).2.2 h5
  rw [pcsN_b h5]
  simp only [pcsB, pcB, pcsB_app, tab_is, List.length_append, List.length_cons, List.length_nil, tab_len]
  omega
/-- The program prints every statement, and every block. -/
theorem gst_any {rows : List Row} : ∀ N x d, ndSize x ≤ N → N ≤ 700 → d + ndSize x ≤ 2000 → WfN x → (6 ≤ kindN x ∧ kindN x ≤ 14 → PgS rows d x) ∧ (kindN x = 5 → PgK rows d x)
  | 0, x, _, hN, _, _, _ => by have := size_pos x; omega
  | N + 1, .mk k n p t ks, d, hN, h7, hM, hw => by
    unfold WfN at hw
    by_cases hk : 15 ≤ k
    · refine ⟨fun h => ?_, fun h => ?_⟩
      · have : k ≤ 14 := h.2
        omega
      · have : k = 5 := h
        omega
    · rw [if_neg hk] at hw
      obtain ⟨rfl, hs, hks⟩ := hw
      have hsz : ndSize (.mk k 0 p t ks) = ndsSize ks + 1 := by rw [ndSize]
      rw [hsz] at hN hM
      have IX : ∀ y, y ∈ ks → 15 ≤ kindN y → WfX y ∧ ndSize y ≤ 1000 := fun y hy h => by
        have hs1 := size_mem hy
        exact ⟨wfn_x (wfNs_mem hks hy) h, by omega⟩
      have IB : ∀ y, y ∈ ks → kindN y = 5 → PgK rows d y ∧ (pcsB (pcsN d y)).length ≤ 7000 * ndSize y := fun y hy h => by
        have hs1 := size_mem hy
        have hwy := wfNs_mem hks hy
        exact ⟨(gst_any N y d (by omega) (by omega) (by omega) hwy).2 h, blk_len h hwy (by omega)⟩
      refine ⟨fun h6 => ?_, fun h5 => ?_⟩
      · have h6' : 6 ≤ k ∧ k ≤ 14 := h6
        rcases hs with h | ⟨rfl, ht, a, hq, ha⟩ | ⟨rfl, ht, a, hq, ha⟩ | ⟨rfl, ht, b, c, hq, hb, hc⟩ | ⟨rfl, rfl, a, ha, hq⟩ | ⟨rfl, rfl, a, ha, hq⟩ | ⟨rfl, rfl, a, hq, ha⟩ | ⟨hk2, ht, hq⟩ | ⟨rfl, rfl, hq⟩
        · omega
        · obtain ⟨x, rfl, rfl⟩ := one_kid hq
          refine gst_local ht.2.1 (fun y hy => IX y hy (by obtain rfl : y = x := by simpa using hy
                                                           exact ha)) (by simp) ?_
          have qx : pcsN d x = pcsX x := pcsN_x ha
          simp [pcsN, partsP, pcsNs, pcsB_app, pcsB, pcB, tab_is, qx, lisT, txtX]
        · obtain ⟨x, rfl, rfl⟩ := one_kid hq
          refine gst_assign ht.2.1 (fun y hy => IX y hy (by obtain rfl : y = x := by simpa using hy
                                                            exact ha)) (by simp) ?_
          have qx : pcsN d x = pcsX x := pcsN_x ha
          simp [pcsN, partsP, pcsNs, pcsB_app, pcsB, pcB, tab_is, qx, lisT, txtX]
        · obtain ⟨x, y, z, rfl, kx, rfl, rfl⟩ := three_kids hq
          have hx : 15 ≤ kindN x := by omega
          refine gst_cas ht.2.1 (fun v hv => IX v hv (by
            have hv' : v = x ∨ v = y ∨ v = z := by simpa using hv
            rcases hv' with rfl | rfl | rfl
            · exact hx
            · exact hb
            · exact hc)) (by simp) ?_
          have qx : pcsN d x = pcsX x := pcsN_x hx
          have qy : pcsN d y = pcsX y := pcsN_x hb
          have qz : pcsN d z = pcsX z := pcsN_x hc
          simp [pcsN, partsP, pcsNs, pcsB_app, pcsB, pcB, tab_is, qx, qy, qz, lisT, txtX]
        · rcases hq with hq | hq
          · obtain ⟨x, y, rfl, rfl, ky⟩ := two_kids hq
            refine gst_if (IX x (by simp) ha).1 (IB y (by simp) ky).1 ?_
            have qx : pcsN d x = pcsX x := pcsN_x ha
            simp [pcsN, partsP, pcsNs, pcsB_app, pcsB, pcB, tab_is, qx]
          · obtain ⟨x, y, z, rfl, rfl, ky, kz⟩ := three_kids hq
            refine gst_else (IX x (by simp) ha).1 (IB y (by simp) ky).1 (IB z (by simp) kz).1 (IB y (by simp) ky).2 ?_
            have qx : pcsN d x = pcsX x := pcsN_x ha
            simp [pcsN, partsP, pcsNs, pcsB_app, pcsB, pcB, tab_is, qx]
        · obtain ⟨x, y, rfl, rfl, ky⟩ := two_kids hq
          refine gst_while (IX x (by simp) ha).1 (IB y (by simp) ky).1 ?_
          have qx : pcsN d x = pcsX x := pcsN_x ha
          simp [pcsN, partsP, pcsNs, pcsB_app, pcsB, pcB, tab_is, qx]
        · obtain ⟨x, rfl, rfl⟩ := one_kid hq
          refine gst_print (fun y hy => IX y hy (by obtain rfl : y = x := by simpa using hy
                                                    exact ha)) (by simp) ?_
          have qx : pcsN d x = pcsX x := pcsN_x ha
          simp [pcsN, partsP, pcsNs, pcsB_app, pcsB, pcB, tab_is, qx, lisT, txtX]
        · obtain rfl : ks = [] := by simpa using hq
          rcases hk2 with rfl | rfl
          · refine gst_take ht.2.1 ?_
            simp [pcsN, partsP, pcsB_app, pcsB, pcB, tab_is]
          · refine gst_give ht.2.1 ?_
            simp [pcsN, partsP, pcsB_app, pcsB, pcB, tab_is]
        · obtain rfl : ks = [] := by simpa using hq
          refine gst_fence ?_
          simp [pcsN, partsP, pcsB_app, pcsB, pcB, tab_is]
      · obtain rfl : k = 5 := h5
        have ht : t = [] ∧ ∀ y, y ∈ ks → 6 ≤ kindN y ∧ kindN y ≤ 14 := by
          rcases hs with h | h | h | h | h | h | h | h | h
          · exact ⟨h.2.1, fun y hy => h.2.2 _ (List.mem_map_of_mem hy)⟩
          all_goals omega
        obtain ⟨rfl, hq⟩ := ht
        refine gblock_any (fun y hy => (gst_any N y (d + 1) (by have := size_mem hy; omega) (by omega) (by have := size_mem hy; omega) (wfNs_mem hks hy)).1 (hq y hy)) (fun y hy => ?_) (by omega) ?_
        · have := size_mem hy
          exact (len_n _ y (d + 1) (Nat.le_refl _) (by omega) (wfNs_mem hks hy)).2.1 (hq y hy)
        · have := nds_len ks
          omega
end

section
open Go.RowKit

section
variable {rows : List Row}
set_option maxRecDepth 100000 in
set_option maxHeartbeats 1600000 in
theorem gglob_zero {p : Int} {t : List UInt8} (ht12 : t.length ≤ 12) (w0 w : World) (a : Option Addr) (c P : Nat) (l : List UInt8) (d : Nat) (ka : Option Addr) (kn kc : Nat) (hp : Px w0 a c rows w P l d) (hlen : l.length ≤ 9000000) :
    Calls Tryz.prog 40 #[.pointer (some ⟨P, 0, none⟩), .agg #[.int .i64 2, .int .i64 0, .int .i64 p, .string ⟨⟨t⟩⟩, .slice ka kn kc]] w fun e w' => e = .returned (.tuple #[]) ∧ Pz w0 a c rows w P (l ++ ([105, 110, 116, 32] ++ t ++ [59])) d w' := by
  obtain ⟨o, ho⟩ : ∃ o, o = Obj.cells #[.int .i64 2, .int .i64 0, .int .i64 p, .string ⟨⟨t⟩⟩, .slice ka kn kc] 53 := ⟨_, rfl⟩
  have hA := (Below.refl w.heap.size w).alloc (Nat.le_refl _) o
  have HA := Hid.out (p := Hid _) hA
  have HP := Hid.out (p := Hid _) hp
  have HP1 := Hid.out (p := Hid _) (hp.below hA)
  have HO := Hid.out (p := Hid _) ho
  clear hp hA ho
  go_enter Tryz.func40, Tryz.ntmps40
  go_wp2_with fail
  rw [← HO.out]
  refine Calls.mono (put2 HP1.out.pr (w.heap.size + 1) (by simp) ⟨#[105, 110, 116, 32]⟩ ⟨⟨t⟩⟩ (by simp only [Lib.size_eq]; show l.length + 4 + t.length ≤ 10000000; omega)) ?_
  rintro e w2 ⟨rfl, hq⟩
  have hz := HP1.out.puq hq
  have hx2 := (hz.typ _ _ (heap_alloc_new w o) (by rw [HO.out]; exact oth_node _)).trans (heap_alloc_new w o)
  rw [HO.out] at hx2
  obtain ⟨e0, e1, e2, e3, e4, ef⟩ := box5 hx2
  have HZ := Hid.out (p := Hid _) (Pz.after HP.out HA.out hz)
  clear hq hx2 hz
  go_wp2_with fail
  refine Calls.mono (put1 HZ.out.px.pr w2.heap.size rfl ⟨#[59]⟩ (by simp only [List.length_append, List.length_cons, List.length_nil]; show _ + 1 ≤ 10000000; omega)) ?_
  rintro e w3 ⟨rfl, hq⟩
  have HZ3 := Hid.out (p := Hid _) (HZ.out.trans (HZ.out.px.puq hq))
  clear hq e0 e1 e2 e3 e4 ef
  go_wp2_with fail
  go_end0
  refine ⟨rfl, ?_⟩
  simpa using HZ3.out
set_option maxRecDepth 100000 in
set_option maxHeartbeats 1600000 in
theorem gglob_num {q p : Int} {t : List UInt8} (h0 : q ≠ 0) (h9 : q.natAbs ≤ 999999999) (ht12 : t.length ≤ 12) (w0 w : World) (a : Option Addr) (c P : Nat) (l : List UInt8) (d : Nat) (ka : Option Addr) (kn kc : Nat) (hE : PowE w0) (hp : Px w0 a c rows w P l d) (hlen : l.length ≤ 9000000) :
    Calls Tryz.prog 40 #[.pointer (some ⟨P, 0, none⟩), .agg #[.int .i64 2, .int .i64 q, .int .i64 p, .string ⟨⟨t⟩⟩, .slice ka kn kc]] w fun e w' => e = .returned (.tuple #[]) ∧ Pz w0 a c rows w P (l ++ ([105, 110, 116, 32] ++ t ++ [32, 61, 32] ++ Lib.itoa q ++ [59])) d w' := by
  obtain ⟨o, ho⟩ : ∃ o, o = Obj.cells #[.int .i64 2, .int .i64 q, .int .i64 p, .string ⟨⟨t⟩⟩, .slice ka kn kc] 53 := ⟨_, rfl⟩
  have hA := (Below.refl w.heap.size w).alloc (Nat.le_refl _) o
  have HA := Hid.out (p := Hid _) hA
  have HP := Hid.out (p := Hid _) hp
  have HP1 := Hid.out (p := Hid _) (hp.below hA)
  have HO := Hid.out (p := Hid _) ho
  have hDl := Lib.itoa_length_le q (by omega) (by omega)
  obtain ⟨D, hD⟩ : ∃ S : ByteArray, S = ⟨⟨Lib.itoa q⟩⟩ := ⟨_, rfl⟩
  have hDl2 : D.size ≤ 30 := by rw [hD, Lib.size_eq]; show (Lib.itoa q).length ≤ _; omega
  have HD : Hid (∀ W, Below w0.heap.size w0 W → Calls Tryz.prog 69 #[.int .i64 q] W fun e w' => e = .returned (.string D) ∧ Below W.heap.size W w') := fun W hW => by
    rw [hD]
    exact itoa_any9 (hE.below hW) q (by omega) (by omega)
  have HD3 : Hid (D.data.toList.length ≤ 30) := by show _ ≤ _; rw [← Lib.size_eq]; exact hDl2
  have HDD : Hid (D.data.toList = Lib.itoa q) := by show _ = _; rw [hD]
  have h0' : (q == 0) = false := by simpa using h0
  clear hp hA ho hD hDl h0 h9 hE
  go_enter Tryz.func40, Tryz.ntmps40
  go_wp2_with fail
  rw [← HO.out]
  refine Calls.mono (put2 HP1.out.pr (w.heap.size + 1) (by simp) ⟨#[105, 110, 116, 32]⟩ ⟨⟨t⟩⟩ (by simp only [Lib.size_eq]; show l.length + 4 + t.length ≤ 10000000; omega)) ?_
  rintro e w2 ⟨rfl, hq⟩
  have hz := HP1.out.puq hq
  have hx2 := (hz.typ _ _ (heap_alloc_new w o) (by rw [HO.out]; exact oth_node _)).trans (heap_alloc_new w o)
  rw [HO.out] at hx2
  obtain ⟨e0, e1, e2, e3, e4, ef⟩ := box5 hx2
  have HZ := Hid.out (p := Hid _) (Pz.after HP.out HA.out hz)
  clear hq hx2 hz
  go_wp2_with fail
  refine Calls.mono (HD.out _ HZ.out.px.low) ?_
  rintro e w3 ⟨rfl, hb3⟩
  have HZ3 := Hid.out (p := Hid _) (HZ.out.below hb3)
  clear hb3 e0 e1 e2 e3 e4 ef
  go_wp2_with fail
  refine Calls.mono (put2 HZ3.out.px.pr w3.heap.size rfl ⟨#[32, 61, 32]⟩ D (by simp only [List.length_append, List.length_cons, List.length_nil]; show _ + 3 + D.size ≤ 10000000; omega)) ?_
  rintro e w4 ⟨rfl, hq⟩
  have HZ4 := Hid.out (p := Hid _) (HZ3.out.trans (HZ3.out.px.puq hq))
  clear hq
  go_wp2_with fail
  refine Calls.mono (put1 HZ4.out.px.pr w4.heap.size rfl ⟨#[59]⟩ (by have := HD3.out; simp only [List.length_append, List.length_cons, List.length_nil]; show _ + 1 ≤ 10000000; omega)) ?_
  rintro e w5 ⟨rfl, hq⟩
  have HZ5 := Hid.out (p := Hid _) (HZ4.out.trans (HZ4.out.px.puq hq))
  clear hq
  go_wp2_with fail
  go_end0
  refine ⟨rfl, ?_⟩
  have := HZ5.out
  rw [HDD.out] at this
  simpa using this
end
theorem glob_txt2 {x : Nd} (h : WfG x ∨ WfT x) : (∃ p t, x = .mk 2 0 p t [] ∧ NameOk t ∧ pcsB (pcsG x) = [105, 110, 116, 32] ++ t ++ [59] ++ [10]) ∨ (∃ n p t, x = .mk 2 n p t [] ∧ n ≠ 0 ∧ n.natAbs ≤ 999999999 ∧ NameOk t ∧ pcsB (pcsG x) = [105, 110, 116, 32] ++ t ++ [32, 61, 32] ++ Lib.itoa n ++ [59] ++ [10]) ∨ (∃ p t, x = .mk 3 0 p t [] ∧ NameOk t ∧ pcsB (pcsG x) = [108, 111, 99, 107, 32] ++ t ++ [59] ++ [10]) ∨ (∃ p b, x = .mk 4 0 p [] [b] ∧ WfN b ∧ kindN b = 5 ∧ pcsB (pcsG x) = [116, 104, 114, 101, 97, 100, 32] ++ pcsB (pcsN 0 b) ++ [10]) := by
  rcases glob_txt h with ⟨p, t, rfl, hto, he⟩ | ⟨q, p, t, rfl, h0, hq, hto, he⟩ | ⟨p, t, rfl, hto, he⟩ | ⟨p, b, rfl, hb, h5, he⟩
  · exact Or.inl ⟨p, t, rfl, hto, by rw [he]; simp⟩
  · exact Or.inr (Or.inl ⟨q, p, t, rfl, h0, hq, hto, by rw [he]; simp⟩)
  · exact Or.inr (Or.inr (Or.inl ⟨p, t, rfl, hto, by rw [he]; simp⟩))
  · refine Or.inr (Or.inr (Or.inr ⟨p, b, rfl, hb, h5, ?_⟩))
    rw [he, pcsN_b h5]
    simp [pcsB, pcB, pcsB_app, tab_is, tabB]
end

end Go.Proofs.YtclnjhffcfkihaeGreatDoor
