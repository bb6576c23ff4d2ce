/-
  The document's printer: blocks; every statement.
  The document's Print.
-/
import Derived.Test.YtclnjhffcfkihaeGreatDoorSynK3
namespace Go.Proofs.YtclnjhffcfkihaeGreatDoor
section
open Go.RowKit

theorem pcsB_flat (ps : List (List Pc)) (p : List Pc) : pcsB (ps ++ [p]).flatten = pcsB ps.flatten ++ pcsB p := by
  rw [List.flatten_append, pcsB_app]
  simp
theorem pcsB_take (ps : List (List Pc)) (j : Nat) : (pcsB (ps.take j).flatten).length ≤ (pcsB ps.flatten).length := by
  have h : ps.flatten = (ps.take j).flatten ++ (ps.drop j).flatten := by rw [← List.flatten_append, List.take_append_drop]
  rw [h, pcsB_len_app]
  omega
set_option maxRecDepth 100000 in
set_option maxHeartbeats 1600000 in
theorem rblock9_any {rows : List Row} {d : Nat} {p : Int} {ks : List Nd} (hks : ∀ y, y ∈ ks → PrS rows d y) (hl : (pcsB (bodP d (.mk 5 0 p [] ks))).length ≤ 5000000) (hkl : ks.length ≤ 100000) : PrB rows d (.mk 5 0 p [] ks) := by
  intro a c i w ht hr
  obtain ⟨hi, is, g, ka, kc, rfl, hnd, hts⟩ := ht.node hr
  have hil := ts_len hts
  have hi' : (i : Int) < (rows.length : Int) := by omega
  obtain ⟨R, hR⟩ : ∃ R, R = pcsB (bodP d (.mk 5 0 p [] ks)) := ⟨_, rfl⟩
  rw [← hR]
  rw [bodP, pcsNs_is] at hl hR
  have HK : Hid (∀ (j : Nat) (y : Nd), ks[j]? = some y → ∃ i1 : Nat, is[j]? = some (i1 : Int) ∧ ∀ W, Below w.heap.size w W → Calls Tryz.prog 43 #[.slice (some ⟨g, 0, none⟩) rows.length c, .int .i64 (i1 : Int), .int .i64 (d : Int)] W fun e w' => e = .returned (.string ⟨⟨pcsB (pcsN d y)⟩⟩) ∧ Below W.heap.size W w') := fun j y hy => by
    obtain ⟨i1, h1, h2⟩ := ts_get hts hy
    exact ⟨i1, h1, fun W hW => hks y (List.mem_of_getElem? hy) _ c i1 W h2 (hr.below hW)⟩
  have HN : Hid (∀ W, Below w.heap.size w W → NdR W g i ⟨5, 0, p, [], is⟩ ka kc) := fun W hW => hnd.below hW
  have HL : Hid (∀ j, (pcsB ((ks.map (pcsN d)).take j).flatten).length ≤ 5000000) := fun j => Nat.le_trans (pcsB_take _ j) hl
  have HR := Hid.out (p := Hid _) hR
  clear hnd hts hr ht hks hR hl
  obtain ⟨m, hm⟩ : ∃ m, m = is.length := ⟨_, rfl⟩
  have hmk : m = ks.length := by omega
  rw [← hm] at hil
  have HM := Hid.out (p := Hid _) hm
  have hml : m ≤ 100000 := by omega
  clear hm
  go_enter Tryz.func27, Tryz.ntmps27
  go_wp2_with fail
  go_loopw [7, 8] (fun s i wr => ∃ (j : Nat) (l : ByteArray), j ≤ m ∧ s = .string l ∧ i = .int .i64 j ∧ Below w.heap.size w wr ∧ Hid (l.data.toList = pcsB ((ks.map (pcsN d)).take j).flatten)) (fun _ i _ => m - (intOf i).toNat)
  case atStart => exact ⟨0, ⟨#[]⟩, Nat.zero_le _, rfl, rfl, Below.refl _ _, (rfl : ([] : List UInt8) = _)⟩
  case round =>
    obtain ⟨j, l, hj, rfl, rfl, hbr, HI⟩ := hrel
    have hls : l.size ≤ 5000000 := by rw [Lib.size_eq, HI.out]; exact HL.out j
    have hn := HN.out _ hbr
    have x4 := hn.ks
    simp only at x4
    rw [← HM.out] at x4
    by_cases hlt : j < m
    · obtain ⟨y, hy⟩ : ∃ y, ks[j]? = some y := ⟨_, List.getElem?_eq_getElem (by omega)⟩
      obtain ⟨i1, h1, HX⟩ := HK.out j y hy
      obtain ⟨kb, ko, rfl, y0, -⟩ := kid_cell hn.kin j _ h1
      have hlt' : (j : Int) < (m : Int) := by omega
      obtain ⟨S, hS⟩ : ∃ S : ByteArray, S = ⟨⟨pcsB (pcsN d y)⟩⟩ := ⟨_, rfl⟩
      have hnx : pcsB ((ks.map (pcsN d)).take (j + 1)).flatten = pcsB ((ks.map (pcsN d)).take j).flatten ++ pcsB (pcsN d y) := by
        rw [List.take_add_one, List.getElem?_map, hy]
        exact pcsB_flat _ _
      have hSl : S.size ≤ 5000000 := by
        have := HL.out (j + 1)
        rw [hnx, List.length_append] at this
        rw [hS, Lib.size_eq]
        show (pcsB (pcsN d y)).length ≤ _
        omega
      have HS : Hid (S.data.toList = pcsB (pcsN d y)) := by show _ = _; rw [hS]
      have HX2 : Hid (∀ W, Below w.heap.size w W → Calls Tryz.prog 43 #[.slice (some ⟨g, 0, none⟩) rows.length c, .int .i64 (i1 : Int), .int .i64 (d : Int)] W fun e w' => e = .returned (.string S) ∧ Below W.heap.size W w') := fun W hW => by rw [hS]; exact HX W hW
      have HNX := Hid.out (p := Hid _) hnx
      clear hn hS HX hnx hy h1
      go_wp2_with fail
      refine Calls.mono (HX2.out _ hbr) ?_
      rintro e w1 ⟨rfl, hb1⟩
      have hb2 := hbr.trans (hb1.mono hbr.size)
      clear x4 y0 hb1
      go_wp2_with fail
      go_roundw
      case rel =>
        refine ⟨j + 1, _, by omega, rfl, by go_num, hb2, ?_⟩
        show _ = _
        rw [app_list, HI.out, HS.out, HNX.out]
      case measure => simp [intOf]; omega
    · obtain rfl : j = m := by omega
      go_wp2_with fail
      go_ret
      refine ⟨ret_str9 ?_, hbr⟩
      rw [HR.out, HI.out, hmk, ← List.length_map (f := pcsN d), List.take_length]
theorem wfn_x {x : Nd} (h : WfN x) (hk : 15 ≤ kindN x) : WfX x := by
  match x, h, hk with
  | .mk k n p t ks, h, hk =>
    unfold WfN at h
    rw [if_pos (show 15 ≤ k from hk)] at h
    exact h
theorem nds_len : ∀ ks : List Nd, ks.length ≤ ndsSize ks
  | [] => Nat.le_refl _
  | x :: r => by
    have := nds_len r
    have := size_pos x
    rw [ndsSize, List.length_cons]
    omega
theorem len_flat {d : Nat} : ∀ ks : List Nd, (∀ y, y ∈ ks → (pcsB (pcsN d y)).length ≤ 7000 * ndSize y) → (pcsB (ks.map (pcsN d)).flatten).length ≤ 7000 * ndsSize ks
  | [], _ => by simp [pcsB]
  | y :: r, h => by
    have h1 := h y (List.mem_cons_self ..)
    have h2 := len_flat r fun z hz => h z (List.mem_cons_of_mem _ hz)
    rw [List.map_cons, List.flatten_cons, pcsB_len_app, ndsSize]
    omega
theorem len_side9 (n : Nat) : 12 * n ≤ 7000 * n := Nat.mul_le_mul_right _ (by decide)
/-- How long a statement is, how long a block's statements are. -/
theorem len_n : ∀ N x d, ndSize x ≤ N → d + ndSize x ≤ 2000 → WfN x → (15 ≤ kindN x → (pcsB (pcsX x)).length ≤ 7000 * ndSize x) ∧ (6 ≤ kindN x ∧ kindN x ≤ 14 → (pcsB (pcsN d x)).length ≤ 7000 * ndSize x) ∧ (kindN x = 5 → (pcsB (bodP (d + 1) x)).length + 7000 ≤ 7000 * ndSize x)
  | 0, x, _, hN, _, _ => by have := size_pos x; omega
  | N + 1, .mk k n p t ks, d, hN, hM, hw => by
    unfold WfN at hw
    by_cases hk : 15 ≤ k
    · rw [if_pos hk] at hw
      refine ⟨fun _ => Nat.le_trans (len_x _ _ (Nat.le_refl _) hw) (len_side9 _), fun h => ?_, fun h => ?_⟩
      · have : k ≤ 14 := h.2
        omega
      · have : k = 5 := h
        omega
    · rw [if_neg hk] at hw
      obtain ⟨rfl, hs, hks⟩ := hw
      have hsz : ndSize (.mk k 0 p t ks) = ndsSize ks + 1 := by rw [ndSize]
      rw [hsz] at hN hM ⊢
      have IH : ∀ y, y ∈ ks → ∀ d', d' + ndSize y ≤ 2000 → (15 ≤ kindN y → (pcsB (pcsX y)).length ≤ 7000 * ndSize y) ∧ (6 ≤ kindN y ∧ kindN y ≤ 14 → (pcsB (pcsN d' y)).length ≤ 7000 * ndSize y) ∧ (kindN y = 5 → (pcsB (bodP (d' + 1) y)).length + 7000 ≤ 7000 * ndSize y) := fun y hy d' hd' =>
        len_n N y d' (by have := size_mem hy; omega) hd' (wfNs_mem hks hy)
      refine ⟨fun h => absurd h hk, fun h6 => ?_, fun h5 => ?_⟩
      · have h6' : 6 ≤ k ∧ k ≤ 14 := h6
        rcases hs with h | ⟨rfl, ht, a, hq, ha⟩ | ⟨rfl, ht, a, hq, ha⟩ | ⟨rfl, ht, b, c, hq, hb, hc⟩ | ⟨rfl, rfl, a, ha, hq⟩ | ⟨rfl, rfl, a, ha, hq⟩ | ⟨rfl, rfl, a, hq, ha⟩ | ⟨hk2, ht, hq⟩ | ⟨rfl, rfl, hq⟩
        · omega
        · obtain ⟨x, rfl, rfl⟩ := one_kid hq
          have e1 := (IH x (by simp) d (by simp only [ndsSize] at hM; omega)).1 ha
          have q1 : pcsN d x = pcsX x := pcsN_x ha
          have ht2 := ht.2.1
          simp only [ndsSize] at hM ⊢
          simp [pcsN, partsP, pcsNs, pcsB_app, pcsB, pcB, tab_is, tab_len, q1]
          omega
        · obtain ⟨x, rfl, rfl⟩ := one_kid hq
          have e1 := (IH x (by simp) d (by simp only [ndsSize] at hM; omega)).1 ha
          have q1 : pcsN d x = pcsX x := pcsN_x ha
          have ht2 := ht.2.1
          simp only [ndsSize] at hM ⊢
          simp [pcsN, partsP, pcsNs, pcsB_app, pcsB, pcB, tab_is, tab_len, q1]
          omega
        · obtain ⟨x, y, z, rfl, kx, rfl, rfl⟩ := three_kids hq
          have e1 := (IH x (by simp) d (by simp only [ndsSize] at hM; omega)).1 (by omega)
          have e2 := (IH y (by simp) d (by simp only [ndsSize] at hM; omega)).1 hb
          have e3 := (IH z (by simp) d (by simp only [ndsSize] at hM; omega)).1 hc
          have q1 : pcsN d x = pcsX x := pcsN_x (by omega)
          have q2 : pcsN d y = pcsX y := pcsN_x hb
          have q3 : pcsN d z = pcsX z := pcsN_x hc
          have ht2 := ht.2.1
          simp only [ndsSize] at hM ⊢
          simp [pcsN, partsP, pcsNs, pcsB_app, pcsB, pcB, tab_is, tab_len, q1, q2, q3]
          omega
        · rcases hq with hq | hq
          · obtain ⟨x, y, rfl, rfl, ky⟩ := two_kids hq
            have e1 := (IH x (by simp) d (by simp only [ndsSize] at hM; omega)).1 ha
            have e2 := (IH y (by simp) d (by simp only [ndsSize] at hM; omega)).2.2 ky
            have q1 : pcsN d x = pcsX x := pcsN_x ha
            have q2 : pcsN d y = pS 123 :: .b 10 :: (bodP (d + 1) y ++ (tabsP d ++ [pS 125])) := pcsN_b ky
            simp only [ndsSize] at hM ⊢
            simp [pcsN, partsP, pcsNs, pcsB_app, pcsB, pcB, tab_is, tab_len, q1, q2]
            omega
          · obtain ⟨x, y, z, rfl, rfl, ky, kz⟩ := three_kids hq
            have e1 := (IH x (by simp) d (by simp only [ndsSize] at hM; omega)).1 ha
            have e2 := (IH y (by simp) d (by simp only [ndsSize] at hM; omega)).2.2 ky
            have e3 := (IH z (by simp) d (by simp only [ndsSize] at hM; omega)).2.2 kz
            have q1 : pcsN d x = pcsX x := pcsN_x ha
            have q2 : pcsN d y = pS 123 :: .b 10 :: (bodP (d + 1) y ++ (tabsP d ++ [pS 125])) := pcsN_b ky
            have q3 : pcsN d z = pS 123 :: .b 10 :: (bodP (d + 1) z ++ (tabsP d ++ [pS 125])) := pcsN_b kz
            simp only [ndsSize] at hM ⊢
            simp [pcsN, partsP, pcsNs, pcsB_app, pcsB, pcB, tab_is, tab_len, q1, q2, q3]
            omega
        · obtain ⟨x, y, rfl, rfl, ky⟩ := two_kids hq
          have e1 := (IH x (by simp) d (by simp only [ndsSize] at hM; omega)).1 ha
          have e2 := (IH y (by simp) d (by simp only [ndsSize] at hM; omega)).2.2 ky
          have q1 : pcsN d x = pcsX x := pcsN_x ha
          have q2 : pcsN d y = pS 123 :: .b 10 :: (bodP (d + 1) y ++ (tabsP d ++ [pS 125])) := pcsN_b ky
          simp only [ndsSize] at hM ⊢
          simp [pcsN, partsP, pcsNs, pcsB_app, pcsB, pcB, tab_is, tab_len, q1, q2]
          omega
        · obtain ⟨x, rfl, rfl⟩ := one_kid hq
          have e1 := (IH x (by simp) d (by simp only [ndsSize] at hM; omega)).1 ha
          have q1 : pcsN d x = pcsX x := pcsN_x ha
          simp only [ndsSize] at hM ⊢
          simp [pcsN, partsP, pcsNs, pcsB_app, pcsB, pcB, tab_is, tab_len, q1]
          omega
        · have ht2 := ht.2.1
          obtain rfl : ks = [] := by simpa using hq
          rcases hk2 with rfl | rfl
          · simp [pcsN, partsP, pcsB_app, pcsB, pcB, tab_is, tab_len]
            omega
          · simp [pcsN, partsP, pcsB_app, pcsB, pcB, tab_is, tab_len]
            omega
        · simp [pcsN, partsP, pcsB_app, pcsB, pcB, tab_is, tab_len]
          omega
      · obtain rfl : k = 5 := h5
        have hq : ∀ y, y ∈ ks → 6 ≤ kindN y ∧ kindN y ≤ 14 := by
          rcases hs with h | h | h | h | h | h | h | h | h
          · exact fun y hy => h.2.2 _ (List.mem_map_of_mem hy)
          all_goals omega
        have := len_flat (d := d + 1) ks fun y hy => (IH y hy (d + 1) (by have := size_mem hy; omega)).2.1 (hq y hy)
        rw [bodP, pcsNs_is]
        omega
/-- The document prints every statement, and every block. -/
theorem rstmt9_any {rows : List Row} : ∀ N x d, ndSize x ≤ N → N ≤ 700 → d + ndSize x ≤ 2000 → WfN x → (6 ≤ kindN x ∧ kindN x ≤ 14 → PrS rows d x) ∧ (kindN x = 5 → PrB rows (d + 1) x)
  | 0, x, _, hN, _, _, _ => by have := size_pos x; omega
  | N + 1, .mk k n p t ks, d, hN, h7, hM, hw => by
    have hL := len_n _ _ d (Nat.le_refl _) hM hw
    unfold WfN at hw
    by_cases hk : 15 ≤ k
    · refine ⟨fun h => ?_, fun h => ?_⟩
      · have : k ≤ 14 := h.2
        omega
      · have : k = 5 := h
        omega
    · rw [if_neg hk] at hw
      obtain ⟨rfl, hs, hks⟩ := hw
      have hsz : ndSize (.mk k 0 p t ks) = ndsSize ks + 1 := by rw [ndSize]
      rw [hsz] at hN hM hL
      have IX : ∀ y, y ∈ ks → 15 ≤ kindN y → PrX rows y ∧ (pcsB (pcsX y)).length ≤ 5000000 := fun y hy h => by
        have hs1 := size_mem hy
        have hwy := wfNs_mem hks hy
        refine ⟨rexpr_any _ y (Nat.le_refl _) (by omega) (wfn_x hwy h), ?_⟩
        have := (len_n _ y d (Nat.le_refl _) (by omega) hwy).1 h
        omega
      have IB : ∀ y, y ∈ ks → kindN y = 5 → PrB rows (d + 1) y ∧ (pcsB (bodP (d + 1) y)).length ≤ 5000000 := fun y hy h => by
        have hs1 := size_mem hy
        have hwy := wfNs_mem hks hy
        refine ⟨(rstmt9_any N y d (by omega) (by omega) (by omega) hwy).2 h, ?_⟩
        have := (len_n _ y d (Nat.le_refl _) (by omega) hwy).2.2 h
        omega
      have hd : d ≤ 10000 := by omega
      refine ⟨fun h6 => ?_, fun h5 => ?_⟩
      · have h6' : 6 ≤ k ∧ k ≤ 14 := h6
        rcases hs with h | ⟨rfl, ht, a, hq, ha⟩ | ⟨rfl, ht, a, hq, ha⟩ | ⟨rfl, ht, b, c, hq, hb, hc⟩ | ⟨rfl, rfl, a, ha, hq⟩ | ⟨rfl, rfl, a, ha, hq⟩ | ⟨rfl, rfl, a, hq, ha⟩ | ⟨hk2, ht, hq⟩ | ⟨rfl, rfl, hq⟩
        · omega
        · obtain ⟨x, rfl, rfl⟩ := one_kid hq
          exact rstmt9_local hd ht.2.1 (IX x (by simp) ha).1 (IX x (by simp) ha).2 ha
        · obtain ⟨x, rfl, rfl⟩ := one_kid hq
          exact rstmt9_assign hd ht.2.1 (IX x (by simp) ha).1 (IX x (by simp) ha).2 ha
        · obtain ⟨x, y, z, rfl, kx, rfl, rfl⟩ := three_kids hq
          have hx : 15 ≤ kindN x := by omega
          exact rstmt9_cas hd ht.2.1 (IX x (by simp) hx).1 (IX x (by simp) hx).2 (IX y (by simp) hb).1 (IX y (by simp) hb).2 (IX z (by simp) hc).1 (IX z (by simp) hc).2 hx hb hc
        · rcases hq with hq | hq
          · obtain ⟨x, y, rfl, rfl, ky⟩ := two_kids hq
            exact rstmt9_if hd (IX x (by simp) ha).1 (IX x (by simp) ha).2 (IB y (by simp) ky).1 (IB y (by simp) ky).2 ha ky
          · obtain ⟨x, y, z, rfl, rfl, ky, kz⟩ := three_kids hq
            exact rstmt9_else hd (IX x (by simp) ha).1 (IX x (by simp) ha).2 (IB y (by simp) ky).1 (IB y (by simp) ky).2 (IB z (by simp) kz).1 (IB z (by simp) kz).2 ha ky kz
        · obtain ⟨x, y, rfl, rfl, ky⟩ := two_kids hq
          exact rstmt9_while hd (IX x (by simp) ha).1 (IX x (by simp) ha).2 (IB y (by simp) ky).1 (IB y (by simp) ky).2 ha ky
        · obtain ⟨x, rfl, rfl⟩ := one_kid hq
          exact rstmt9_print hd (IX x (by simp) ha).1 (IX x (by simp) ha).2 ha
        · obtain rfl : ks = [] := by simpa using hq
          rcases hk2 with rfl | rfl
          · exact rstmt9_take hd ht.2.1
          · exact rstmt9_give hd ht.2.1
        · obtain rfl : ks = [] := by simpa using hq
          exact rstmt9_fence hd
      · obtain rfl : k = 5 := h5
        have ht : t = [] ∧ ∀ y, y ∈ ks → 6 ≤ kindN y ∧ kindN y ≤ 14 := by
          rcases hs with h | h | h | h | h | h | h | h | h
          · exact ⟨h.2.1, fun y hy => h.2.2 _ (List.mem_map_of_mem hy)⟩
          all_goals omega
        obtain ⟨rfl, hq⟩ := ht
        refine rblock9_any (fun y hy => (rstmt9_any N y (d + 1) (by have := size_mem hy; omega) (by omega) (by have := size_mem hy; omega) (wfNs_mem hks hy)).1 (hq y hy)) ?_ ?_
        · have := hL.2.2 rfl
          omega
        · have := nds_len ks
          omega
end

section
open Go.RowKit

/-- A global, a lock, a thread, as it is printed. -/
theorem glob_txt {x : Nd} (h : WfG x ∨ WfT x) : (∃ p t, x = .mk 2 0 p t [] ∧ NameOk t ∧ pcsB (pcsG x) = [105, 110, 116, 32] ++ t ++ [59, 10]) ∨ (∃ n p t, x = .mk 2 n p t [] ∧ n ≠ 0 ∧ n.natAbs ≤ 999999999 ∧ NameOk t ∧ pcsB (pcsG x) = [105, 110, 116, 32] ++ t ++ [32, 61, 32] ++ Lib.itoa n ++ [59, 10]) ∨ (∃ p t, x = .mk 3 0 p t [] ∧ NameOk t ∧ pcsB (pcsG x) = [108, 111, 99, 107, 32] ++ t ++ [59, 10]) ∨ (∃ p b, x = .mk 4 0 p [] [b] ∧ WfN b ∧ kindN b = 5 ∧ pcsB (pcsG x) = [116, 104, 114, 101, 97, 100, 32, 123, 10] ++ pcsB (bodP 1 b) ++ [125, 10]) := by
  match x, h with
  | .mk k n p t ks, h =>
    rcases h with h | h
    · unfold WfG at h
      rcases h with ⟨rfl, ht, hn, rfl⟩ | ⟨rfl, rfl, ht, rfl⟩
      · by_cases h0 : n = 0
        · subst h0
          refine Or.inl ⟨p, t, rfl, ht, ?_⟩
          simp [pcsG, pcsB, pcB]
        · refine Or.inr (Or.inl ⟨n, p, t, rfl, h0, hn, ht, ?_⟩)
          unfold Lib.itoa
          by_cases hneg : n < 0
          · simp [pcsG, pcsB, pcB, h0, hneg]
          · have hna : n.natAbs = n.toNat := by omega
            simp [pcsG, pcsB, pcB, h0, hneg, hna]
      · refine Or.inr (Or.inr (Or.inl ⟨p, t, rfl, ht, ?_⟩))
        simp [pcsG, pcsB, pcB]
    · unfold WfT at h
      obtain ⟨rfl, rfl, rfl, b, rfl, hb, h5, _⟩ := h
      refine Or.inr (Or.inr (Or.inr ⟨p, b, rfl, hb, h5, ?_⟩))
      have q : pcsN 0 b = pS 123 :: .b 10 :: (bodP 1 b ++ (tabsP 0 ++ [pS 125])) := pcsN_b h5
      simp [pcsG, pcsNs, pcsB_app, pcsB, pcB, q, tab_is, tabB]
theorem glob_len {x : Nd} (h : WfG x ∨ WfT x) (hs : ndSize x ≤ 700) : (pcsB (pcsG x)).length ≤ 7000 * ndSize x := by
  have hp := size_pos x
  rcases glob_txt h with ⟨p, t, rfl, ht, he⟩ | ⟨n, p, t, rfl, h0, hn, ht, he⟩ | ⟨p, t, rfl, ht, he⟩ | ⟨p, b, rfl, hb, h5, he⟩
  · rw [he]
    have := ht.2.1
    simp only [List.length_append, List.length_cons, List.length_nil]
    omega
  · rw [he]
    have := ht.2.1
    have := Lib.itoa_length_le n (by omega) (by omega)
    simp only [List.length_append, List.length_cons, List.length_nil]
    omega
  · rw [he]
    have := ht.2.1
    simp only [List.length_append, List.length_cons, List.length_nil]
    omega
  · rw [he]
    simp only [ndSize, ndsSize] at hs ⊢
    have := (len_n _ b 0 (Nat.le_refl _) (by omega) hb).2.2 h5
    simp only [List.length_append, List.length_cons, List.length_nil]
    rw [Nat.zero_add] at this
    omega
theorem prog_len : ∀ ks : List Nd, (∀ x, x ∈ ks → WfG x ∨ WfT x) → ndsSize ks ≤ 700 → (pcsB (pcsP ks)).length ≤ 7000 * ndsSize ks
  | [], _, _ => by simp [pcsP, pcsB]
  | x :: r, h, hs => by
    rw [ndsSize] at hs ⊢
    have h1 := glob_len (h x (List.mem_cons_self ..)) (by omega)
    have h2 := prog_len r (fun y hy => h y (List.mem_cons_of_mem _ hy)) (by omega)
    unfold pcsP at h2 ⊢
    rw [List.map_cons, List.flatten_cons, pcsB_len_app]
    omega
theorem wfp_mem {ks : List Nd} (h : WfP ks) : ∀ x, x ∈ ks → WfG x ∨ WfT x := by
  obtain ⟨gs, ts, rfl, h1, h2⟩ := h
  intro x hx
  rcases List.mem_append.1 hx with hx | hx
  · exact Or.inl (h1 x hx)
  · exact Or.inr (h2 x hx)
set_option maxRecDepth 100000 in
set_option maxHeartbeats 3200000 in
theorem rprint_any {ks : List Nd} (hw : WfP ks) (hsz : ndsSize ks + 1 ≤ 600) (a : Option Addr) (c : Nat) (w : World) (hr : NdsR w a (rowsP ks)) :
    Calls Tryz.prog 11 #[.slice a (rowsP ks).length c] w fun e w' => e = .returned (.string ⟨⟨pcsB (pcsP ks)⟩⟩) ∧ Below w.heap.size w w' := by
  have hn : (rowsP ks).length = ndsSize ks + 1 := by unfold rowsP; rw [List.length_append, flats_len]; rfl
  have hts := prog_at ks
  have hgs := wfp_mem hw
  have hlen := prog_len ks hgs (by omega)
  have hil := ts_len hts
  have hkl := nds_len ks
  obtain ⟨g, ka, kc, rfl, hnd⟩ := hr.get (ndsSize ks) (by omega)
  have hlast : (rowsP ks).getD (ndsSize ks) row0 = ⟨1, 0, 0, [], idxs 0 ks⟩ := by
    rw [List.getD_eq_getElem?_getD]
    unfold rowsP
    rw [List.getElem?_append_right (by rw [flats_len]; exact Nat.le_refl _), flats_len, Nat.sub_self]
    rfl
  rw [hlast] at hnd
  have x4 := hnd.ks
  simp only at x4
  rw [hil] at x4
  have HKI : Hid (∀ W, Below w.heap.size w W → IIn W ka (idxs 0 ks).length (fun j => (idxs 0 ks).getD j 0)) := fun W hW => IIn.below hnd.kin hW
  have HNR : Hid (∀ W, Below w.heap.size w W → NdsR W (some ⟨g, 0, none⟩) (rowsP ks)) := fun W hW => hr.below hW
  have HTS := Hid.out (p := Hid _) hts
  have HGS := Hid.out (p := Hid _) hgs
  have HL : Hid (∀ j, (pcsB ((ks.map pcsG).take j).flatten).length ≤ 5000000) := fun j => Nat.le_trans (pcsB_take _ j) (by unfold pcsP at hlen; omega)
  have HB1 : Hid (∀ b, WfN b → kindN b = 5 → ndSize b ≤ 700 → PrB (rowsP ks) 1 b ∧ (pcsB (bodP 1 b)).length ≤ 5000000) := fun b hb h5 hs => by
    refine ⟨(rstmt9_any _ b 0 (Nat.le_refl _) (by omega) (by omega) hb).2 h5, ?_⟩
    have := (len_n _ b 0 (Nat.le_refl _) (by omega) hb).2.2 h5
    rw [Nat.zero_add] at this
    omega
  obtain ⟨m, hm⟩ : ∃ m, m = ks.length := ⟨_, rfl⟩
  rw [← hm] at x4 hkl hil
  obtain ⟨n, hnn⟩ : ∃ n, n = (rowsP ks).length := ⟨_, rfl⟩
  rw [← hnn] at hn ⊢
  have HNN := Hid.out (p := Hid _) hnn
  have hm6 : m ≤ 600 := by omega
  have hn6 : n ≤ 600 ∧ 1 ≤ n := by omega
  have hnl : ndsSize ks = n - 1 := by omega
  rw [hnl] at x4
  have HM := Hid.out (p := Hid _) hm
  have HIL := Hid.out (p := Hid _) hil
  have hsz2 : ndsSize ks ≤ 599 := by omega
  have HSZ := Hid.out (p := Hid _) hsz2
  clear hr hnd hlast hts hgs hlen hw hnn hm hil hsz2 hsz hn hkl
  have hc1 : ((n : Int) - 1) = ((n - 1 : Nat) : Int) := by omega
  go_enter Tryz.func11, Tryz.ntmps11
  go_wp2_with fail
  go_loopw [3, 5] (fun s i wr => ∃ (j : Nat) (l : ByteArray), j ≤ m ∧ s = .string l ∧ i = .int .i64 j ∧ Below w.heap.size w wr ∧ Hid (l.data.toList = pcsB ((ks.map pcsG).take j).flatten)) (fun _ i _ => m - (intOf i).toNat)
  case atStart => exact ⟨0, ⟨#[]⟩, Nat.zero_le _, rfl, rfl, Below.refl _ _, (rfl : ([] : List UInt8) = _)⟩
  case round =>
    obtain ⟨j, l, hj, rfl, rfl, hbr, HI⟩ := hrel
    have hls : l.size ≤ 5000000 := by rw [Lib.size_eq, HI.out]; exact HL.out j
    clear x4 hc1 hnl
    by_cases hlt : j < m
    · obtain ⟨y, hy⟩ : ∃ y, ks[j]? = some y := ⟨_, List.getElem?_eq_getElem (by have := HM.out; omega)⟩
      obtain ⟨i1, h1, ht⟩ := ts_get HTS.out hy
      obtain ⟨kb, ko, rfl, y0, -⟩ := kid_cell (HKI.out _ hbr) j _ h1
      have hlt' : (j : Int) < (m : Int) := by omega
      have hnx : pcsB ((ks.map pcsG).take (j + 1)).flatten = pcsB ((ks.map pcsG).take j).flatten ++ pcsB (pcsG y) := by
        rw [List.take_add_one, List.getElem?_map, hy]
        exact pcsB_flat _ _
      have HNX := Hid.out (p := Hid _) hnx
      have hym := List.mem_of_getElem? hy
      have hys : ndSize y ≤ ndsSize ks := size_mem hym
      have hkbl := lt_of_cell y0
      clear hnx hy h1
      rcases glob_txt (HGS.out y hym) with ⟨p, t, rfl, hto, he⟩ | ⟨q, p, t, rfl, h0, hq, hto, he⟩ | ⟨p, t, rfl, hto, he⟩ | ⟨p, b, rfl, hb, h5, he⟩
      · obtain ⟨hi, is, g', ka', kc', hge, hnd, hts⟩ := ht.node (HNR.out _ hbr)
        simp only [Option.some.injEq, Addr.mk.injEq, and_true] at hge
        obtain rfl := hge.symm
        have x0 := hnd.k
        have x1 := hnd.n
        have x2 := hnd.p
        have x3 := hnd.t
        have x4 := hnd.ks
        simp only at x0 x1 x2 x3 x4
        rw [← HNN.out] at hi
        have hi' : (i1 : Int) < (n : Int) := by omega
        obtain ⟨T, hT⟩ : ∃ S : ByteArray, S = ⟨⟨t⟩⟩ := ⟨_, rfl⟩
        have hTl : T.size ≤ 12 := by rw [hT, Lib.size_eq]; exact hto.2.1
        rw [← hT] at x3
        have HT : Hid (T.data.toList = t) := by show _ = _; rw [hT]
        have HE := Hid.out (p := Hid _) he
        clear hT he hto hnd hts ht
        go_wp2_with fail
        go_roundw
        case rel =>
          refine ⟨j + 1, _, by omega, rfl, by go_num, ((hbr.alloc (hbr.size) _)), ?_⟩
          show _ = _
          rw [HNX.out, HE.out]
          simp only [app_list, HI.out, HT.out]
          simp
        case measure => simp [intOf]; omega
      · obtain ⟨hi, is, g', ka', kc', hge, hnd, hts⟩ := ht.node (HNR.out _ hbr)
        simp only [Option.some.injEq, Addr.mk.injEq, and_true] at hge
        obtain rfl := hge.symm
        have x0 := hnd.k
        have x1 := hnd.n
        have x2 := hnd.p
        have x3 := hnd.t
        have x4 := hnd.ks
        simp only at x0 x1 x2 x3 x4
        rw [← HNN.out] at hi
        have hi' : (i1 : Int) < (n : Int) := by omega
        obtain ⟨T, hT⟩ : ∃ S : ByteArray, S = ⟨⟨t⟩⟩ := ⟨_, rfl⟩
        have hTl : T.size ≤ 12 := by rw [hT, Lib.size_eq]; exact hto.2.1
        rw [← hT] at x3
        have HT : Hid (T.data.toList = t) := by show _ = _; rw [hT]
        have HE := Hid.out (p := Hid _) he
        clear hT he hto hnd hts ht
        have HD : Hid (∀ W, Calls Tryz.prog 26 #[.int .i64 q] W fun e w' => e = .returned (.string ⟨⟨Lib.itoa q⟩⟩) ∧ Below W.heap.size W w') := fun W => (digits_any q ⟨by omega, by omega⟩ W).mono (fun e w' h => ⟨h.1, h.2⟩)
        have hDl := Lib.itoa_length_le q (by omega) (by omega)
        obtain ⟨D, hD⟩ : ∃ S : ByteArray, S = ⟨⟨Lib.itoa q⟩⟩ := ⟨_, rfl⟩
        have hDl2 : D.size ≤ 30 := by rw [hD, Lib.size_eq]; show (Lib.itoa q).length ≤ _; omega
        rw [← hD] at HD
        have HDD : Hid (D.data.toList = Lib.itoa q) := by show _ = _; rw [hD]
        have h0' : (q == 0) = false := by simpa using h0
        clear hD hDl hq h0
        go_wp2_with fail
        refine Calls.mono (HD.out _) ?_
        rintro e w1 ⟨rfl, hb1⟩
        have hA := (Below.refl wr.heap.size wr).alloc (Nat.le_refl _) (.cells #[.int .i64 2, .int .i64 q, .int .i64 p, .string T, .slice ka' is.length kc'] 53)
        have hx1 := (hb1.block wr.heap.size (by simp)).trans (heap_alloc_new wr _)
        obtain ⟨e0, e1, e2, e3, e4, ef⟩ := box5 hx1
        have HB2 : Hid (Below w.heap.size w w1) := hbr.trans ((hA.trans (hb1.mono (by simp))).mono hbr.size)
        clear hA hx1 hb1 x0 x1 x2 x3 x4 y0 hkbl
        go_wp2_with fail
        go_roundw
        case rel =>
          refine ⟨j + 1, _, by omega, rfl, by go_num, HB2.out, ?_⟩
          show _ = _
          rw [HNX.out, HE.out]
          simp only [app_list, HI.out, HT.out, HDD.out]
          simp
        case measure => simp [intOf]; omega
      · obtain ⟨hi, is, g', ka', kc', hge, hnd, hts⟩ := ht.node (HNR.out _ hbr)
        simp only [Option.some.injEq, Addr.mk.injEq, and_true] at hge
        obtain rfl := hge.symm
        have x0 := hnd.k
        have x1 := hnd.n
        have x2 := hnd.p
        have x3 := hnd.t
        have x4 := hnd.ks
        simp only at x0 x1 x2 x3 x4
        rw [← HNN.out] at hi
        have hi' : (i1 : Int) < (n : Int) := by omega
        obtain ⟨T, hT⟩ : ∃ S : ByteArray, S = ⟨⟨t⟩⟩ := ⟨_, rfl⟩
        have hTl : T.size ≤ 12 := by rw [hT, Lib.size_eq]; exact hto.2.1
        rw [← hT] at x3
        have HT : Hid (T.data.toList = t) := by show _ = _; rw [hT]
        have HE := Hid.out (p := Hid _) he
        clear hT he hto hnd hts ht
        go_wp2_with fail
        go_roundw
        case rel =>
          refine ⟨j + 1, _, by omega, rfl, by go_num, ((hbr.alloc (hbr.size) _)), ?_⟩
          show _ = _
          rw [HNX.out, HE.out]
          simp only [app_list, HI.out, HT.out]
          simp
        case measure => simp [intOf]; omega
      · obtain ⟨hi, is, g', ka', kc', hge, hnd, hts⟩ := ht.node (HNR.out _ hbr)
        simp only [Option.some.injEq, Addr.mk.injEq, and_true] at hge
        obtain rfl := hge.symm
        have x0 := hnd.k
        have x1 := hnd.n
        have x2 := hnd.p
        have x3 := hnd.t
        have x4 := hnd.ks
        simp only at x0 x1 x2 x3 x4
        rw [← HNN.out] at hi
        have hi' : (i1 : Int) < (n : Int) := by omega
        obtain ⟨i2, rfl, ht2⟩ := ts_one hts
        obtain ⟨kb2, ko2, rfl, z0, -⟩ := kid_cell hnd.kin 0 _ rfl
        simp only [List.length_cons, List.length_nil, Nat.zero_add, Nat.add_zero] at x4 z0
        have z0u := fun o => cell_up z0 o
        have hbs : ndSize b ≤ 700 := by have := HSZ.out; simp only [ndSize, ndsSize] at hys; omega
        obtain ⟨hpb, hbl⟩ := HB1.out b hb h5 hbs
        obtain ⟨S, hS⟩ : ∃ S : ByteArray, S = ⟨⟨pcsB (bodP 1 b)⟩⟩ := ⟨_, rfl⟩
        have hSl : S.size ≤ 5000000 := by rw [hS, Lib.size_eq]; exact hbl
        have HS : Hid (S.data.toList = pcsB (bodP 1 b)) := by show _ = _; rw [hS]
        have HE := Hid.out (p := Hid _) he
        have HX : Hid (∀ W, Below w.heap.size w W → Calls Tryz.prog 27 #[.slice (some ⟨g', 0, none⟩) n c, .int .i64 (i2 : Int), .int .i64 1] W fun e w' => e = .returned (.string S) ∧ Below W.heap.size W w') := fun W hW => by
          rw [hS, HNN.out]
          exact hpb _ c i2 W ht2 (HNR.out W hW)
        clear hS he hnd hts ht ht2 hpb hbl hb h5
        go_wp2_with fail
        refine Calls.mono (HX.out _ (hbr.alloc hbr.size _)) ?_
        rintro e w1 ⟨rfl, hb1⟩
        have HB2 : Hid (Below w.heap.size w w1) := (hbr.alloc hbr.size _).trans (hb1.mono (by have := hbr.size; simp; omega))
        clear hb1 x0 x1 x2 x3 x4 y0 z0 z0u hkbl
        go_wp2_with fail
        go_roundw
        case rel =>
          refine ⟨j + 1, _, by omega, rfl, by go_num, HB2.out, ?_⟩
          show _ = _
          rw [HNX.out, HE.out]
          simp only [app_list, HI.out, HS.out]
          simp
        case measure => simp [intOf]; omega
    · obtain rfl : j = m := by omega
      go_wp2_with fail
      go_ret
      refine ⟨ret_str9 ?_, hbr⟩
      have h1 : ks.length = (ks.map pcsG).length := by rw [List.length_map]
      rw [HI.out, HM.out, h1, List.take_length]
      rfl
end

end Go.Proofs.YtclnjhffcfkihaeGreatDoor
