/-
  The program's checker: faults, names, counts.
  The document's node: a block.
-/
import Derived.Test.YtclnjhffcfkihaeGreatDoorChkD5
import Derived.StillTailTactics
namespace Go.Proofs.YtclnjhffcfkihaeGreatDoor
section
open Go.RowKit

/-- What a call leaves. -/
def PQ (w0 : World) (a : Option Addr) (c : Nat) (rows : List Row) (P L : Nat) (R : CRes) (e : Ending) (w' : World) : Prop := match R with
  | .ok s' => e = .returned (.tuple #[]) ∧ ∃ v' ms' cm', CPs w0 w' a c rows P v' ms' cm' s'
  | .error f => e = .panicked (badF f) ∧ CPw w0 w' P L
/-- Names are short. -/
def TxtOk (rows : List Row) : Prop := ∀ i, (rowA rows i).text.length ≤ 1000
theorem key_txt {t : List UInt8} (h : t.length ≤ 1000) : keyOf Tryz.prog 9 (.string ⟨⟨t⟩⟩) = some (.string t) := by
  have := Go.WideMaps.keyOf_string_mk (P := Tryz.prog) (k := 9) Tryz.underlying9 (s := ⟨⟨t⟩⟩) (by rw [Lib.size_eq]; show t.length ≤ maxLen; unfold maxLen; omega)
  simpa using this
theorem CPw.below {w0 w w' : World} {P L : Nat} (h : CPw w0 w P L) (hb : Below w.heap.size w w') : CPw w0 w' P L := by
  obtain ⟨⟨x0, x1, x3, sa, cap, h1, h2⟩, h3, h4⟩ := h
  exact ⟨⟨x0, x1, x3, sa, cap, (hb.block P (heap_ltD h1)).trans h1, h2⟩, h3, h4.trans (hb.mono h4.size)⟩
theorem wf_nat9 {n : Nat} (h : n ≤ 1000000) : (Lit.int .i64 (n : Int)).wf = true := by
  have h1 : -9223372036854775808 ≤ (n : Int) ∧ (n : Int) ≤ 9223372036854775807 := ⟨by omega, by omega⟩
  have e : IntKind.i64.min = -9223372036854775808 := rfl
  simpa [Lit.wf, e] using h1
theorem zeroIntC (w : World) : (zeroValue 3).run Tryz.prog w = .ok (.int .i64 0) w := by kernel_rfl
section
variable {w0 w : World} {a : Option Addr} {c : Nat} {rows : List Row} {P : Nat} {v : Rk → Value} {ms : List Nat} {cm : Nat} {s : Cs}
set_option maxRecDepth 100000 in
set_option maxHeartbeats 800000 in
theorem cfault_any (h : CPs w0 w a c rows P v ms cm s) {i : Nat} (hi : i < rows.length) (code : Int) :
    Calls Tryz.prog 77 #[.pointer (some ⟨P, 0, none⟩), .int .i64 code, .int .i64 (i : Int)] w fun e w' => e = .returned (.agg #[.int .i64 code, .int .i64 0, .int .i64 (rowA rows i).pos]) ∧ Below w.heap.size w w' := by
  obtain ⟨g, ka, kc, rfl, hn⟩ := h.node hi
  have x2 := hn.p
  have c0 := h.c0
  have x2u := fun o => cell_up x2 o
  have c0u := fun o => cell_up c0 o
  have hi' : (i : Int) < (rows.length : Int) := by omega
  obtain ⟨p, hp⟩ : ∃ p, (rowA rows i).pos = p := ⟨_, rfl⟩
  rw [hp] at x2 x2u ⊢
  clear h hn hp
  go_enter Tryz.func77, Tryz.ntmps77
  go_wp2_with fail
  refine bodyPost_ret (v := .agg #[.int .i64 code, .int .i64 0, .int .i64 p]) (by simp [results, Tryz.results77, go_sem]) rfl ⟨rfl, ?_⟩
  exact (Below.refl _ _).alloc (Nat.le_refl _) _
/-- The scope that is the innermost. -/
theorem CPs.last (h : CPs w0 w a c rows P v ms cm s) (hne : s.sc ≠ []) : ∃ S r b mr sb cap, s.sc = S :: r ∧ ms = b :: mr ∧ v .sc = .slice (some ⟨sb, 0, none⟩) ms.length cap ∧ w.cell? ⟨sb, ms.length - 1, none⟩ = some (.map (some b)) ∧ mapS w rows S b := by
  have hs := sc_cons hne
  have hm : ms ≠ [] := fun e => by
    have := h.len
    rw [e, hs] at this
    simp at this
  obtain ⟨b, mr, rfl⟩ : ∃ b mr, ms = b :: mr := by
    cases ms with
    | nil => exact absurd rfl hm
    | cons b mr => exact ⟨b, mr, rfl⟩
  obtain ⟨sb, cap, hv, hb, -, -⟩ := fam_block (h.fam.own .sc) (by show 0 < (b :: mr).length; simp)
  refine ⟨_, _, b, mr, sb, cap, hs, rfl, hv, h.fam.cell hb ?_, h.maps 0 _ b (by rw [hs]; rfl) rfl⟩
  show (mV (b :: mr))[(b :: mr).length - 1]? = _
  unfold mV
  simp
set_option maxRecDepth 100000 in
set_option maxHeartbeats 3200000 in
theorem cname_any (h : CPs w0 w a c rows P v ms cm s) (hne : s.sc ≠ []) (ht : TxtOk rows) {i : Nat} (hi : i < rows.length) (hlen : ms.length ≤ 100000) (hsl : (s.sc.headD []).length ≤ 100000) (hrl : rows.length ≤ 100000) :
    Calls Tryz.prog 126 #[.pointer (some ⟨P, 0, none⟩), .int .i64 (i : Int)] w fun e w' => PQ w0 a c rows P s.sc.length (putC rows i s) e w' ∧ KpC w w' := by
  obtain ⟨S, r, b, mr, sb, cap, hs, hms, hsv, y2, ⟨n, D, hn, hown, hhas, hat⟩⟩ := h.last hne
  have hkey := key_txt (ht i)
  obtain ⟨g, ka, kc, rfl, hnd⟩ := h.node hi
  have x3 := hnd.t
  have c0 := h.c0
  have c2 := h.c2
  rw [hsv] at c2
  obtain ⟨m, hm⟩ : ∃ m, m = ms.length := ⟨_, rfl⟩
  rw [← hm] at c2 y2 hlen
  have hm1 : 1 ≤ m := by rw [hm, hms]; simp
  have hc1 : ((m : Int) - 1) = ((m - 1 : Nat) : Int) := by omega
  obtain ⟨T, hT⟩ : ∃ T : ByteArray, T = ⟨⟨(rowA rows i).text⟩⟩ := ⟨_, rfl⟩
  rw [← hT] at hkey x3
  have hi' : (i : Int) < (rows.length : Int) := by omega
  have hSl : n ≤ 100000 := by rw [hs] at hsl; exact Nat.le_trans hn hsl
  have htw : Maps.has D (.string (rowA rows i).text) = twiceC rows s i := by
    have h1 := hhas (rowA rows i).text
    unfold twiceC
    rw [hs]
    simp only [List.headD_cons]
    cases hb : S.any fun d => decide ((rowA rows d).text = (rowA rows i).text) with
    | true =>
      rw [List.any_eq_true] at hb
      obtain ⟨d, hd, he⟩ := hb
      exact h1.2 ⟨d, hd, by simpa using he⟩
    | false =>
      cases hb2 : Maps.has D (.string (rowA rows i).text) with
      | false => rfl
      | true =>
        obtain ⟨d, hd, he⟩ := h1.1 hb2
        have := List.any_eq_false.1 hb d hd
        simp [he] at this
  have HFL : Hid (∀ q, Calls Tryz.prog 77 #[.pointer (some ⟨P, 0, none⟩), .int .i64 8, .int .i64 (i : Int)] (w.drewN q) fun e w' => e = .returned (.agg #[.int .i64 8, .int .i64 0, .int .i64 (rowA rows i).pos]) ∧ Below (w.drewN q).heap.size (w.drewN q) w') := fun q => cfault_any (h.below (below_drewN (Below.refl _ _))) hi 8
  have HO : Hid (∀ q, (w.drewN q).ownsMap Tryz.prog 9 (plainElem (H := Unit) Tryz.prog 3) b n D) := fun q => ownsMap_keep hown rfl
  obtain ⟨Hb, hHb⟩ : ∃ x, Maps.has D (.string (rowA rows i).text) = x := ⟨_, rfl⟩
  rw [hHb] at htw
  have HTW := Hid.out (p := Hid _) htw
  have HHB := Hid.out (p := Hid _) hHb
  have HD : Hid (∀ q, CPs w0 (w.drewN q) (some ⟨g, 0, none⟩) c rows P v ms cm s ∧ KpC w (w.drewN q)) := fun q => ⟨h.below (below_drewN (Below.refl _ _)), KpC.of_below (below_drewN (Below.refl _ _))⟩
  have HPU : Hid (Hb = false → ∀ q w', w'.ownsMap Tryz.prog 9 (plainElem (H := Unit) Tryz.prog 3) b (n + 1) (D.put (.string (rowA rows i).text) (.lit (.int .i64 (i : Int)))) → (w.drewN q).grownBy w' (some b) → CPs w0 w' (some ⟨g, 0, none⟩) c rows P v ms cm (pushC s i) ∧ KpC w w') := fun hb q w' ho hg => by
    have hq := h.below (below_drewN (k := q) (Below.refl w.heap.size w))
    have hmem : b ∈ cm :: ms := by rw [hms]; simp
    obtain ⟨f1, f2, f3, f4⟩ := hq.famMap hmem hg
    have hnod := h.nod
    refine ⟨⟨?_, h.box, f2, h.nds, ?_, fun j S' b' h1 h2 => ?_, ?_, h.ge, hnod⟩, (KpC.of_below (below_drewN (Below.refl _ _))).trans f3⟩
    · refine f1.same (fun r => ?_) (fun r => ?_) <;> cases r <;> rfl
    · rw [h.len, hs]; simp [pushC, hs]
    · cases j with
      | zero =>
        have e1 : S' = i :: S := by
          have : (pushC s i).sc = (i :: S) :: r := by simp [pushC, hs]
          rw [this] at h1
          simpa using h1.symm
        have e2 : b' = b := by rw [hms] at h2; simpa using h2.symm
        subst e1 e2
        have hmp : Maps.IsMap D := hown.isMap
        have hkl : WideAt.IsKeyLit (.string (rowA rows i).text) := trivial
        refine ⟨n + 1, _, by simp; omega, ho, fun t => ?_, fun d hd => ?_⟩
        · by_cases htt : t = (rowA rows i).text
          · subst htt
            rw [Maps.has_put_same hmp hkl]
            simp only [true_iff]
            exact ⟨i, List.mem_cons_self .., rfl⟩
          · rw [Maps.has_put_other (fun e => htt (by simpa using e)), hhas t]
            constructor
            · rintro ⟨d, hd, he⟩
              exact ⟨d, List.mem_cons_of_mem _ hd, he⟩
            · rintro ⟨d, hd, he⟩
              rcases List.mem_cons.1 hd with rfl | hd
              · exact absurd he.symm htt
              · exact ⟨d, hd, he⟩
        · rcases List.mem_cons.1 hd with rfl | hd
          · rw [Maps.atKey_put_same hmp hkl]
          · have hdt : (rowA rows d).text ≠ (rowA rows i).text := fun he => by
              have : Maps.has D (.string (rowA rows i).text) = true := (hhas _).2 ⟨d, hd, he⟩
              rw [hHb, hb] at this
              cases this
            rw [Maps.atKey_put_other (fun e => hdt (by simpa using e))]
            exact hat d hd
      | succ j =>
        have e1 : s.sc[j + 1]? = some S' := by
          have : (pushC s i).sc = (i :: S) :: r := by simp [pushC, hs]
          rw [this] at h1
          rw [hs]
          simpa using h1
        refine (hq.maps (j + 1) S' b' e1 h2).keep (f4 b' (List.mem_cons_of_mem _ (List.mem_of_getElem? h2)) (fun e => ?_))
        rw [hms] at h2 hnod
        simp only [List.getElem?_cons_succ] at h2
        have := (List.nodup_cons.1 (List.nodup_cons.1 hnod).2).1
        exact this (by rw [← e]; exact List.mem_of_getElem? h2)
    · refine hq.cnt.keep (f4 cm (List.mem_cons_self ..) (fun e => ?_))
      rw [hms] at hnod
      have := (List.nodup_cons.1 hnod).1
      exact this (by rw [e]; exact List.mem_cons_self ..)
  have hval : plainElem (H := Unit) Tryz.prog 3 (.int .i64 (i : Int)) = some (.lit (.int .i64 (i : Int)), []) := plainElem_int Tryz.underlying3 (wf_nat9 (by omega))
  have HW := Hid.out (p := Hid _) h.weak
  have HVL := Hid.out (p := Hid _) hval
  have hnm : n < maxLen := by unfold maxLen; omega
  have HNM := Hid.out (p := Hid _) hnm
  clear h hs hms hsv hown hhas hat htw hHb hnd hi hT hm hsl hrl hval hnm hn
  cases Hb with
  | true =>
    go_enter Tryz.func126, Tryz.ntmps126
    go_wp2_with fail
    go_quiet (fail)
    clear c0 c2 y2 x3
    go_wp2_with (at_lookup; refine wpList_lookup_own_ok_int _ rfl _ _ 108 rfl 9 3 .i64 keyStr Tryz.underlying108 Tryz.underlying3 (zeroIntC _) b n D rfl (HO.out _) _ _ rfl hkey ?_; intro cx hatx hwx; rw [HHB.out]; clear hatx hwx)
    refine Calls.mono (HFL.out _) ?_
    rintro e w2 ⟨rfl, hb2⟩
    have HB2 := Hid.out (p := Hid _) hb2
    clear hb2
    go_wp2_with fail
    have hR : putC rows i s = .error (8, (rowA rows i).pos) := by unfold putC; rw [← HTW.out]; rfl
    rw [hR]
    exact ⟨rfl, ⟨rfl, (HW.out.below (below_drewN (Below.refl _ _))).below HB2.out⟩, (HD.out _).2.trans (KpC.of_below HB2.out)⟩
  | false =>
    have HPU2 := Hid.out (p := Hid _) (HPU.out rfl)
    clear HPU
    go_enter Tryz.func126, Tryz.ntmps126
    go_wp2_with fail
    go_quiet (fail)
    clear c0 c2 y2 x3
    go_wp2_with (first | (at_lookup; refine wpList_lookup_own_ok_int _ rfl _ _ 108 rfl 9 3 .i64 keyStr Tryz.underlying108 Tryz.underlying3 (zeroIntC _) b n D rfl (HO.out _) _ _ rfl hkey ?_; intro cx hatx hwx; rw [HHB.out]; clear hatx hwx) | (at_mapUpdate; refine wpList_mapUpdate_own _ rfl _ _ _ 108 rfl 9 3 keyStr Tryz.underlying108 _ b n D rfl (HO.out _) HNM.out _ _ _ rfl rfl hkey _ [] HVL.out ?_; intro w4 hm4 hg4; have HZ := Hid.out (p := Hid _) (HPU2.out _ _ hm4 hg4); clear hm4 hg4))
    go_end0
    have hR : putC rows i s = .ok (pushC s i) := by unfold putC; rw [← HTW.out]; rfl
    rw [hR]
    exact ⟨⟨rfl, _, _, _, HZ.out.1⟩, HZ.out.2⟩
end
end

section
open Go.RowKit

section
variable {rows : List Row}
/-- A kid's number, as it is read of a node's copy. -/
theorem kid_num {w0 : World} {ka : Option Addr} {ks : List Nd} {b : Nat} (hin : IIn w0 ka (idxs b ks).length (fun j => (idxs b ks).getD j 0)) {j : Nat} {y : Nd} (hy : ks[j]? = some y) : ∃ kb ko, ka = some ⟨kb, ko, none⟩ ∧ ∀ W, Below w0.heap.size w0 W → W.cell? ⟨kb, ko + j, none⟩ = some (.int .i64 ((b + ndsSize (ks.take j) + ndSize y - 1 : Nat) : Int)) := by
  have hx := idxs_get ks b j y hy
  have hl : j < (idxs b ks).length := by
    rcases Nat.lt_or_ge j (idxs b ks).length with h1 | h1
    · exact h1
    · rw [List.getElem?_eq_none h1] at hx; cases hx
  obtain ⟨kb, ko, e, hc⟩ := hin j hl
  simp only [List.getD_eq_getElem?_getD, hx, Option.getD_some] at hc
  exact ⟨kb, ko, e, fun W hW => (hW.cell (lt_of_cell hc)).trans hc⟩
attribute [local go_sem ↓] appS_eq
set_option maxRecDepth 100000 in
set_option maxHeartbeats 6400000 in
theorem rnode_block {n p : Int} {t : List UInt8} {ks : List Nd} {b : Nat} (hks : ∀ j y, ks[j]? = some y → NdC rows y (b + ndsSize (ks.take j))) : NdC rows (.mk 5 n p t ks) b := by
  intro w0 w a c P v s hf h hok hb1 hb2
  have hlt := hf.lt
  have hrow := hf.rowA
  rw [ndSize] at hb1 hb2 hlt ⊢
  rw [show b + (ndsSize ks + 1) - 1 = b + ndsSize ks by omega]
  obtain ⟨i, hi⟩ : ∃ i, i = b + ndsSize ks := ⟨_, rfl⟩
  rw [← hi] at hrow ⊢
  have hil : i < rows.length := by omega
  obtain ⟨g, ka, kc, hag, hnd⟩ := h.nds.get i hil
  subst hag
  have hnd' : NdR w0 g i ⟨5, n, p, t, idxs b ks⟩ ka kc := by rw [← hrow]; exact hnd
  have hn := hnd'.below h.low
  have x0 := hn.k
  have x1 := hn.n
  have x2 := hn.p
  have x3 := hn.t
  have x4 := hn.ks
  have hkin := hnd'.kin
  have hkl := idxs_len9 ks b
  simp only at x0 x1 x2 x3 x4 hkin
  obtain ⟨m, hm⟩ : ∃ m, m = ks.length := ⟨_, rfl⟩
  rw [hkl, ← hm] at x4
  have hm1 : m ≤ 10000 := by have := nds_len9 ks; omega
  obtain ⟨o, ho⟩ : ∃ o, o = Obj.cells #[.int .i64 5, .int .i64 n, .int .i64 p, .string ⟨⟨t⟩⟩, .slice ka m kc] 53 := ⟨_, rfl⟩
  have hA := (Below.refl w.heap.size w).alloc (Nat.le_refl _) o
  have hD := h.below hA
  have c0 := h.c0
  obtain ⟨ta, tc, htv⟩ := fam_form (h.fam.own .th)
  have htv' : v .th = .slice ta s.sc.flatten.length tc := htv
  have c2 := hD.c2
  rw [htv'] at c2
  obtain ⟨va, vc, g9, cap, w3, e1, r1, ⟨u, e2⟩, e3, ⟨v1, hD1⟩, hK1⟩ := hD.opens (by omega)
  have c3 := hD.c3
  rw [e1] at c3
  obtain ⟨q, hq⟩ : ∃ q, q = s.sc.flatten.length := ⟨_, rfl⟩
  obtain ⟨sl, hsl⟩ : ∃ q, q = s.sc.length := ⟨_, rfl⟩
  rw [← hq] at c2 r1
  rw [← hsl] at c3 r1 hD1 hK1
  obtain ⟨W2, hW2⟩ : ∃ W2, W2 = w3.setCell ⟨P, 3, none⟩ (.slice (some ⟨g9, 0, none⟩) (sl + 1) cap) := ⟨_, rfl⟩
  rw [← hW2] at hD1 hK1
  obtain ⟨s1, hs1⟩ : ∃ s1 : Cs, s1 = { s with sc := [] :: s.sc } := ⟨_, rfl⟩
  rw [← hs1] at hD1
  have hok1 : CsOk rows s1 := by
    rw [hs1]
    refine ⟨fun S hS d hd => ?_, fun S hS => ?_, by simp, hok.us, hok.cn, hok.c4⟩
    · rcases List.mem_cons.1 hS with rfl | hS
      · cases hd
      · exact hok.mem S hS d hd
    · rcases List.mem_cons.1 hS with rfl | hS
      · exact List.Pairwise.nil
      · exact hok.one S hS
  have hI0 : KdI rows (ckNs rows false ks b s1) s1 false ks b 0 s1 := KdI.start hok1 hf.kids
  obtain ⟨Rk, hRk⟩ : ∃ R, R = ckNs rows false ks b s1 := ⟨_, rfl⟩
  rw [← hRk] at hI0
  have hR : ckN rows (.mk 5 n p t ks) b s = Rk.and fun s' => .ok { s' with sc := s'.sc.tail } := by
    rw [ckN, if_pos rfl, ← hs1, ← hRk]
    cases Rk with
    | error e => rfl
    | ok s' => rfl
  obtain ⟨R, hRR⟩ : ∃ R, R = ckN rows (.mk 5 n p t ks) b s := ⟨_, rfl⟩
  rw [← hRR] at hR ⊢
  have HR := Hid.out (p := Hid _) hR
  have HK : Hid (∀ (j : Nat), j < m → ∃ (kb ko : Nat) (y : Nd), ka = some ⟨kb, ko, none⟩ ∧ ks[j]? = some y ∧ (∀ W, Below w0.heap.size w0 W → W.cell? ⟨kb, ko + j, none⟩ = some (.int .i64 ((b + ndsSize (ks.take j) + ndSize y - 1 : Nat) : Int))) ∧ ∀ W vj sj, CDs w0 W (some ⟨g, 0, none⟩) c rows P vj sj (0, 0) → KdI rows Rk s1 false ks b j sj → Calls Tryz.prog 29 #[.pointer (some ⟨P, 0, none⟩), .int .i64 ((b + ndsSize (ks.take j) + ndSize y - 1 : Nat) : Int)] W fun e w' => e = .returned (.tuple #[]) ∧ CQ w0 (some ⟨g, 0, none⟩) c rows P (ckN rows y (b + ndsSize (ks.take j)) sj) w' ∧ KpD W w') := fun j hj => by
    obtain ⟨y, hy⟩ : ∃ y, ks[j]? = some y := ⟨_, List.getElem?_eq_getElem (by omega)⟩
    obtain ⟨kb, ko, e, hc⟩ := kid_num hkin hy
    refine ⟨kb, ko, y, e, hy, hc, fun W vj sj hW hI => ?_⟩
    have hgl := hI.grw.len hok1.ne
    have hnt := nds_take9 hy
    have hs1l : s1.sc.length = s.sc.length + 1 ∧ s1.sc.flatten.length = s.sc.flatten.length := by rw [hs1]; exact ⟨rfl, rfl⟩
    exact hks j y hy w0 W _ c P vj sj (hI.fatOne hy) hW hI.ok (by omega) (by omega)
  have HO : Hid (o = Obj.cells #[.int .i64 5, .int .i64 n, .int .i64 p, .string ⟨⟨t⟩⟩, .slice ka m kc] 53 ∧ (w.alloc o).heap[w.heap.size]? = some o ∧ ¬ BadD o ∧ KpD w (w.alloc o)) := ⟨ho, heap_alloc_new _ _, by rw [ho]; exact bad_node _, KpD.of_below hA⟩
  have HI0 : Hid (∃ vj sj, CDs w0 W2 (some ⟨g, 0, none⟩) c rows P vj sj (0, 0) ∧ KdI rows Rk s1 false ks b 0 sj ∧ KpD (w.alloc o) W2) := ⟨v1, s1, hD1, hI0, hK1⟩
  have HW2 := Hid.out (p := Hid _) hW2
  have HS : Hid (s1 = { s with sc := [] :: s.sc } ∧ q = s.sc.flatten.length ∧ sl = s.sc.length ∧ s.sc ≠ [] ∧ m = ks.length ∧ s1.sc ≠ [] ∧ sl ≤ 10000 ∧ q ≤ 10000 ∧ ndsSize ks ≤ 10000) := ⟨hs1, hq, hsl, hok.ne, hm, hok1.ne, by omega, by omega, by omega⟩
  have hi' : (i : Int) < (rows.length : Int) := by omega
  have hqb : q ≤ 10000 := by omega
  have hslb : sl ≤ 10000 := by omega
  clear hks hf h hok hb1 hb2 hrow hlt hi hil hnd hnd' hn hkin hkl hm hA hD htv htv' hD1 hK1 hq hsl hW2 hs1 hok1 hI0 hRk hR hRR e1
  rw [show (w.alloc o).heap.size = w.heap.size + 1 by simp] at r1
  rw [ho] at c2 c3 r1
  go_enter Tryz.func29, Tryz.ntmps29
  go_wp2_with fail
  rw [← HW2.out]
  clear x0 x1 x2 x3 x4 c0 c2 c3 r1 e2 e3 ho HW2
  go_loopw [6] (fun x wr => ∃ j : Nat, j ≤ m ∧ x = .int .i64 j ∧ Hid (∃ vj sj, CDs w0 wr (some ⟨g, 0, none⟩) c rows P vj sj (0, 0) ∧ KdI rows Rk s1 false ks b j sj ∧ KpD (w.alloc o) wr)) (fun x _ => m - (intOf x).toNat)
  case atStart => exact ⟨0, Nat.zero_le _, rfl, HI0⟩
  case round =>
    obtain ⟨j, hj, rfl, HJ⟩ := hrel
    clear HI0
    obtain ⟨vj, sj, hJ1, hJ2, hJ3⟩ := HJ.out
    have hxo := (hJ3.at' _ _ HO.out.2.1 HO.out.2.2.1).trans HO.out.2.1
    rw [HO.out.1] at hxo
    obtain ⟨e0, e1, e2, e3, e4, ef⟩ := box5 hxo
    have HJ3 := Hid.out (p := Hid _) (HO.out.2.2.2.trans hJ3)
    have HJ4 := Hid.out (p := Hid _) hJ3
    by_cases hlt : j < m
    · obtain ⟨kb, ko, y, rfl, hy, hc, hX⟩ := HK.out j hlt
      have y0 := hc _ hJ1.low
      have hX2 := hX wr vj sj hJ1 hJ2
      obtain ⟨N, hN⟩ : ∃ N : Nat, N = b + ndsSize (ks.take j) + ndSize y - 1 := ⟨_, rfl⟩
      rw [← hN] at y0 hX2
      have HX := Hid.out (p := Hid _) hX2
      have hlt' : (j : Int) < (m : Int) := by omega
      cases hck : ckN rows y (b + ndsSize (ks.take j)) sj with
      | error f =>
        rw [hck] at HX
        have HE : Hid (R = .error f) := by
          show _ = _
          rw [HR.out, hJ2.bad hy (by simpa using hck)]
          rfl
        clear hX hX2 hJ1 hJ2 hJ3 hxo hN hck hc hy HJ
        go_wp2_with fail
        refine Calls.mono HX.out ?_
        rintro e w2 ⟨rfl, ⟨hf0, v', s', hD'⟩, hK'⟩
        have c5 := hD'.c5
        have hfb : (f.1 != 0) = true := by simpa using hf0
        have HD' : Hid (CQ w0 (some ⟨g, 0, none⟩) c rows P (.error f) w2 ∧ KpD w w2) := ⟨⟨hf0, v', s', hD'⟩, HJ3.out.trans hK'⟩
        clear hD' hK' hf0 e0 e1 e2 e3 e4 ef y0
        go_wp2_with fail
        refine bodyPost_ret (v := .tuple #[]) (results_none rfl _ _ _) rfl ⟨rfl, ?_, HD'.out.2⟩
        rw [HE.out]
        exact HD'.out.1
      | ok s' =>
        rw [hck] at HX
        have HNX := Hid.out (p := Hid _) (hJ2.next hy (by simpa using hck))
        clear hX hX2 hJ1 hJ2 hJ3 hxo hN hck hc hy HJ
        go_wp2_with fail
        refine Calls.mono HX.out ?_
        rintro e w2 ⟨rfl, ⟨v', hD'⟩, hK'⟩
        have c5 := hD'.c5
        simp only at c5
        have hK2 := HJ4.out.trans hK'
        have hxo := (hK2.at' _ _ HO.out.2.1 HO.out.2.2.1).trans HO.out.2.1
        rw [HO.out.1] at hxo
        clear e0 e1 e2 e3 e4 ef
        obtain ⟨e0, e1, e2, e3, e4, ef⟩ := box5 hxo
        have HD' : Hid (∀ q, ∃ vj sj, CDs w0 (w2.drewN q) (some ⟨g, 0, none⟩) c rows P vj sj (0, 0) ∧ KdI rows Rk s1 false ks b (j + 1) sj ∧ KpD (w.alloc o) (w2.drewN q)) := fun q => ⟨v', s', hD'.below (below_drewN (Below.refl _ _)), HNX.out, hK2.trans (KpD.of_below (below_drewN (Below.refl _ _)))⟩
        clear hD' hK' hK2 hxo y0
        go_wp2_with fail
        go_quiet (fail)
        go_wp2_with fail
        go_roundw
        case rel => exact ⟨j + 1, by omega, by go_num, HD'.out _⟩
        case measure => simp [intOf]; omega
    · obtain rfl : j = m := by omega
      have hdone := hJ2.done HS.out.2.2.2.2.1
      have hgl := hJ2.grw
      have htl : sj.sc.tail = s.sc := by
        have := hgl.sc
        rw [HS.out.1] at this
        exact this
      have hsj := sc_cons (hgl.ne HS.out.2.2.2.2.2.1)
      rw [htl] at hsj
      obtain ⟨S', hS'⟩ : ∃ S', sj.sc = S' :: s.sc := ⟨_, hsj⟩
      have HRj : Hid (R = .ok { sj with sc := s.sc }) := by
        show _ = _
        rw [HR.out, hdone]
        show Except.ok { sj with sc := sj.sc.tail } = _
        rw [htl]
      obtain ⟨ta, tc, htv⟩ := fam_form (hJ1.fam.own .th)
      have htv' : vj .th = .slice ta sj.sc.flatten.length tc := htv
      have hcap : sj.sc.flatten.length ≤ tc := by
        have := hJ1.fam.own .th
        rw [htv'] at this
        exact own_cap this
      have hql : q ≤ sj.sc.flatten.length := by rw [HS.out.2.1, hS']; simp
      have c2 := hJ1.c2
      rw [htv'] at c2
      have f2 := hJ1.fz 2
      have hcut := hJ1.cutT hS' htv'
      rw [← HS.out.2.1] at hcut
      obtain ⟨ba, bc, hbv⟩ := fam_form (hcut.1.fam.own .bl)
      have hbv' : (upd vj .th (.slice ta q tc)) .bl = .slice ba (sl + 1) bc := by
        rw [hbv, HS.out.2.2.1]; rfl
      have hcapb : sl + 1 ≤ bc := by
        have := hcut.1.fam.own .bl
        rw [hbv', HS.out.2.2.1] at this
        rw [HS.out.2.2.1]
        exact own_cap this
      have c3 := hcut.1.c3
      rw [hbv'] at c3
      have f3 := hcut.1.fz 3
      have hcutb := hcut.1.cutB rfl (by rw [hbv', HS.out.2.2.1]; rfl : (upd vj .th (.slice ta q tc)) .bl = .slice ba (([] : List Nat) :: s.sc).length bc)
      rw [← HS.out.2.2.1] at hcutb
      obtain ⟨tl, htl9⟩ : ∃ tl, tl = sj.sc.flatten.length := ⟨_, rfl⟩
      rw [← htl9] at c2 hcap hql
      have hql' : (q : Int) ≤ (tl : Int) := by omega
      have hqc : q ≤ tc := by omega
      have hqc' : (q : Int) ≤ (tc : Int) := by omega
      have hc1 : ((sl + 1 : Nat) : Int) - 1 = (sl : Int) := by omega
      have hslc : (sl : Int) ≤ (bc : Int) := by omega
      have hwr : IntKind.i64.wrap (sl : Int) = (sl : Int) := by rw [IntKind.wrap_i64]; omega
      have HF : Hid (CQ w0 (some ⟨g, 0, none⟩) c rows P R (((wr.setCell ⟨P, 2, none⟩ (.slice ta q tc)).drew).setCell ⟨P, 3, none⟩ (.slice ba sl bc)) ∧ KpD w (((wr.setCell ⟨P, 2, none⟩ (.slice ta q tc)).drew).setCell ⟨P, 3, none⟩ (.slice ba sl bc))) := by
        refine ⟨?_, ?_⟩
        · rw [HRj.out]
          exact ⟨_, hcutb.1.below ((Below.refl _ _).drew)⟩
        · exact ((HJ3.out.trans hcut.2).trans hcutb.2).trans (KpD.of_below ((Below.refl _ _).drew))
      clear hdone hgl htl hsj hS' htv htv' hcut hbv hbv' hcutb htl9 hJ1 hJ2 hJ3 hxo HJ
      go_wp2_with fail
      refine region_tail 14 (by kernel_rfl) (by kernel_rfl) ?_
      simp only [List.take_succ_cons, List.take_zero, List.drop_succ_cons, List.drop_zero]
      repeat still_step
      refine wpStill_nil ?_
      go_wp2_with fail
      go_end0
      exact ⟨rfl, HF.out⟩
end
end

end Go.Proofs.YtclnjhffcfkihaeGreatDoor
