/-
  The program's checker: faults, names, counts.
  The program's checker: how many of a kind.
  The library's iterator that goes through scopes from behind.
-/
import Derived.Test.YtggfbfjdiikaeaaGreatDoorChkD5
import Derived.StillTailTactics
import Derived.Test.YtggfbfjdiikaeaaGreatDoorSynN
import Derived.RangeFuncFrom
import Derived.RangeFuncNested
import Derived.RangeFuncBound
import Derived.RangeFuncCalls
import Derived.RangeFuncLeaves
import Derived.RangeFuncBox
import Derived.Shelf.Abstract
import Derived.Shelf.RegionOpen
import Derived.TacticsInMore
import Derived.LoopNIn
import Derived.LoopIn
namespace Go.Proofs.YtggfbfjdiikaeaaGreatDoor
section
open Go.RowKit

/-- What a call leaves. -/
def PQ (w0 : World) (a : Option Addr) (c : Nat) (rows : List Row) (P L : Nat) (R : CRes) (e : Ending) (w' : World) : Prop := match R with
  | .ok s' => e = .returned (.tuple #[]) ∧ ∃ v' ms' cm', CPs w0 w' a c rows P v' ms' cm' s'
  | .error f => e = .panicked (badF f) ∧ CPw w0 w' P L
/-- Names are short. -/
def TxtOk (rows : List Row) : Prop := ∀ i, (rowA rows i).text.length ≤ 1000
theorem key_txt {t : List UInt8} (h : t.length ≤ 1000) : keyOf Tryz.prog 9 (.string ⟨⟨t⟩⟩) = some (.string t) := by
  have := Go.WideMaps.keyOf_string_mk (P := Tryz.prog) (k := 9) Tryz.underlying9 (s := ⟨⟨t⟩⟩) (by rw [Lib.size_eq]; show t.length ≤ maxLen; unfold maxLen; omega)
  simpa using this
theorem CPw.below {w0 w w' : World} {P L : Nat} (h : CPw w0 w P L) (hb : Below w.heap.size w w') : CPw w0 w' P L := by
  obtain ⟨⟨x0, x1, x3, sa, cap, h1, h2⟩, h3, h4⟩ := h
  exact ⟨⟨x0, x1, x3, sa, cap, (hb.block P (heap_ltD h1)).trans h1, h2⟩, h3, h4.trans (hb.mono h4.size)⟩
theorem wf_nat9 {n : Nat} (h : n ≤ 1000000) : (Lit.int .i64 (n : Int)).wf = true := by
  have h1 : -9223372036854775808 ≤ (n : Int) ∧ (n : Int) ≤ 9223372036854775807 := ⟨by omega, by omega⟩
  have e : IntKind.i64.min = -9223372036854775808 := rfl
  simpa [Lit.wf, e] using h1
theorem zeroIntC (w : World) : (zeroValue 3).run Tryz.prog w = .ok (.int .i64 0) w := by kernel_rfl
section
variable {w0 w : World} {a : Option Addr} {c : Nat} {rows : List Row} {P : Nat} {v : Rk → Value} {ms : List Nat} {cm : Nat} {s : Cs}
set_option maxRecDepth 100000 in
set_option maxHeartbeats 800000 in
theorem cfault_any (h : CPs w0 w a c rows P v ms cm s) {i : Nat} (hi : i < rows.length) (code : Int) :
    Calls Tryz.prog 66 #[.pointer (some ⟨P, 0, none⟩), .int .i64 code, .int .i64 (i : Int)] w fun e w' => e = .returned (.agg #[.int .i64 code, .int .i64 0, .int .i64 (rowA rows i).pos]) ∧ Below w.heap.size w w' := by
  obtain ⟨g, ka, kc, rfl, hn⟩ := h.node hi
  have x2 := hn.p
  have c0 := h.c0
  have x2u := fun o => cell_up x2 o
  have c0u := fun o => cell_up c0 o
  have hi' : (i : Int) < (rows.length : Int) := by omega
  obtain ⟨p, hp⟩ : ∃ p, (rowA rows i).pos = p := ⟨_, rfl⟩
  rw [hp] at x2 x2u ⊢
  clear h hn hp
  go_enter Tryz.func66, Tryz.ntmps66
  go_wp2_with fail
  refine bodyPost_ret (v := .agg #[.int .i64 code, .int .i64 0, .int .i64 p]) (by simp [results, Tryz.results66, go_sem]) rfl ⟨rfl, ?_⟩
  exact (Below.refl _ _).alloc (Nat.le_refl _) _
/-- The scope that is the innermost. -/
theorem CPs.last (h : CPs w0 w a c rows P v ms cm s) (hne : s.sc ≠ []) : ∃ S r b mr sb cap, s.sc = S :: r ∧ ms = b :: mr ∧ v .sc = .slice (some ⟨sb, 0, none⟩) ms.length cap ∧ w.cell? ⟨sb, ms.length - 1, none⟩ = some (.map (some b)) ∧ mapS w rows S b := by
  have hs := sc_cons hne
  have hm : ms ≠ [] := fun e => by
    have := h.len
    rw [e, hs] at this
    simp at this
  obtain ⟨b, mr, rfl⟩ : ∃ b mr, ms = b :: mr := by
    cases ms with
    | nil => exact absurd rfl hm
    | cons b mr => exact ⟨b, mr, rfl⟩
  obtain ⟨sb, cap, hv, hb, -, -⟩ := fam_block (h.fam.own .sc) (by show 0 < (b :: mr).length; simp)
  refine ⟨_, _, b, mr, sb, cap, hs, rfl, hv, h.fam.cell hb ?_, h.maps 0 _ b (by rw [hs]; rfl) rfl⟩
  show (mV (b :: mr))[(b :: mr).length - 1]? = _
  unfold mV
  simp
set_option maxRecDepth 100000 in
set_option maxHeartbeats 3200000 in
theorem cname_any (h : CPs w0 w a c rows P v ms cm s) (hne : s.sc ≠ []) (ht : TxtOk rows) {i : Nat} (hi : i < rows.length) (hlen : ms.length ≤ 100000) (hsl : (s.sc.headD []).length ≤ 100000) (hrl : rows.length ≤ 100000) :
    Calls Tryz.prog 121 #[.pointer (some ⟨P, 0, none⟩), .int .i64 (i : Int)] w fun e w' => PQ w0 a c rows P s.sc.length (putC rows i s) e w' ∧ KpC w w' := by
  obtain ⟨S, r, b, mr, sb, cap, hs, hms, hsv, y2, ⟨n, D, hn, hown, hhas, hat⟩⟩ := h.last hne
  have hkey := key_txt (ht i)
  obtain ⟨g, ka, kc, rfl, hnd⟩ := h.node hi
  have x3 := hnd.t
  have c0 := h.c0
  have c2 := h.c2
  rw [hsv] at c2
  obtain ⟨m, hm⟩ : ∃ m, m = ms.length := ⟨_, rfl⟩
  rw [← hm] at c2 y2 hlen
  have hm1 : 1 ≤ m := by rw [hm, hms]; simp
  have hc1 : ((m : Int) - 1) = ((m - 1 : Nat) : Int) := by omega
  obtain ⟨T, hT⟩ : ∃ T : ByteArray, T = ⟨⟨(rowA rows i).text⟩⟩ := ⟨_, rfl⟩
  rw [← hT] at hkey x3
  have hi' : (i : Int) < (rows.length : Int) := by omega
  have hSl : n ≤ 100000 := by rw [hs] at hsl; exact Nat.le_trans hn hsl
  have htw : Maps.has D (.string (rowA rows i).text) = twiceC rows s i := by
    have h1 := hhas (rowA rows i).text
    unfold twiceC
    rw [hs]
    simp only [List.headD_cons]
    cases hb : S.any fun d => decide ((rowA rows d).text = (rowA rows i).text) with
    | true =>
      rw [List.any_eq_true] at hb
      obtain ⟨d, hd, he⟩ := hb
      exact h1.2 ⟨d, hd, by simpa using he⟩
    | false =>
      cases hb2 : Maps.has D (.string (rowA rows i).text) with
      | false => rfl
      | true =>
        obtain ⟨d, hd, he⟩ := h1.1 hb2
        have := List.any_eq_false.1 hb d hd
        simp [he] at this
  have HFL : Hid (∀ q, Calls Tryz.prog 66 #[.pointer (some ⟨P, 0, none⟩), .int .i64 8, .int .i64 (i : Int)] (w.drewN q) fun e w' => e = .returned (.agg #[.int .i64 8, .int .i64 0, .int .i64 (rowA rows i).pos]) ∧ Below (w.drewN q).heap.size (w.drewN q) w') := fun q => cfault_any (h.below (below_drewN (Below.refl _ _))) hi 8
  have HO : Hid (∀ q, (w.drewN q).ownsMap Tryz.prog 9 (plainElem (H := Unit) Tryz.prog 3) b n D) := fun q => ownsMap_keep hown rfl
  obtain ⟨Hb, hHb⟩ : ∃ x, Maps.has D (.string (rowA rows i).text) = x := ⟨_, rfl⟩
  rw [hHb] at htw
  have HTW := Hid.out (p := Hid _) htw
  have HHB := Hid.out (p := Hid _) hHb
  have HD : Hid (∀ q, CPs w0 (w.drewN q) (some ⟨g, 0, none⟩) c rows P v ms cm s ∧ KpC w (w.drewN q)) := fun q => ⟨h.below (below_drewN (Below.refl _ _)), KpC.of_below (below_drewN (Below.refl _ _))⟩
  have HPU : Hid (Hb = false → ∀ q w', w'.ownsMap Tryz.prog 9 (plainElem (H := Unit) Tryz.prog 3) b (n + 1) (D.put (.string (rowA rows i).text) (.lit (.int .i64 (i : Int)))) → (w.drewN q).grownBy w' (some b) → CPs w0 w' (some ⟨g, 0, none⟩) c rows P v ms cm (pushC s i) ∧ KpC w w') := fun hb q w' ho hg => by
    have hq := h.below (below_drewN (k := q) (Below.refl w.heap.size w))
    have hmem : b ∈ cm :: ms := by rw [hms]; simp
    obtain ⟨f1, f2, f3, f4⟩ := hq.famMap hmem hg
    have hnod := h.nod
    refine ⟨⟨?_, h.box, f2, h.nds, ?_, fun j S' b' h1 h2 => ?_, ?_, h.ge, hnod⟩, (KpC.of_below (below_drewN (Below.refl _ _))).trans f3⟩
    · refine f1.same (fun r => ?_) (fun r => ?_) <;> cases r <;> rfl
    · rw [h.len, hs]; simp [pushC, hs]
    · cases j with
      | zero =>
        have e1 : S' = i :: S := by
          have : (pushC s i).sc = (i :: S) :: r := by simp [pushC, hs]
          rw [this] at h1
          simpa using h1.symm
        have e2 : b' = b := by rw [hms] at h2; simpa using h2.symm
        subst e1 e2
        have hmp : Maps.IsMap D := hown.isMap
        have hkl : WideAt.IsKeyLit (.string (rowA rows i).text) := trivial
        refine ⟨n + 1, _, by simp; omega, ho, fun t => ?_, fun d hd => ?_⟩
        · by_cases htt : t = (rowA rows i).text
          · subst htt
            rw [Maps.has_put_same hmp hkl]
            simp only [true_iff]
            exact ⟨i, List.mem_cons_self .., rfl⟩
          · rw [Maps.has_put_other (fun e => htt (by simpa using e)), hhas t]
            constructor
            · rintro ⟨d, hd, he⟩
              exact ⟨d, List.mem_cons_of_mem _ hd, he⟩
            · rintro ⟨d, hd, he⟩
              rcases List.mem_cons.1 hd with rfl | hd
              · exact absurd he.symm htt
              · exact ⟨d, hd, he⟩
        · rcases List.mem_cons.1 hd with rfl | hd
          · rw [Maps.atKey_put_same hmp hkl]
          · have hdt : (rowA rows d).text ≠ (rowA rows i).text := fun he => by
              have : Maps.has D (.string (rowA rows i).text) = true := (hhas _).2 ⟨d, hd, he⟩
              rw [hHb, hb] at this
              cases this
            rw [Maps.atKey_put_other (fun e => hdt (by simpa using e))]
            exact hat d hd
      | succ j =>
        have e1 : s.sc[j + 1]? = some S' := by
          have : (pushC s i).sc = (i :: S) :: r := by simp [pushC, hs]
          rw [this] at h1
          rw [hs]
          simpa using h1
        refine (hq.maps (j + 1) S' b' e1 h2).keep (f4 b' (List.mem_cons_of_mem _ (List.mem_of_getElem? h2)) (fun e => ?_))
        rw [hms] at h2 hnod
        simp only [List.getElem?_cons_succ] at h2
        have := (List.nodup_cons.1 (List.nodup_cons.1 hnod).2).1
        exact this (by rw [← e]; exact List.mem_of_getElem? h2)
    · refine hq.cnt.keep (f4 cm (List.mem_cons_self ..) (fun e => ?_))
      rw [hms] at hnod
      have := (List.nodup_cons.1 hnod).1
      exact this (by rw [e]; exact List.mem_cons_self ..)
  have hval : plainElem (H := Unit) Tryz.prog 3 (.int .i64 (i : Int)) = some (.lit (.int .i64 (i : Int)), []) := plainElem_int Tryz.underlying3 (wf_nat9 (by omega))
  have HW := Hid.out (p := Hid _) h.weak
  have HVL := Hid.out (p := Hid _) hval
  have hnm : n < maxLen := by unfold maxLen; omega
  have HNM := Hid.out (p := Hid _) hnm
  clear h hs hms hsv hown hhas hat htw hHb hnd hi hT hm hsl hrl hval hnm hn
  cases Hb with
  | true =>
    go_enter Tryz.func121, Tryz.ntmps121
    go_wp2_with fail
    go_quiet (fail)
    clear c0 c2 y2 x3
    go_wp2_with (at_lookup; refine wpList_lookup_own_ok_int _ rfl _ _ 114 rfl 9 3 .i64 keyStr Tryz.underlying114 Tryz.underlying3 (zeroIntC _) b n D rfl (HO.out _) _ _ rfl hkey ?_; intro cx hatx hwx; rw [HHB.out]; clear hatx hwx)
    refine Calls.mono (HFL.out _) ?_
    rintro e w2 ⟨rfl, hb2⟩
    have HB2 := Hid.out (p := Hid _) hb2
    clear hb2
    go_wp2_with fail
    have hR : putC rows i s = .error (8, (rowA rows i).pos) := by unfold putC; rw [← HTW.out]; rfl
    rw [hR]
    exact ⟨rfl, ⟨rfl, (HW.out.below (below_drewN (Below.refl _ _))).below HB2.out⟩, (HD.out _).2.trans (KpC.of_below HB2.out)⟩
  | false =>
    have HPU2 := Hid.out (p := Hid _) (HPU.out rfl)
    clear HPU
    go_enter Tryz.func121, Tryz.ntmps121
    go_wp2_with fail
    go_quiet (fail)
    clear c0 c2 y2 x3
    go_wp2_with (first | (at_lookup; refine wpList_lookup_own_ok_int _ rfl _ _ 114 rfl 9 3 .i64 keyStr Tryz.underlying114 Tryz.underlying3 (zeroIntC _) b n D rfl (HO.out _) _ _ rfl hkey ?_; intro cx hatx hwx; rw [HHB.out]; clear hatx hwx) | (at_mapUpdate; refine wpList_mapUpdate_own _ rfl _ _ _ 114 rfl 9 3 keyStr Tryz.underlying114 _ b n D rfl (HO.out _) HNM.out _ _ _ rfl rfl hkey _ [] HVL.out ?_; intro w4 hm4 hg4; have HZ := Hid.out (p := Hid _) (HPU2.out _ _ hm4 hg4); clear hm4 hg4))
    go_end0
    have hR : putC rows i s = .ok (pushC s i) := by unfold putC; rw [← HTW.out]; rfl
    rw [hR]
    exact ⟨⟨rfl, _, _, _, HZ.out.1⟩, HZ.out.2⟩
end
end

section
open Go.RowKit

section
variable {w0 w : World} {a : Option Addr} {c : Nat} {rows : List Row} {P : Nat} {v : Rk → Value} {ms : List Nat} {cm : Nat} {s : Cs}
set_option maxRecDepth 100000 in
set_option maxHeartbeats 3200000 in
theorem ccount_any (h : CPs w0 w a c rows P v ms cm s) {i : Nat} (hi : i < rows.length) {k : Nat} (hk : (rowA rows i).kind = (k : Int)) (hk3 : k = 2 ∨ k = 3 ∨ k = 4) (m : Nat) (hle : s.cn (k : Int) ≤ m) (hm : m ≤ 16) (hcn : ∀ k, s.cn k ≤ 16) :
    Calls Tryz.prog 122 #[.pointer (some ⟨P, 0, none⟩), .int .i64 (i : Int), .int .i64 (m : Int)] w fun e w' => PQ w0 a c rows P s.sc.length (mostC rows i m s) e w' ∧ KpC w w' := by
  obtain ⟨n, D, hn, hown, hat⟩ := h.cnt
  obtain ⟨g, ka, kc, rfl, hnd⟩ := h.node hi
  have x0 := hnd.k
  rw [hk] at x0
  have c0 := h.c0
  have c3 := h.c3
  obtain ⟨q, hq⟩ : ∃ q : Nat, s.cn (k : Int) = q := ⟨_, rfl⟩
  have hk30 : k < 30 := by omega
  have hkey : keyOf Tryz.prog 3 (.int .i64 (k : Int)) = some (.int .i64 (k : Int)) := Maps.keyOf_int_mk Tryz.underlying3 (wf_nat9 (by omega))
  have HAT : Hid (D.atKey (.int .i64 (k : Int)) (.lit (.int .i64 0)) = .lit (.int .i64 (q : Int))) := by
    show _ = _
    rw [hat (k : Int) (by omega) (by omega), hq]
  have hnb : n ≤ 48 := by have := hcn 2; have := hcn 3; have := hcn 4; omega
  have HNM : Hid (n < maxLen) := by show _ < _; unfold maxLen; omega
  have HFL : Hid (Calls Tryz.prog 66 #[.pointer (some ⟨P, 0, none⟩), .int .i64 1, .int .i64 (i : Int)] w fun e w' => e = .returned (.agg #[.int .i64 1, .int .i64 0, .int .i64 (rowA rows i).pos]) ∧ Below w.heap.size w w') := cfault_any h hi 1
  have HPU : Hid (∀ w', w'.ownsMap Tryz.prog 3 (plainElem (H := Unit) Tryz.prog 3) cm (n + 1) (D.put (.int .i64 (k : Int)) (.lit (.int .i64 ((q : Int) + 1)))) → w.grownBy w' (some cm) → CPs w0 w' (some ⟨g, 0, none⟩) c rows P v ms cm (moreC s (k : Int)) ∧ KpC w w') := fun w' ho hg => by
    obtain ⟨f1, f2, f3, f4⟩ := h.famMap (List.mem_cons_self ..) hg
    have hnod := h.nod
    refine ⟨⟨?_, h.box, f2, h.nds, h.len, fun j S b h1 h2 => ?_, ?_, h.ge, hnod⟩, f3⟩
    · refine f1.same (fun r => ?_) (fun r => ?_) <;> cases r <;> rfl
    · refine (h.maps j S b h1 h2).keep (f4 b (List.mem_cons_of_mem _ (List.mem_of_getElem? h2)) (fun e => ?_))
      exact (List.nodup_cons.1 hnod).1 (by rw [← e]; exact List.mem_of_getElem? h2)
    · refine ⟨n + 1, _, ?_, ho, fun j hj0 hj3 => ?_⟩
      · have e : ∀ j : Int, (moreC s (k : Int)).cn j = if j = (k : Int) then s.cn (k : Int) + 1 else s.cn j := fun j => rfl
        rw [e, e, e]
        rcases hk3 with rfl | rfl | rfl
        · rw [if_pos (by decide), if_neg (by decide), if_neg (by decide)]
          have : s.cn ((2 : Nat) : Int) = s.cn 2 := rfl
          omega
        · rw [if_neg (by decide), if_pos (by decide), if_neg (by decide)]
          have : s.cn ((3 : Nat) : Int) = s.cn 3 := rfl
          omega
        · rw [if_neg (by decide), if_neg (by decide), if_pos (by decide)]
          have : s.cn ((4 : Nat) : Int) = s.cn 4 := rfl
          omega
      · show _ = DataW.lit (.int .i64 (((if j = (k : Int) then s.cn (k : Int) + 1 else s.cn j) : Nat) : Int))
        by_cases hj : j = (k : Int)
        · subst hj
          have hkl : WideAt.IsKeyLit (.int .i64 (k : Int)) := trivial
          rw [if_pos rfl, Maps.atKey_put_same hown.isMap hkl, hq]
          rfl
        · rw [if_neg hj, Maps.atKey_put_other (fun e => hj (by simpa using e))]
          exact hat j hj0 hj3
  have HVL : Hid (plainElem (H := Unit) Tryz.prog 3 (.int .i64 ((q : Int) + 1)) = some (.lit (.int .i64 ((q : Int) + 1)), [])) := by
    show _ = _
    have := plainElem_int (H := Unit) (P := Tryz.prog) Tryz.underlying3 (wf_nat9 (n := q + 1) (by omega))
    simpa using this
  have HO := Hid.out (p := Hid _) hown
  have HW := Hid.out (p := Hid _) h.weak
  have hi' : (i : Int) < (rows.length : Int) := by omega
  have hq16 : q ≤ 16 := by omega
  have HR : Hid (mostC rows i m s = if m ≤ q then .error (1, (rowA rows i).pos) else .ok (moreC s (k : Int))) := by
    show _ = _
    unfold mostC
    rw [hk, hq]
  have HLE : Hid (q ≤ m) := by show _ ≤ _; omega
  clear h hown hat hnd hi hk hk3 hle hcn hn hq
  by_cases hqm : q = m
  · have hb : ((q : Int) == (m : Int)) = true := by simp [hqm]
    have HQM := Hid.out (p := Hid _) hqm
    clear hqm
    go_enter Tryz.func122, Tryz.ntmps122
    go_wp2_with (at_lookup; refine wpList_lookup_own_int _ rfl _ _ 79 rfl 3 3 .i64 keyInt Tryz.underlying79 Tryz.underlying3 (zeroIntC _) cm n D rfl HO.out _ _ rfl hkey ?_; intro cx hatx hwx; have hcx : cx = (q : Int) := (by have := hatx.symm.trans HAT.out; simpa using this); clear hatx hwx; subst hcx)
    refine Calls.mono HFL.out ?_
    rintro e w2 ⟨rfl, hb2⟩
    have HB2 := Hid.out (p := Hid _) hb2
    clear hb2
    go_wp2_with fail
    rw [HR.out, if_pos (show m ≤ q by rw [HQM.out]; exact Nat.le_refl _)]
    exact ⟨rfl, ⟨rfl, HW.out.below HB2.out⟩, KpC.of_below HB2.out⟩
  · have hb : ((q : Int) == (m : Int)) = false := by simp only [beq_eq_false_iff_ne, ne_eq]; omega
    have HR2 : Hid (mostC rows i m s = .ok (moreC s (k : Int))) := by
      show _ = _
      have h1 := HLE.out
      rw [HR.out, if_neg (show ¬ m ≤ q by omega)]
    clear hqm HLE HR
    go_enter Tryz.func122, Tryz.ntmps122
    go_wp2_with (first | (at_lookup; refine wpList_lookup_own_int _ rfl _ _ 79 rfl 3 3 .i64 keyInt Tryz.underlying79 Tryz.underlying3 (zeroIntC _) cm n D rfl HO.out _ _ rfl hkey ?_; intro cx hatx hwx; have hcx : cx = (q : Int) := (by have := hatx.symm.trans HAT.out; simpa using this); clear hatx hwx; subst hcx) | (at_mapUpdate; refine wpList_mapUpdate_own _ rfl _ _ _ 79 rfl 3 3 keyInt Tryz.underlying79 _ cm n D rfl HO.out HNM.out _ _ _ rfl rfl hkey _ [] HVL.out ?_; intro w4 hm4 hg4; have HZ := Hid.out (p := Hid _) (HPU.out _ hm4 hg4); clear hm4 hg4))
    go_end0
    rw [HR2.out]
    exact ⟨⟨rfl, _, _, _, HZ.out.1⟩, HZ.out.2⟩
end
end

section
open Go.RowKit Go.Shelf

attribute [local go_sem] Oper.semAt_some

/-- A place of a scope, as it is handed on. -/
def scV (l : List Nat) (p : Fin l.length) : Array Value := #[.int .i64 (p.1 : Int), .map (some (l.get p))]
/-- What has come when k rounds are over, from behind. -/
def backC (l : List Nat) (k : Nat) : List (Fin l.length) := (List.finRange l.length).reverse.take k
theorem backC_succ {l : List Nat} {k : Nat} {p : Fin l.length} (hk : k < l.length) (hp : p.1 = l.length - 1 - k) : backC l (k + 1) = backC l k ++ [p] := by
  unfold backC
  have hl : k < (List.finRange l.length).reverse.length := by simpa using hk
  rw [List.take_add_one, List.getElem?_eq_getElem hl]
  simp only [Option.toList_some, List.append_cancel_left_eq, List.cons.injEq, and_true]
  apply Fin.ext
  rw [hp]
  simp
theorem backC_length (l : List Nat) (k : Nat) (hk : k ≤ l.length) : (backC l k).length = k := by
  unfold backC
  rw [List.length_take]
  simp
  omega
set_option maxRecDepth 100000 in
set_option maxHeartbeats 2000000 in
theorem backC1_in (F : Fence) (n : Nat) (hF : F.fn 154) (hro : F.round = none) (hn : 1 ≤ n) (lp Bs n₀ : Nat) (qa : Option Addr) (qc : Nat) (l : List Nat) (hl : l.length ≤ 100000) (J Jx : List (Fin l.length) → World → Prop)
    (hY : ∀ pre x W, J pre W → pre.length < l.length → YieldAt F (n - 1) Tryz.prog lp (scV l x) W fun e W' =>
      (e = .returned (.bool true) ∧ J (pre ++ [x]) W' ∧ Below n₀ W W') ∨ (e = .returned (.bool false) ∧ Jx (pre ++ [x]) W'))
    (W : World) (hBs : W.cell? ⟨Bs, 0, none⟩ = some (.slice qa l.length qc)) (hBn : Bs < n₀) (hc : ∀ p : Fin l.length, ∃ b, qa = some ⟨b, 0, none⟩ ∧ b < n₀ ∧ W.cell? ⟨b, p.1, none⟩ = some (.map (some (l.get p)))) (h0 : J [] W) :
    CallsIn F n Tryz.prog 154 #[.func (.yield lp) #[] #[], .pointer (some ⟨Bs, 0, none⟩)] W fun e W' => (∃ v, e = .returned v) ∧
      ((∃ ys, ys = backC l l.length ∧ J ys W') ∨ (∃ pre, (∃ k, k ≤ l.length ∧ pre = backC l k) ∧ Jx pre W')) := by
  obtain ⟨len, hlen⟩ : ∃ len, l.length = len := ⟨_, rfl⟩
  refine callsIn_of_wp Tryz.func154 rfl hF ?_ hro
  simp only [Tryz.ntmps154, List.size_toArray, List.length_cons, List.length_nil, Nat.reduceAdd, Nat.reduceSub, Array.replicate_succ, Array.replicate_zero, List.push_toArray, List.append_toArray, List.nil_append, List.cons_append]
  have HC := Hid.out (p := Hid _) hc
  have HY := Hid.out (p := Hid _) hY
  have HLN := Hid.out (p := Hid _) hlen
  rw [hlen] at hBs hl
  clear hc hY hlen
  gi_wp2
  gi_loopw [3] (fun i wr => ∃ k : Nat, k ≤ len ∧ i = .int .i64 ((len : Int) - 1 - (k : Int)) ∧ Hid (J (backC l k) wr) ∧ Below n₀ W wr) (fun i _ => (intOf i + 1).toNat)
  case atStart => exact ⟨0, Nat.zero_le _, by simp, h0, Below.refl _ _⟩
  case round =>
    obtain ⟨k, hk, rfl, hJs, hnx⟩ := hrel
    have hbx : wr.cell? ⟨Bs, 0, none⟩ = some (.slice qa len qc) := (hnx.cell (p := ⟨Bs, 0, none⟩) hBn).trans hBs
    by_cases hlt : k < len
    · obtain ⟨p, hp⟩ : ∃ p : Nat, (len : Int) - 1 - (k : Int) = (p : Int) := ⟨len - 1 - k, by omega⟩
      have hpl : p < len := by omega
      have hpl2 : p < l.length := by have := HLN.out; omega
      obtain ⟨b, rfl, hb, c0⟩ := HC.out ⟨p, hpl2⟩
      have d0 := (hnx.cell (p := ⟨b, p, none⟩) hb).trans c0
      obtain ⟨fn, tmps, assign, body, hy, hR⟩ := HY.out (backC l k) ⟨p, hpl2⟩ wr hJs.out (by rw [backC_length _ _ (by have := HLN.out; omega)]; have := HLN.out; omega)
      have hbk : backC l (k + 1) = backC l k ++ [⟨p, hpl2⟩] := backC_succ (by have := HLN.out; omega) (by show p = _; have := HLN.out; omega)
      obtain ⟨mb, hmb⟩ : ∃ mb, l.get ⟨p, hpl2⟩ = mb := ⟨_, rfl⟩
      simp only [scV] at hy
      rw [hmb] at d0 hy
      rw [hp]
      have HBK := Hid.out (p := Hid _) hbk
      have HP := Hid.out (p := Hid _) hp
      clear hbk c0 hmb
      gi_wp2
      refine hR.mono ?_
      rintro e W3 (⟨rfl, hJ3, hk3⟩ | ⟨rfl, hJx3⟩)
      · gi_wp2
        go_roundw
        case rel => exact ⟨k + 1, by omega, by rw [← HP.out]; simp <;> omega, (by rw [HBK.out]; exact hJ3 : Hid (J (backC l (k + 1)) W3)), hnx.trans hk3⟩
        case measure => first | (simp [intOf]; done) | (simp [intOf]; omega)
      · gi_wp2
        refine bodyPost_ret (results_none rfl _ _ _) rfl ?_
        exact ⟨⟨_, rfl⟩, .inr ⟨_, ⟨k + 1, by have := HLN.out; omega, HBK.out.symm⟩, hJx3⟩⟩
    · obtain rfl : k = len := by omega
      have hneg : (k : Int) - 1 - (k : Int) = -1 := by omega
      rw [hneg]
      gi_wp2
      go_end0
      exact ⟨⟨_, rfl⟩, .inl ⟨_, congrArg (backC l) HLN.out.symm, hJs.out⟩⟩
set_option maxHeartbeats 1000000 in
theorem backC_in (F : Fence) (n : Nat) (hF : F.fn 140) (hro : F.round = none) (a : Option Addr) (len cap : Nat) (w : World) :
    CallsIn F n Tryz.prog 140 #[.slice a len cap] w fun e w' => e = .returned (.func (.func 154) #[] #[.pointer (some ⟨w.heap.size, 0, none⟩)]) ∧ w' = w.alloc (.cells #[.slice a len cap] 92) := by
  refine callsIn_of_wp Tryz.func140 rfl hF ?_ hro
  simp only [Tryz.ntmps140, List.size_toArray, List.length_cons, List.length_nil, Nat.reduceAdd, Nat.reduceSub, Array.replicate_succ, Array.replicate_zero, List.push_toArray, List.append_toArray, List.nil_append, List.cons_append]
  gi_wp2
  go_ret
  exact ⟨rfl, rfl⟩
theorem backC_stops (F : Fence) (n : Nat) (hF : F.fn 154) (hro : F.round = none) (hn : 1 ≤ n) (Bs n₀ : Nat) (qa : Option Addr) (qc : Nat) (l : List Nat) (hl : l.length ≤ 100000) (w : World) (hBs : w.cell? ⟨Bs, 0, none⟩ = some (.slice qa l.length qc)) (hBn : Bs < n₀) (hn₀ : n₀ ≤ w.heap.size) (hc : ∀ p : Fin l.length, ∃ b, qa = some ⟨b, 0, none⟩ ∧ b < n₀ ∧ w.cell? ⟨b, p.1, none⟩ = some (.map (some (l.get p)))) :
    SeqStopsK F n Tryz.prog 154 #[.pointer (some ⟨Bs, 0, none⟩)] (scV l) (Below n₀) (fun ys => ys = backC l l.length) (fun pre => ∃ k, k ≤ l.length ∧ pre = backC l k) l.length w := fun lp J Jx W hW _ _ hY h0 =>
  backC1_in F n hF hro hn lp Bs n₀ qa qc l hl J Jx hY W ((hW.cell (p := ⟨Bs, 0, none⟩) (by show Bs < _; omega)).trans hBs) hBn (fun p => by
    obtain ⟨b, e, hb, hcc⟩ := hc p
    exact ⟨b, e, hb, (hW.cell (p := ⟨b, p.1, none⟩) (by show b < _; omega)).trans hcc⟩) h0
end

end Go.Proofs.YtggfbfjdiikaeaaGreatDoor
