/-
  The program's checkAll.
  The program's Check.
  The law of programs that may be.
-/
import Derived.Test.YtclnjhffcfkihaeGreatDoorChkR1
import Derived.Test.YtclnjhffcfkihaeGreatDoorSqW
import Derived.Test.YtclnjhffcfkihaeGreatDoorPrsC
namespace Go.Proofs.YtclnjhffcfkihaeGreatDoor
section
open Go.RowKit

/-- What is told of a program that was read. -/
def ChkQ (B : Nat) (R : Except (Int × Int) (List Int)) (e : Ending) (w' : World) : Prop := match R with
  | .error f => e = .returned (.tuple #[nilV, .agg #[.int .i64 f.1, .int .i64 0, .int .i64 f.2]])
  | .ok us => ∃ ua uc, e = .returned (.tuple #[.slice ua us.length uc, .agg #[.int .i64 0, .int .i64 0, .int .i64 0]]) ∧ IIn w' ua us.length (fun j => us.getD j 0) ∧ ∀ b o, ua = some ⟨b, o, none⟩ → B ≤ b
set_option maxRecDepth 100000 in
set_option maxHeartbeats 400000 in
theorem ccatch_idle (p q : Addr) (w : World) :
    CallsD Tryz.prog 44 #[.pointer (some p), .pointer (some q)] .returning w fun e u' w' => e = .returned (.tuple #[]) ∧ u' = .returning ∧ w' = w := by
  refine callsD_of_wpS Tryz.func44 rfl fun c₀ cs hu => ?_
  simp only [Tryz.ntmps44, List.size_toArray, List.length_cons, List.length_nil, Nat.reduceAdd, Nat.reduceSub, Array.replicate_succ, Array.replicate_zero, List.push_toArray, List.append_toArray, List.nil_append, List.cons_append]
  refine wpS_recover_no hu ?_
  refine wpS_of_wp ?_
  simp only [Act.put, Array.setIfInBounds, List.size_toArray, List.length_cons, List.length_nil, Nat.reduceAdd, Nat.reduceLT, dite_true, List.set_toArray, List.set_cons_succ, List.set_cons_zero]
  go_wp2_with fail
  exact ⟨rfl, .returning, by cases c₀; simp_all, _, results_none rfl _ _ _, rfl, rfl, rfl⟩

set_option maxRecDepth 100000 in
set_option maxHeartbeats 1600000 in
theorem ccatch_fault (tb fb B : Nat) (q : Int × Int) (w : World) (v a b c : Value) (h : Vars w tb fb v a b c) (h1 : B ≤ tb) (h2 : B ≤ fb) (hB : B ≤ w.heap.size) :
    CallsD Tryz.prog 44 #[.pointer (some ⟨tb, 0, none⟩), .pointer (some ⟨fb, 0, none⟩)] (.panicking (badF q)) w fun e u' w' => e = .returned (.tuple #[]) ∧ u' = .panicking [{ v := .iface 25 (.agg #[.int .i64 q.1, .int .i64 0, .int .i64 q.2]), recovered := true }] ∧ w'.cell? ⟨tb, 0, none⟩ = some nilV ∧ w'.cell? ⟨fb, 0, none⟩ = some (.int .i64 q.1) ∧ w'.cell? ⟨fb, 1, none⟩ = some (.int .i64 0) ∧ w'.cell? ⟨fb, 2, none⟩ = some (.int .i64 q.2) ∧ Below B w w' := by
  have ta := ta_fault q.1 q.2
  have t0 := h.t0
  have f0 := h.f0
  have f1 := h.f1
  have f2 := h.f2
  have tz := h.tz
  have fz := h.fz
  have hn1 : ¬ tb = fb := h.ne
  have hn2 : ¬ fb = tb := fun e => h.ne e.symm
  have lt1 := lt_of_cell t0
  have lt2 := lt_of_cell f0
  refine callsD_of_wpS Tryz.func44 rfl fun c₀ cs hu => ?_
  simp only [Tryz.ntmps44, List.size_toArray, List.length_cons, List.length_nil, Nat.reduceAdd, Nat.reduceSub, Array.replicate_succ, Array.replicate_zero, List.push_toArray, List.append_toArray, List.nil_append, List.cons_append]
  refine wpS_recover hu ?_
  refine wpS_of_wp ?_
  simp only [Act.put, Array.setIfInBounds, List.size_toArray, List.length_cons, List.length_nil, Nat.reduceAdd, Nat.reduceLT, dite_true, List.set_toArray, List.set_cons_succ, List.set_cons_zero]
  go_wp2_with fail
  go_region
  all_goals go_wp2_with fail
  refine ⟨rfl, _, rfl, _, results_none rfl _ _ _, rfl, rfl, ?_, ?_, ?_, ?_, ?_⟩
  · simp [go_sem, t0, lt1]
  · simp [go_sem, f0, lt2]
  · simp [go_sem, f1, lt2]
  · simp [go_sem, f2, lt2]
  · exact ((((((Below.refl B w).setCell (p := ⟨tb, 0, none⟩) h1 _).setCell (p := ⟨fb, 0, none⟩) h2 _).setCell (p := ⟨fb, 1, none⟩) h2 _).setCell (p := ⟨fb, 2, none⟩) h2 _).alloc (by simp [World.setCell]; omega) _).drew

set_option maxRecDepth 100000 in
set_option maxHeartbeats 1600000 in
theorem cdoor_fault (w w1 : World) (B : Nat) (q : Int × Int) (y0 y1 y4 y5 y6 y7 y8 y9 y10 y11 y12 y13 y14 v : Value) (h : Vars w1 w.heap.size (w.heap.size + 1) v (.int .i64 0) (.int .i64 0) (.int .i64 0)) (hB : B ≤ w.heap.size) (hb : Below B w w1) :
    bodyPostD Tryz.prog Tryz.f28 (fun e w' => ChkQ w.heap.size (.error q) e w' ∧ Below B w w') (.panic (badF q)) { tmps := #[y0, y1, .pointer (some ⟨w.heap.size, 0, none⟩), .pointer (some ⟨w.heap.size + 1, 0, none⟩), y4, y5, y6, y7, y8, y9, y10, y11, y12, y13, y14], defers := [{ target := .fn (.func 44) #[.pointer (some ⟨w.heap.size, 0, none⟩), .pointer (some ⟨w.heap.size + 1, 0, none⟩)], args := #[] }] } w1 := by
  refine leaves_cons (f := 44) (args := #[.pointer (some ⟨w.heap.size, 0, none⟩), .pointer (some ⟨w.heap.size + 1, 0, none⟩)]) (by simp) (by simp [go_sem]) ?_
  refine (ccatch_fault w.heap.size (w.heap.size + 1) B q w1 _ _ _ _ h hB (by omega) (Nat.le_trans hB hb.size)).mono ?_
  rintro e u' w'' ⟨rfl, rfl, t0, f0, f1, f2, hb2⟩
  refine ⟨.tuple #[nilV, .agg #[.int .i64 q.1, .int .i64 0, .int .i64 q.2]], ?_, rfl, hb.trans hb2⟩
  simp [results, Tryz.results28, go_sem, t0, f0, f1, f2]

set_option maxRecDepth 100000 in
set_option maxHeartbeats 3200000 in
theorem checkAll_any {ks : List Nd} (w : World) (a : Option Addr) (c : Nat) (hr : NdsR w a (rowsP ks)) (hw : WfP ks) (hsz : ndsSize ks + 1 ≤ 600) (ht : TxtOk (rowsP ks)) :
    Calls Tryz.prog 28 #[.slice a (rowsP ks).length c] w fun e w' => ChkQ w.heap.size (checkC ks) e w' ∧ Below w.heap.size w w' := by
  have hmf : ∀ (fn : Fn) (first cap : Array Value) (w : World), (Instr.makeFunc fn first cap).run Tryz.prog w = .ok (.func fn first cap) w := fun _ _ _ _ => rfl
  have hrl : (rowsP ks).length = ndsSize ks + 1 := by unfold rowsP; rw [List.length_append, flats_len]; rfl
  obtain ⟨W0, hW0⟩ : ∃ W0, (w.alloc (.cells #[.slice none 0 0] 33)).alloc (.cells #[.int .i64 0, .int .i64 0, .int .i64 0] 25) = W0 := ⟨_, rfl⟩
  have h0 : Below w.heap.size w W0 := by rw [← hW0]; exact ((Below.refl _ _).alloc (Nat.le_refl _) _).alloc (by simp) _
  have hs0 : W0.heap.size = w.heap.size + 2 := by rw [← hW0]; simp
  have hv0 : W0.heap[w.heap.size]? = some (.cells #[.slice none 0 0] 33) := by rw [← hW0]; exact box_later (heap_alloc_new _ _) _
  have hv1 : W0.heap[w.heap.size + 1]? = some (.cells #[.int .i64 0, .int .i64 0, .int .i64 0] 25) := by
    have e : w.heap.size + 1 = (w.alloc (.cells #[.slice none 0 0] 33)).heap.size := by simp
    rw [← hW0, e]; exact heap_alloc_new _ _
  have HNW : Hid (Calls Tryz.prog 45 #[.slice a (rowsP ks).length c] W0 fun e w' => ∃ P v ms cm, e = .returned (.pointer (some ⟨P, 0, none⟩)) ∧ CPs W0 w' a c (rowsP ks) P v ms cm (csN (rowsP ks).length)) := cnew_any (hr.below h0) (by omega)
  have HPG : Hid (∀ w1 P v ms cm, CPs W0 w1 a c (rowsP ks) P v ms cm (csN (rowsP ks).length) → Calls Tryz.prog 46 #[.pointer (some ⟨P, 0, none⟩)] w1 fun e w' => PgC W0 a c ks P (checkC ks) e w') := fun w1 P v ms cm h => cprogram_any h hw hsz ht
  have HFR : Hid (∀ w4, Below W0.heap.size W0 w4 → Vars w4 w.heap.size (w.heap.size + 1) (.slice none 0 0) (.int .i64 0) (.int .i64 0) (.int .i64 0) ∧ Below w.heap.size w w4) := fun w4 hf => by
    have hx0 := (hf.block w.heap.size (by omega)).trans hv0
    have hx1 := (hf.block (w.heap.size + 1) (by omega)).trans hv1
    exact ⟨⟨box_cell hx0 rfl, box_cell hx1 rfl, box_cell hx1 rfl, box_cell hx1 rfl, box_free hx0, fun i => box_free hx1, by omega⟩, h0.trans (hf.mono (by omega))⟩
  have HS0 := Hid.out (p := Hid _) hs0
  have HW0 := Hid.out (p := Hid _) hW0
  obtain ⟨n, hn⟩ : ∃ n, n = (rowsP ks).length := ⟨_, rfl⟩
  rw [← hn] at HNW HPG ⊢
  obtain ⟨R, hR⟩ : ∃ R, R = checkC ks := ⟨_, rfl⟩
  rw [← hR] at HPG ⊢
  clear hr hw hsz ht hrl h0 hs0 hv0 hv1 hW0 hn hR
  go_enter_defers Tryz.func28, Tryz.ntmps28
  go_wp2_with fail
  rw [HW0.out]
  refine Calls.mono HNW.out ?_
  rintro e w1 ⟨P, v, ms, cm, rfl, h1⟩
  have HPG2 : Hid (Calls Tryz.prog 46 #[.pointer (some ⟨P, 0, none⟩)] w1 fun e w' => PgC W0 a c ks P R e w') := HPG.out w1 P v ms cm h1
  clear h1 HPG HNW
  go_wp2_with fail
  refine Calls.mono HPG2.out ?_
  intro e w4 hq
  cases R with
  | error f =>
    obtain ⟨rfl, hf⟩ := hq
    obtain ⟨hv, hb⟩ := HFR.out _ hf
    exact cdoor_fault w w4 w.heap.size f _ _ _ _ _ _ _ _ _ _ _ _ _ _ hv (Nat.le_refl _) hb
  | ok us =>
    obtain ⟨rfl, v', ms', cm', s', hus, hP⟩ := hq
    obtain ⟨hv, hb⟩ := HFR.out _ hP.low
    obtain ⟨ua, uc, huv⟩ := fam_form (hP.fam.own .ow)
    have huv' : v' .ow = .slice ua s'.us.length uc := huv
    have c1 := hP.c1
    rw [huv', hus] at c1
    have t0 := hv.t0
    have f0 := hv.f0
    have f1 := hv.f1
    have f2 := hv.f2
    have tz := hv.tz
    have fz := hv.fz
    have HB := Hid.out (p := Hid _) hb
    have hPl := hP.le
    have hne1 : P ≠ w.heap.size := by have := HS0.out; omega
    have hne2 : P ≠ w.heap.size + 1 := by have := HS0.out; omega
    have HI : Hid (∀ W', (∀ g, g ≠ w.heap.size → g ≠ w.heap.size + 1 → W'.heap[g]? = w4.heap[g]?) → IIn W' ua us.length (fun j => us.getD j 0)) := fun W' hW q hq => by
      obtain ⟨ub, uc', e1, e2, e3, -⟩ := fam_block (hP.fam.own .ow) (by show 0 < s'.us.length; rw [hus]; omega)
      rw [huv] at e1
      simp only [Value.slice.injEq] at e1
      refine ⟨ub, 0, e1.1, ?_⟩
      have hub := HS0.out
      rw [Nat.zero_add]
      refine (World.cell?_of_block (hW ub (by omega) (by omega))).trans (hP.fam.cell e2 (iV_at ?_))
      rw [hus]
      simp only [List.getD_eq_getElem?_getD, List.getElem?_eq_getElem hq, Option.getD_some]
    have HUL : Hid (∀ b o, ua = some ⟨b, o, none⟩ → w.heap.size ≤ b) := fun b o hu => by
      have h9 := hP.fam.low .ow b (by rw [huv', hu]; rfl)
      have := HS0.out
      omega
    obtain ⟨m, hm⟩ : ∃ m, m = us.length := ⟨_, rfl⟩
    have HM := Hid.out (p := Hid _) hm
    rw [← hm] at c1 HI
    clear hP hv hb huv huv' hus hPl HPG2 HFR hm
    go_wp2
    refine leaves_cons (f := 44) (args := #[.pointer (some ⟨w.heap.size, 0, none⟩), .pointer (some ⟨w.heap.size + 1, 0, none⟩)]) (by simp) (by simp [go_sem]) ?_
    refine (ccatch_idle ⟨w.heap.size, 0, none⟩ ⟨w.heap.size + 1, 0, none⟩ _).mono ?_
    rintro e u' w'' ⟨rfl, rfl, rfl⟩
    refine ⟨.tuple #[.slice ua m uc, .agg #[.int .i64 0, .int .i64 0, .int .i64 0]], ?_, ⟨ua, uc, by rw [← HM.out], ?_, HUL.out⟩, ?_⟩
    · simp [results, Tryz.results28, go_sem, t0, f0, f1, f2]
    · rw [← HM.out]
      exact HI.out _ fun k h1 h2 => (Below.heap_setCell _ _ _ _ h2).trans ((Below.heap_setCell _ _ _ _ h2).trans ((Below.heap_setCell _ _ _ _ h2).trans (Below.heap_setCell _ _ _ _ h1)))
    · exact (((HB.out.setCell (p := ⟨w.heap.size, 0, none⟩) (Nat.le_refl _) _).setCell (p := ⟨w.heap.size + 1, 0, none⟩) (Nat.le_succ _) _).setCell (p := ⟨w.heap.size + 1, 1, none⟩) (Nat.le_succ _) _).setCell (p := ⟨w.heap.size + 1, 2, none⟩) (Nat.le_succ _) _
end

section
open Go.RowKit

theorem wk_text {k n p : Int} {t : List UInt8} {ks : List Nd} (h : Wk (.mk k n p t ks)) : t.length ≤ 1000 := by
  have hnm : ∀ {t : List UInt8}, NameOk t → t.length ≤ 1000 := fun h => Nat.le_trans h.2.1 (by decide)
  rcases h with h | h | h
  · unfold WfN at h
    split at h
    · rcases wfx_cases h with ⟨_, _, e, _⟩ | ⟨_, _, e, h2⟩ | ⟨_, _, _, e, _⟩ | ⟨_, _, _, _, e, h2, _⟩
      · rw [Nd.mk.injEq] at e
        rw [e.2.2.2.1]
        simp
      · rw [Nd.mk.injEq] at e
        rw [e.2.2.2.1]
        exact hnm h2
      · rw [Nd.mk.injEq] at e
        rw [e.2.2.2.1]
        simp
      · rw [Nd.mk.injEq] at e
        rw [e.2.2.2.1]
        exact Nat.le_trans (lvl_len h2) (by decide)
    · obtain ⟨-, hs, -⟩ := h
      rcases hs with h | h | h | h | h | h | h | h | h
      · rw [h.2.1]; simp
      · exact hnm h.2.1
      · exact hnm h.2.1
      · exact hnm h.2.1
      · rw [h.2.1]; simp
      · rw [h.2.1]; simp
      · rw [h.2.1]; simp
      · exact hnm h.2.1
      · rw [h.2.1]; simp
  · unfold WfG at h
    rcases h with h | h
    · exact hnm h.2.1
    · exact hnm h.2.2.1
  · unfold WfT at h
    rw [h.2.2.1]
    simp
mutual
theorem wk_txt : ∀ (x : Nd) (b : Nat) (r : Row), Wk x → r ∈ flat b x → r.text.length ≤ 1000
  | .mk k n p t ks, b, r, hw, h => by
    rw [flat] at h
    rcases List.mem_append.1 h with h | h
    · exact wks_txt ks b r (wk_kids hw).1 h
    · obtain rfl : r = ⟨k, n, p, t, idxs b ks⟩ := by simpa using h
      exact wk_text hw
theorem wks_txt : ∀ (ks : List Nd) (b : Nat) (r : Row), (∀ y, y ∈ ks → Wk y) → r ∈ flats b ks → r.text.length ≤ 1000
  | [], _, r, _, h => by simp [flats] at h
  | x :: l, b, r, hw, h => by
    rw [flats] at h
    rcases List.mem_append.1 h with h | h
    · exact wk_txt x b r (hw x (List.mem_cons_self ..)) h
    · exact wks_txt l _ r (fun y hy => hw y (List.mem_cons_of_mem _ hy)) h
end
theorem txt_prog {ks : List Nd} (h : WfP ks) : TxtOk (rowsP ks) := fun i => by
  unfold rowA
  rw [List.getD_eq_getElem?_getD]
  cases e : (rowsP ks)[i]? with
  | none => simp
  | some r =>
    have hm := List.mem_of_getElem? e
    unfold rowsP at hm
    rcases List.mem_append.1 hm with hm | hm
    · exact wks_txt ks 0 r (fun y hy => Or.inr (wfp_mem9 h y hy)) hm
    · obtain rfl : r = ⟨1, 0, 0, [], idxs 0 ks⟩ := by simpa using hm
      simp
set_option maxRecDepth 100000 in
set_option maxHeartbeats 1600000 in
theorem check_bad (s : ByteArray) (w : World) (hE : LEnv w) (c a : Int) (hs : parseT s.data.toList = ([], (c, a))) (hc0 : c ≠ 0) :
    Calls Tryz.prog 12 #[.string s] w fun e w' => ChkQ w.heap.size (.error (c, a)) e w' ∧ Below w.heap.size w w' := by
  have hc : (c != 0) = true := by simpa using hc0
  have HS := Hid.out (p := Hid _) hs
  have hA : Below w.heap.size w (w.alloc (.cells #[.int .i64 0, .int .i64 0, .int .i64 0] 25)) := (Below.refl _ _).alloc (Nat.le_refl _) _
  have HE := Hid.out (p := Hid _) (hE.below hA)
  clear hs hc0 hE hA
  go_enter Tryz.func12, Tryz.ntmps12
  go_wp2_with fail
  refine Calls.mono (parse_any s _ HE.out) ?_
  rintro e w1 ⟨⟨v, rfl, hown⟩, hb1⟩
  rw [HS.out] at hown ⊢
  obtain ⟨la, lc, rfl, -⟩ := hown.read
  have hx := (hb1.block w.heap.size (by simp)).trans (heap_alloc_new w _)
  have p0 := box_cell (i := 0) hx rfl
  have p1 := box_cell (i := 1) hx rfl
  have p2 := box_cell (i := 2) hx rfl
  have pf := fun j => box_free (i := j) hx
  have hl1 : w.heap.size < w1.heap.size := Nat.lt_of_lt_of_le (by simp) hb1.size
  have HB1 : Hid (Below w.heap.size w w1) := ((Below.refl w.heap.size w).alloc (Nat.le_refl _) _).trans (hb1.mono (by simp))
  clear hx hown hb1
  simp only at p0 p1 p2 ⊢
  go_wp2_with fail
  go_region
  go_wp2_with fail
  refine bodyPost_ret (v := .tuple #[nilV, .agg #[.int .i64 c, .int .i64 0, .int .i64 a]]) (by simp [results, Tryz.results12, go_sem, p0, p1, p2, hl1]) rfl ⟨rfl, ?_⟩
  exact ((((HB1.out.setCell (Nat.le_refl _) _).setCell (Nat.le_refl _) _).setCell (Nat.le_refl _) _).alloc (by have := HB1.out.size; simp [World.setCell]; omega) _).drew
set_option maxRecDepth 100000 in
set_option maxHeartbeats 1600000 in
theorem check_good (s : ByteArray) (w : World) (hE : LEnv w) {ks : List Nd} (hs : parseT s.data.toList = (rowsP ks, (0, 0))) (hw : WfP ks) (hsz : ndsSize ks + 1 ≤ 600) :
    Calls Tryz.prog 12 #[.string s] w fun e w' => ChkQ w.heap.size (checkC ks) e w' ∧ Below w.heap.size w w' := by
  have HS := Hid.out (p := Hid _) hs
  have hA : Below w.heap.size w (w.alloc (.cells #[.int .i64 0, .int .i64 0, .int .i64 0] 25)) := (Below.refl _ _).alloc (Nat.le_refl _) _
  have HE := Hid.out (p := Hid _) (hE.below hA)
  have HCA : Hid (∀ (W : World) (a : Option Addr) (c : Nat), NdsR W a (rowsP ks) → Calls Tryz.prog 28 #[.slice a (rowsP ks).length c] W fun e w' => ChkQ W.heap.size (checkC ks) e w' ∧ Below W.heap.size W w') := fun W a c h => checkAll_any W a c h hw hsz (txt_prog hw)
  obtain ⟨R, hR⟩ : ∃ R, R = checkC ks := ⟨_, rfl⟩
  rw [← hR] at HCA ⊢
  clear hs hE hA hw hsz hR
  go_enter Tryz.func12, Tryz.ntmps12
  go_wp2_with fail
  refine Calls.mono (parse_any s _ HE.out) ?_
  rintro e w1 ⟨⟨v, rfl, hown⟩, hb1⟩
  rw [HS.out] at hown ⊢
  obtain ⟨la, lc, rfl, hr1⟩ := hown.read
  simp only at hr1 ⊢
  have hx := (hb1.block w.heap.size (by simp)).trans (heap_alloc_new w _)
  have hl1 : w.heap.size < w1.heap.size := Nat.lt_of_lt_of_le (by simp) hb1.size
  have HB1 : Hid (Below w.heap.size w w1) := ((Below.refl w.heap.size w).alloc (Nat.le_refl _) _).trans (hb1.mono (by simp))
  have hB2 := (Below.refl w1.heap.size w1).alloc (Nat.le_refl _) (.cells #[.int .i64 0, .int .i64 0, .int .i64 0] 25)
  have HC2 : Hid (Calls Tryz.prog 28 #[.slice la (rowsP ks).length lc] (w1.alloc (.cells #[.int .i64 0, .int .i64 0, .int .i64 0] 25)) fun e w' => ChkQ (w1.heap.size + 1) R e w' ∧ Below (w1.heap.size + 1) (w1.alloc (.cells #[.int .i64 0, .int .i64 0, .int .i64 0] 25)) w') := by
    have := HCA.out _ la lc (hr1.below hB2)
    rw [World.size_alloc] at this
    exact this
  have HX : Hid (∀ W', Below (w1.heap.size + 1) (w1.alloc (.cells #[.int .i64 0, .int .i64 0, .int .i64 0] 25)) W' → W'.heap[w.heap.size]? = some (.cells #[.int .i64 0, .int .i64 0, .int .i64 0] 25) ∧ Below w.heap.size w W') := fun W' h => ⟨(h.block w.heap.size (by omega)).trans ((hB2.block w.heap.size hl1).trans hx), HB1.out.trans ((hB2.mono (Nat.le_of_lt hl1)).trans (h.mono (by omega)))⟩
  obtain ⟨n, hn⟩ : ∃ n, n = (rowsP ks).length := ⟨_, rfl⟩
  rw [← hn] at HC2 ⊢
  clear hown hb1 hr1 hx hB2 hn HCA HS
  go_wp2_with fail
  refine Calls.mono HC2.out ?_
  rintro e w2 ⟨hq, hb2⟩
  obtain ⟨hx2, hB⟩ := HX.out w2 hb2
  have p0 := box_cell (i := 0) hx2 rfl
  have p1 := box_cell (i := 1) hx2 rfl
  have p2 := box_cell (i := 2) hx2 rfl
  have pf := fun j => box_free (i := j) hx2
  have hl2 := lt_of_cell p0
  have HB2 := Hid.out (p := Hid _) hB
  cases R with
  | error f =>
    obtain rfl : e = _ := hq
    obtain ⟨f1, f2⟩ := f
    clear hb2 hx2 hB HC2 HX
    simp only
    go_wp2_with fail
    refine bodyPost_ret (v := .tuple #[nilV, .agg #[.int .i64 f1, .int .i64 0, .int .i64 f2]]) (by simp [results, Tryz.results12, go_sem, p0, p1, p2]) rfl ⟨rfl, ?_⟩
    exact ((HB2.out.setCell (Nat.le_refl _) _).setCell (Nat.le_refl _) _).setCell (Nat.le_refl _) _
  | ok us =>
    obtain ⟨ua, uc, rfl, hi, hul⟩ := hq
    have HI : Hid (∀ W', (∀ g, g ≠ w.heap.size → W'.heap[g]? = w2.heap[g]?) → IIn W' ua us.length (fun j => us.getD j 0)) := fun W' hW q hq => by
      obtain ⟨ub, uo, e1, e2⟩ := hi q hq
      refine ⟨ub, uo, e1, ?_⟩
      have h9 := hul ub uo e1
      exact (World.cell?_of_block (hW ub (by omega))).trans e2
    have HUL : Hid (∀ b o, ua = some ⟨b, o, none⟩ → w.heap.size ≤ b) := fun b o hu => by
      have h9 := hul b o hu
      omega
    obtain ⟨m, hm⟩ : ∃ m, m = us.length := ⟨_, rfl⟩
    have HM := Hid.out (p := Hid _) hm
    rw [← hm] at HI ⊢
    clear hb2 hx2 hB HC2 HX hi hm hul
    go_wp2_with fail
    refine bodyPost_ret (v := .tuple #[.slice ua m uc, .agg #[.int .i64 0, .int .i64 0, .int .i64 0]]) (by simp [results, Tryz.results12, go_sem, p0, p1, p2]) rfl ⟨⟨ua, uc, by rw [← HM.out], ?_, HUL.out⟩, ?_⟩
    · rw [← HM.out]
      exact HI.out _ fun g hg => (Below.heap_setCell _ _ _ _ hg).trans ((Below.heap_setCell _ _ _ _ hg).trans (Below.heap_setCell _ _ _ _ hg))
    · exact ((HB2.out.setCell (Nat.le_refl _) _).setCell (Nat.le_refl _) _).setCell (Nat.le_refl _) _
end

section
open Go.RowKit

section
variable {rows : List Row}
theorem CRes.and_err {x : CRes} {g : Cs → CRes} {f : Int × Int} (h : x.and g = .error f) : x = .error f ∨ ∃ s, x = .ok s ∧ g s = .error f := by
  cases x with
  | error e => exact Or.inl h
  | ok s => exact Or.inr ⟨s, rfl, h⟩
theorem put_err {i : Nat} {s : Cs} {f : Int × Int} (h : putC rows i s = .error f) : f.1 ≠ 0 := by
  unfold putC at h
  split at h
  · obtain rfl := Except.error.inj h
    show (8 : Int) ≠ 0
    decide
  · cases h
theorem most_err {i m : Nat} {s : Cs} {f : Int × Int} (h : mostC rows i m s = .error f) : f.1 ≠ 0 := by
  unfold mostC at h
  split at h
  · obtain rfl := Except.error.inj h
    show (1 : Int) ≠ 0
    decide
  · cases h
theorem use_err {i : Nat} {p : Int → Bool} {s : Cs} {f : Int × Int} (h : useC rows i p s = .error f) : f.1 ≠ 0 := by
  unfold useC at h
  split at h
  · obtain rfl := Except.error.inj h
    show (7 : Int) ≠ 0
    decide
  · split at h
    · cases h
    · obtain rfl := Except.error.inj h
      show (9 : Int) ≠ 0
      decide
theorem look_err {i : Nat} {k : Int} {s : Cs} {f : Int × Int} (h : lookC rows k i s = .error f) : f.1 ≠ 0 := by
  unfold lookC at h
  split at h
  · rcases CRes.and_err h with h | ⟨_, _, h⟩
    · exact put_err h
    · exact most_err h
  · split at h
    · rcases CRes.and_err h with h | ⟨_, _, h⟩
      · exact put_err h
      · exact most_err h
    · split at h
      · exact most_err h
      · split at h
        · exact put_err h
        · split at h
          · exact use_err h
          · split at h
            · exact use_err h
            · cases h
mutual
theorem ck_err : ∀ (x : Nd) (b : Nat) (s : Cs) (f : Int × Int), ckN rows x b s = .error f → f.1 ≠ 0
  | .mk k n p t ks, b, s, f, h => by
    rw [ckN] at h
    split at h
    · rcases CRes.and_err h with h | ⟨_, _, h⟩
      · rcases CRes.and_err h with h | ⟨_, _, h⟩
        · exact cks_err ks _ b _ f h
        · cases h
      · exact look_err h
    · rcases CRes.and_err h with h | ⟨_, _, h⟩
      · exact cks_err ks _ b _ f h
      · exact look_err h
theorem cks_err : ∀ (ks : List Nd) (c : Bool) (b : Nat) (s : Cs) (f : Int × Int), ckNs rows c ks b s = .error f → f.1 ≠ 0
  | [], _, b, s, f, h => by
    rw [ckNs] at h
    cases h
  | x :: r, c, b, s, f, h => by
    rw [ckNs] at h
    rcases CRes.and_err h with h | ⟨s1, _, h⟩
    · split at h
      · exact use_err h
      · exact ck_err x b s f h
    · exact cks_err r false _ s1 f h
end
end
theorem checkC_err {ks : List Nd} {f : Int × Int} (h : checkC ks = .error f) : f.1 ≠ 0 := by
  cases hck : ckNs (rowsP ks) false ks 0 (csN (rowsP ks).length) with
  | error g =>
    rw [ckC_err hck] at h
    obtain rfl := Except.error.inj h
    exact cks_err ks _ _ _ _ hck
  | ok s =>
    rw [ckC_ok hck] at h
    split at h
    · obtain rfl := Except.error.inj h
      decide
    · cases h
theorem checkC_len {ks : List Nd} {us : List Int} (h : checkC ks = .ok us) (hsz : ndsSize ks + 1 ≤ 600) : us.length ≤ 600 := by
  have hrl : (rowsP ks).length = ndsSize ks + 1 := by unfold rowsP; rw [List.length_append, flats_len]; rfl
  cases hck : ckNs (rowsP ks) false ks 0 (csN (rowsP ks).length) with
  | error f =>
    rw [ckC_err hck] at h
    cases h
  | ok s =>
    rw [ckC_ok hck] at h
    have hok : CsOk (rowsP ks) (csN (rowsP ks).length) := csN_ok rfl
    have h1 := ((cks_ok ks false 0 _ s (FsAt.all ks) hck hok.ne).ok hok).us
    split at h
    · cases h
    · obtain rfl := Except.ok.inj h
      omega
set_option maxRecDepth 100000 in
set_option maxHeartbeats 1600000 in
theorem ct_no (s : ByteArray) (w : World) (c a : Int) (hc0 : c ≠ 0) (h1 : Calls Tryz.prog 12 #[.string s] w fun e w' => e = .returned (.tuple #[nilV, .agg #[.int .i64 c, .int .i64 0, .int .i64 a]]) ∧ Below w.heap.size w w')
    (h2 : ∀ W, Calls Tryz.prog 13 #[.string s] W fun e w' => (∃ p, e = .returned (.tuple #[.pointer p, .agg #[.int .i64 c, .int .i64 0, .int .i64 a]])) ∧ Below W.heap.size W w') :
    Calls Tryz.prog 6 #[.string s] w fun e w' => e = .returned (.bool true) ∧ Below w.heap.size w w' := by
  have hc : (c != 0) = true := by simpa using hc0
  have H1 : Hid (Calls Tryz.prog 12 #[.string s] w fun e w' => e = .returned (.tuple #[nilV, .agg #[.int .i64 c, .int .i64 0, .int .i64 a]]) ∧ Below w.heap.size w w') := h1
  have H2 : Hid (∀ W, Calls Tryz.prog 13 #[.string s] W fun e w' => (∃ p, e = .returned (.tuple #[.pointer p, .agg #[.int .i64 c, .int .i64 0, .int .i64 a]])) ∧ Below W.heap.size W w') := h2
  clear h1 h2 hc0
  go_enter Tryz.func6, Tryz.ntmps6
  go_wp2_with fail
  refine Calls.mono H1.out ?_
  rintro e w1 ⟨rfl, hb1⟩
  have HB1 := Hid.out (p := Hid _) hb1
  clear hb1 H1
  go_wp2_with fail
  refine Calls.mono (H2.out _) ?_
  rintro e w2 ⟨⟨p, rfl⟩, hb2⟩
  have hA := (Below.refl w1.heap.size w1).alloc (Nat.le_refl _) (.cells #[.int .i64 c, .int .i64 0, .int .i64 a] 25)
  have hx2 := (hb2.block w1.heap.size (by simp)).trans (heap_alloc_new w1 _)
  have p0 := box_cell (i := 0) hx2 rfl
  have p1 := box_cell (i := 1) hx2 rfl
  have p2 := box_cell (i := 2) hx2 rfl
  have hl2 := lt_of_cell p0
  have h12 := hA.trans (hb2.mono (by simp))
  have HB2 : Hid (Below w.heap.size w w2) := HB1.out.trans (h12.mono HB1.out.size)
  have HB3 : Hid (Below w.heap.size w (w2.alloc (.cells #[.int .i64 c, .int .i64 0, .int .i64 a] 25))) := HB2.out.alloc HB2.out.size _
  have p0u := fun o => cell_up p0 o
  have p1u := fun o => cell_up p1 o
  have p2u := fun o => cell_up p2 o
  clear hb2 hA hx2 h12 H2
  go_wp2_with fail
  go_ret
  exact ⟨rfl, HB3.out⟩
set_option maxRecDepth 100000 in
set_option maxHeartbeats 1600000 in
theorem ct_yes (s : ByteArray) (w : World) (us : List Int) (hus : us.length ≤ 600) (h1 : Calls Tryz.prog 12 #[.string s] w fun e w' => ChkQ w.heap.size (.ok us) e w' ∧ Below w.heap.size w w')
    (h2 : ∀ W, Calls Tryz.prog 13 #[.string s] W fun e w' => (∃ P ua uc, e = .returned (.tuple #[.pointer (some ⟨P, 0, none⟩), .agg #[.int .i64 0, .int .i64 0, .int .i64 0]]) ∧ w'.cell? ⟨P, 1, none⟩ = some (.slice ua us.length uc) ∧ IIn w' ua us.length (fun j => us.getD j 0)) ∧ Below W.heap.size W w') :
    Calls Tryz.prog 6 #[.string s] w fun e w' => e = .returned (.bool true) ∧ Below w.heap.size w w' := by
  have H1 : Hid (Calls Tryz.prog 12 #[.string s] w fun e w' => ChkQ w.heap.size (.ok us) e w' ∧ Below w.heap.size w w') := h1
  obtain ⟨n, hn⟩ : ∃ n, n = us.length := ⟨_, rfl⟩
  rw [← hn] at h2 hus
  have H2 : Hid (∀ W, Calls Tryz.prog 13 #[.string s] W fun e w' => (∃ P ua uc, e = .returned (.tuple #[.pointer (some ⟨P, 0, none⟩), .agg #[.int .i64 0, .int .i64 0, .int .i64 0]]) ∧ w'.cell? ⟨P, 1, none⟩ = some (.slice ua n uc) ∧ IIn w' ua n (fun j => us.getD j 0)) ∧ Below W.heap.size W w') := h2
  have HN := Hid.out (p := Hid _) hn
  clear h1 h2 hn
  go_enter Tryz.func6, Tryz.ntmps6
  go_wp2_with fail
  refine Calls.mono H1.out ?_
  rintro e w1 ⟨⟨la, lc, rfl, hi, -⟩, hb1⟩
  rw [← HN.out] at hi ⊢
  have HI1 : Hid (IIn w1 la n (fun j => us.getD j 0)) := hi
  have HB1 := Hid.out (p := Hid _) hb1
  clear hb1 H1 hi
  go_wp2_with fail
  refine Calls.mono (H2.out _) ?_
  rintro e w2 ⟨⟨P, ua, uc, rfl, c1, hi⟩, hb2⟩
  have hA := (Below.refl w1.heap.size w1).alloc (Nat.le_refl _) (.cells #[.int .i64 0, .int .i64 0, .int .i64 0] 25)
  have h12 := hA.trans (hb2.mono (by simp))
  have hA2 := (Below.refl w2.heap.size w2).alloc (Nat.le_refl _) (.cells #[.int .i64 0, .int .i64 0, .int .i64 0] 25)
  have hx2 := (hb2.block w1.heap.size (by simp)).trans (heap_alloc_new w1 _)
  have HIN : Hid (Calls Tryz.prog 14 #[.slice la n lc, .slice ua n uc] (w2.alloc (.cells #[.int .i64 0, .int .i64 0, .int .i64 0] 25)) fun e w' => e = .returned (.bool true) ∧ Below (w2.alloc (.cells #[.int .i64 0, .int .i64 0, .int .i64 0] 25)).heap.size (w2.alloc (.cells #[.int .i64 0, .int .i64 0, .int .i64 0] 25)) w') := ints_same la ua n lc uc (by omega) _ _ ((HI1.out.below h12).below hA2) (hi.below hA2)
  have hl2 := heap_ltD hx2
  have hlc := lt_of_cell c1
  have c1u := fun o => cell_up c1 o
  have HB2 : Hid (∀ W, Below (w2.alloc (.cells #[.int .i64 0, .int .i64 0, .int .i64 0] 25)).heap.size (w2.alloc (.cells #[.int .i64 0, .int .i64 0, .int .i64 0] 25)) W → Below w.heap.size w W ∧ W.heap[w1.heap.size]? = some (.cells #[.int .i64 0, .int .i64 0, .int .i64 0] 25)) := fun W hW => by
    have h2W := hA2.trans (hW.mono (by simp))
    exact ⟨HB1.out.trans ((h12.trans (h2W.mono h12.size)).mono HB1.out.size), (h2W.block _ hl2).trans hx2⟩
  clear hb2 hA hA2 hx2 h12 hi H2
  go_wp2_with fail
  refine Calls.mono HIN.out ?_
  rintro e w3 ⟨rfl, hb3⟩
  obtain ⟨hB, hx3⟩ := HB2.out w3 hb3
  have p0 := box_cell (i := 0) hx3 rfl
  have HB := Hid.out (p := Hid _) hB
  clear hb3 hB hx3 HB2 HIN c1 c1u
  go_wp2_with fail
  go_ret
  exact ⟨rfl, HB.out⟩
theorem checkTells_any (s : ByteArray) (w : World) (hE : LEnv w) :
    Calls Tryz.prog 6 #[.string s] w fun e w' => e = .returned (.bool true) ∧ Below w.heap.size w w' := by
  rcases parse_cases s.data.toList with ⟨h1, h2⟩ | ⟨ks, hs, hw, hsz⟩
  · have hs : parseT s.data.toList = ([], ((parseT s.data.toList).2.1, (parseT s.data.toList).2.2)) := by rw [← h1]
    exact ct_no s w _ _ h2 (check_bad s w hE _ _ hs h2) fun W => (rof_bad s W _ _ hs h2).mono fun e w' ⟨he, hb⟩ => ⟨⟨none, he⟩, hb⟩
  · have hg := check_good s w hE hs hw hsz
    have ho := fun W => rof_good s W hs hw hsz
    unfold OfQ at ho
    cases hC : checkC ks with
    | error f =>
      rw [hC] at hg ho
      exact ct_no s w _ _ (checkC_err hC) hg fun W => (ho W).mono fun e w' ⟨⟨_, _, P, _, he⟩, hb⟩ => ⟨⟨some ⟨P, 0, none⟩, he⟩, hb⟩
    | ok us =>
      rw [hC] at hg ho
      refine ct_yes s w us (checkC_len hC hsz) hg fun W => (ho W).mono fun e w' ⟨⟨_, _, P, he, hS⟩, hb⟩ => ⟨?_, hb⟩
      obtain ⟨ua, uc, c1, hi⟩ := hS.c1
      exact ⟨P, ua, uc, he, c1, hi⟩
end

end Go.Proofs.YtclnjhffcfkihaeGreatDoor
