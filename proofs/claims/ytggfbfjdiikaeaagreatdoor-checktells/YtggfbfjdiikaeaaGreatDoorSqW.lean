/-
  The program's Parse.
  The program's checkAll.
  What Parse tells of a text: a fault, or a program's rows.
  Texts of nodes are short.
  Faults of programs have a code; owners are no more than nodes.
-/
import Derived.Test.YtggfbfjdiikaeaaGreatDoorSqV
import Derived.Test.YtggfbfjdiikaeaaGreatDoorLexB2
import Derived.Test.YtggfbfjdiikaeaaGreatDoorChkR1
import Derived.Test.YtggfbfjdiikaeaaGreatDoorSynE
import Derived.Test.YtggfbfjdiikaeaaGreatDoorSynO
import Derived.Test.YtggfbfjdiikaeaaGreatDoorLexA9
namespace Go.Proofs.YtggfbfjdiikaeaaGreatDoor
section
open Go.RowKit

attribute [local go_sem ↓] appS_eq

theorem ta_fault (a b : Int) (w : World) : (Instr.typeAssert (.iface 25 (.agg #[.int .i64 a, .int .i64 0, .int .i64 b])) 20 25 true).run Tryz.prog w = .ok (.tuple #[.agg #[.int .i64 a, .int .i64 0, .int .i64 b], .bool true]) w := by kernel_rfl

set_option maxRecDepth 100000 in
set_option maxHeartbeats 400000 in
theorem pcatch_idle (p q : Addr) (w : World) :
    CallsD Tryz.prog 62 #[.pointer (some p), .pointer (some q)] .returning w fun e u' w' => e = .returned (.tuple #[]) ∧ u' = .returning ∧ w' = w := by
  refine callsD_of_wpS Tryz.func62 rfl fun c₀ cs hu => ?_
  simp only [Tryz.ntmps62, List.size_toArray, List.length_cons, List.length_nil, Nat.reduceAdd, Nat.reduceSub, Array.replicate_succ, Array.replicate_zero, List.push_toArray, List.append_toArray, List.nil_append, List.cons_append]
  refine wpS_recover_no hu ?_
  refine wpS_of_wp ?_
  simp only [Act.put, Array.setIfInBounds, List.size_toArray, List.length_cons, List.length_nil, Nat.reduceAdd, Nat.reduceLT, dite_true, List.set_toArray, List.set_cons_succ, List.set_cons_zero]
  go_wp2_with fail
  exact ⟨rfl, .returning, by cases c₀; simp_all, _, results_none rfl _ _ _, rfl, rfl, rfl⟩

set_option maxRecDepth 100000 in
set_option maxHeartbeats 1600000 in
theorem pcatch_fault (tb fb B : Nat) (q : Int × Int) (w : World) (v a b c : Value) (h : Vars w tb fb v a b c) (h1 : B ≤ tb) (h2 : B ≤ fb) (hB : B ≤ w.heap.size) :
    CallsD Tryz.prog 62 #[.pointer (some ⟨tb, 0, none⟩), .pointer (some ⟨fb, 0, none⟩)] (.panicking (badF q)) w fun e u' w' => e = .returned (.tuple #[]) ∧ u' = .panicking [{ v := .iface 25 (.agg #[.int .i64 q.1, .int .i64 0, .int .i64 q.2]), recovered := true }] ∧ w'.cell? ⟨tb, 0, none⟩ = some nilV ∧ w'.cell? ⟨fb, 0, none⟩ = some (.int .i64 q.1) ∧ w'.cell? ⟨fb, 1, none⟩ = some (.int .i64 0) ∧ w'.cell? ⟨fb, 2, none⟩ = some (.int .i64 q.2) ∧ Below B w w' := by
  have ta := ta_fault q.1 q.2
  have t0 := h.t0
  have f0 := h.f0
  have f1 := h.f1
  have f2 := h.f2
  have tz := h.tz
  have fz := h.fz
  have hn1 : ¬ tb = fb := h.ne
  have hn2 : ¬ fb = tb := fun e => h.ne e.symm
  have lt1 := lt_of_cell t0
  have lt2 := lt_of_cell f0
  refine callsD_of_wpS Tryz.func62 rfl fun c₀ cs hu => ?_
  simp only [Tryz.ntmps62, List.size_toArray, List.length_cons, List.length_nil, Nat.reduceAdd, Nat.reduceSub, Array.replicate_succ, Array.replicate_zero, List.push_toArray, List.append_toArray, List.nil_append, List.cons_append]
  refine wpS_recover hu ?_
  refine wpS_of_wp ?_
  simp only [Act.put, Array.setIfInBounds, List.size_toArray, List.length_cons, List.length_nil, Nat.reduceAdd, Nat.reduceLT, dite_true, List.set_toArray, List.set_cons_succ, List.set_cons_zero]
  go_wp2_with fail
  go_region
  all_goals go_wp2_with fail
  refine ⟨rfl, _, rfl, _, results_none rfl _ _ _, rfl, rfl, ?_, ?_, ?_, ?_, ?_⟩
  · simp [go_sem, t0, lt1]
  · simp [go_sem, f0, lt2]
  · simp [go_sem, f1, lt2]
  · simp [go_sem, f2, lt2]
  · exact ((((((Below.refl B w).setCell (p := ⟨tb, 0, none⟩) h1 _).setCell (p := ⟨fb, 0, none⟩) h2 _).setCell (p := ⟨fb, 1, none⟩) h2 _).setCell (p := ⟨fb, 2, none⟩) h2 _).alloc (by simp [World.setCell]; omega) _).drew

/-- The program's parser at its beginning. -/
theorem gp_start (W : World) (P : Nat) (T : List Tok) (E : Int) (tv : Value) (hP : W.heap[P]? = some (.cells #[tv, .int .i64 0, .int .i64 0, nilV] 111)) (ht : OwnT W 0 tv (T ++ [endT E])) (hap : tv.ownBlock ≠ some P) (hT : T.length ≤ 4000) (hk : ToksOk T) :
    GoP ⟨W, nilV, P, P, T, E, tv, fun _ => False⟩ W 0 none [] T [] := by
  have hPl : P < W.heap.size := by
    rcases Nat.lt_or_ge P W.heap.size with h1 | h1
    · exact h1
    · rw [Array.getElem?_eq_none h1] at hP; cases hP
  exact ⟨nilV, 0, [], FrN.of (Only.refl _ _), fun z hz => (by cases hz), fun p hp => (by simp at hp), ⟨hP, ht, hap, Nat.zero_le _, hT, hk, by decide⟩, rfl, ⟨World.ownsRow_nil _ _ _ _, Nat.le_of_lt hPl, by simp [Value.ownBlock], fun g hg => by simp [Value.ownBlock] at hg⟩, fun x hx => by simp at hx, by simp, rfl, fun y hy => by simp at hy⟩
/-- What Parse tells of a text's trees. -/
def prsZ (E : Int) (Z : TRes (List Nd)) : List Row × (Int × Int) :=
  match Z with
  | .error f => ([], f)
  | .ok (ks, _) => if 600 < ndsSize ks + 1 then ([], (10, E)) else (flats 0 ks ++ [⟨1, 0, 0, [], idxs 0 ks⟩], (0, 0))

set_option maxRecDepth 100000 in
set_option maxHeartbeats 1600000 in
theorem door_fault (w w1 : World) (B : Nat) (q : Int × Int) (y0 y1 y2 y3 y6 y7 y8 y9 y10 y11 y12 y13 y14 y15 y16 y17 v : Value) (h : Vars w1 w.heap.size (w.heap.size + 1) v (.int .i64 0) (.int .i64 0) (.int .i64 0)) (hB : B ≤ w.heap.size) (hb : Below B w w1) :
    bodyPostD Tryz.prog Tryz.f45 (fun e w' => ParseQ w.heap.size ([], q) e w' ∧ Below B w w') (.panic (badF q)) { tmps := #[y0, y1, y2, y3, .pointer (some ⟨w.heap.size, 0, none⟩), .pointer (some ⟨w.heap.size + 1, 0, none⟩), y6, y7, y8, y9, y10, y11, y12, y13, y14, y15, y16, y17], defers := [{ target := .fn (.func 62) #[.pointer (some ⟨w.heap.size, 0, none⟩), .pointer (some ⟨w.heap.size + 1, 0, none⟩)], args := #[] }] } w1 := by
  refine leaves_cons (f := 62) (args := #[.pointer (some ⟨w.heap.size, 0, none⟩), .pointer (some ⟨w.heap.size + 1, 0, none⟩)]) (by simp) (by simp [go_sem]) ?_
  refine (pcatch_fault w.heap.size (w.heap.size + 1) B q w1 _ _ _ _ h hB (by omega) (Nat.le_trans hB hb.size)).mono ?_
  rintro e u' w'' ⟨rfl, rfl, t0, f0, f1, f2, hb2⟩
  refine ⟨.tuple #[nilV, .agg #[.int .i64 q.1, .int .i64 0, .int .i64 q.2]], ?_, ⟨nilV, rfl, nodes_nil _ _⟩, hb.trans hb2⟩
  simp [results, Tryz.results45, go_sem, t0, f0, f1, f2]

set_option maxRecDepth 100000 in
set_option maxHeartbeats 3200000 in
theorem parseAll_any (T : List Tok) (hk : ToksOk T) (hT : T.length ≤ 4000) (E : Int) (la : Option Addr) (lc B : Nat) (w : World) (hown : OwnT w B (.slice la T.length lc) T) (hB : B ≤ w.heap.size) (Z : TRes (List Nd)) (hZ : progT E T = Z) :
    Calls Tryz.prog 45 #[.slice la T.length lc, .int .i64 E] w fun e w' => ParseQ w.heap.size (prsZ E Z) e w' ∧ Below B w w' := by
  have hmf : ∀ (fn : Fn) (first cap : Array Value) (w : World), (Instr.makeFunc fn first cap).run Tryz.prog w = .ok (.func fn first cap) w := fun _ _ _ _ => rfl
  obtain ⟨R, hR⟩ : ∃ R, R = prsZ E Z := ⟨_, rfl⟩
  rw [← hR]
  have hb2 : Below w.heap.size w ((w.alloc (.cells #[.slice none 0 0] 32)).alloc (.cells #[.int .i64 0, .int .i64 0, .int .i64 0] 25)) := ((Below.refl _ _).alloc (Nat.le_refl _) _).alloc (by simp) _
  obtain ⟨g, cap, w3, r1, r2, r3⟩ := app_tok hown hb2 hB (endT E) (by omega)
  have hbB := app_tok_below hown hb2 r3 hB (hb2.mono hB)
  have hs3 : w.heap.size + 3 ≤ w3.heap.size := by have := r3.size; simpa using this
  have hlt : ∀ k, (Value.slice la T.length lc).ownBlock = some k → k < w.heap.size := fun k hk => (hown.lt k hk).2
  have hv0 : w3.heap[w.heap.size]? = some (.cells #[.slice none 0 0] 32) := by
    refine (r3.block w.heap.size (by simp; omega) (fun e => by have := hlt _ e.symm; omega)).trans ?_
    exact box_later (box_later (heap_alloc_new _ _) _) _
  have hv1 : w3.heap[w.heap.size + 1]? = some (.cells #[.int .i64 0, .int .i64 0, .int .i64 0] 25) := by
    refine (r3.block (w.heap.size + 1) (by simp) (fun e => by have := hlt _ e.symm; omega)).trans ?_
    have e : w.heap.size + 1 = (w.alloc (.cells #[.slice none 0 0] 32)).heap.size := by simp
    rw [e]; exact box_later (heap_alloc_new _ _) _
  obtain ⟨S, hS⟩ : ∃ S, w3.alloc (.cells #[.slice (some ⟨g, 0, none⟩) (T.length + 1) cap, .int .i64 0, .int .i64 0, nilV] 111) = S := ⟨_, rfl⟩
  have hSb : Below w3.heap.size w3 S := by rw [← hS]; exact (Below.refl _ _).alloc (Nat.le_refl _) _
  have hSP : S.heap[w3.heap.size]? = some (.cells #[.slice (some ⟨g, 0, none⟩) (T.length + 1) cap, .int .i64 0, .int .i64 0, nilV] 111) := by rw [← hS]; exact heap_alloc_new _ _
  have hgl : g < w3.heap.size := (r2.lt g rfl).2
  have hst := gp_start S w3.heap.size T E (.slice (some ⟨g, 0, none⟩) (T.length + 1) cap) hSP (own_low (r2.below hSb) (Nat.zero_le _)) (by simp [Value.ownBlock]; omega) hT hk
  have HPG := Hid.out (p := Hid _) (qprogram hst Z hZ)
  have HS0 := Hid.out (p := Hid _) ((hSb.block w.heap.size (by omega)).trans hv0)
  have HS1 := Hid.out (p := Hid _) ((hSb.block (w.heap.size + 1) (by omega)).trans hv1)
  have HBB : Hid (Below B w S) := hbB.trans (hSb.mono (by omega))
  have HSS : Hid (w.heap.size + 3 ≤ w3.heap.size ∧ w3.heap.size < S.heap.size) := ⟨hs3, by rw [← hS]; simp⟩
  have HSE := Hid.out (p := Hid _) hS
  have HFR : Hid (∀ w4, FrP ⟨S, nilV, w3.heap.size, w3.heap.size, T, E, .slice (some ⟨g, 0, none⟩) (T.length + 1) cap, fun _ => False⟩ w4 → Vars w4 w.heap.size (w.heap.size + 1) (.slice none 0 0) (.int .i64 0) (.int .i64 0) (.int .i64 0) ∧ Below B w w4 ∧ w4.heap[w.heap.size]? = some (.cells #[.slice none 0 0] 32) ∧ w4.heap[w.heap.size + 1]? = some (.cells #[.int .i64 0, .int .i64 0, .int .i64 0] 25)) := by
    rintro w4 ⟨lv, hf⟩
    have hx0 := (hf.block w.heap.size (by have := HSS.out; simp only; omega) (by have := HSS.out; simp only; omega) (by simp [Value.ownBlock])).trans HS0.out
    have hx1 := (hf.block (w.heap.size + 1) (by have := HSS.out; simp only; omega) (by have := HSS.out; simp only; omega) (by simp [Value.ownBlock])).trans HS1.out
    refine ⟨⟨box_cell hx0 rfl, box_cell hx1 rfl, box_cell hx1 rfl, box_cell hx1 rfl, box_free hx0, fun i => box_free hx1, by omega⟩, ?_, hx0, hx1⟩
    refine HBB.out.trans ⟨hf.os, hf.tape, hf.output, hf.size, fun k hk1 => hf.block k ?_ ?_ (by simp [Value.ownBlock])⟩
    · have := HSS.out; simp only; omega
    · have := HSS.out; simp only; omega
  have hz2 : ((w.alloc (.cells #[.slice none 0 0] 32)).alloc (.cells #[.int .i64 0, .int .i64 0, .int .i64 0] 25)).heap.size = w.heap.size + 1 + 1 := by simp
  rw [hz2] at r1
  replace r1 : (AppS #[68, 68] 68 #[.slice la T.length lc, .slice (some ⟨w.heap.size + 1 + 1, 0, none⟩) 1 1]).run Tryz.prog (((w.alloc (.cells #[.slice none 0 0] 32)).alloc (.cells #[.int .i64 0, .int .i64 0, .int .i64 0] 25)).alloc (.cells #[.int .i64 0, .int .i64 0, .int .i64 E, .string ⟨#[]⟩] 98)) = .ok (.slice (some ⟨g, 0, none⟩) (T.length + 1) cap) w3 := r1
  clear hz2 hb2 r2 r3 hbB hv0 hv1 hSb hSP hst hS hown hk hZ hlt
  go_enter_defers Tryz.func45, Tryz.ntmps45
  go_wp2_with fail
  rw [HSE.out]
  refine Calls.mono HPG.out ?_
  intro e w4 hq
  cases Z with
  | error f =>
    obtain ⟨rfl, hf⟩ := hq
    obtain ⟨hv, hb, -⟩ := HFR.out _ hf
    obtain rfl : R = ([], f) := hR
    exact door_fault w w4 B f _ _ _ _ _ _ _ _ _ _ _ _ _ _ _ _ _ hv hB hb
  | ok y =>
    obtain ⟨ks, r⟩ := y
    simp only [PgQ] at hq
    by_cases h6 : 600 < ndsSize ks + 1
    · rw [if_pos h6] at hq
      obtain ⟨rfl, hf⟩ := hq
      obtain ⟨hv, hb, -⟩ := HFR.out _ hf
      obtain rfl : R = ([], (10, E)) := by rw [hR]; unfold prsZ; simp only; rw [if_pos h6]
      exact door_fault w w4 B (10, E) _ _ _ _ _ _ _ _ _ _ _ _ _ _ _ _ _ hv hB hb
    · rw [if_neg h6] at hq
      obtain ⟨rfl, lv, hF⟩ := hq
      have HRX : Hid (R = (flats 0 ks ++ [⟨1, 0, 0, [], idxs 0 ks⟩], (0, 0))) := by show _ = _; rw [hR]; unfold prsZ; simp only; rw [if_neg h6]
      obtain ⟨hv, hb, hx0, hx1⟩ := HFR.out _ hF.fr
      obtain ⟨i4, d4, hQ⟩ := hF.q
      have c3 := hQ.c3
      simp only at c3
      obtain ⟨ys, hys, hym, hyk⟩ := hF.lst
      obtain ⟨ka, kc, rfl⟩ := owns_slice hys
      have t0 := hv.t0
      have f0 := hv.f0
      have f1 := hv.f1
      have f2 := hv.f2
      have tz := hv.tz
      have fz := hv.fz
      have HF := Hid.out (p := Hid _) hF
      have HV := Hid.out (p := Hid _) (And.intro hb (And.intro hx0 hx1))
      have HY := Hid.out (p := Hid _) (And.intro hys hyk)
      have hne : w3.heap.size ≠ w.heap.size ∧ w3.heap.size ≠ w.heap.size + 1 := by have := HSS.out; omega
      have hne1 := hne.1
      have hne2 := hne.2
      clear hQ hys hyk hv hb hF hne hR h6 hx0 hx1
      go_wp2
      refine leaves_cons (f := 62) (args := #[.pointer (some ⟨w.heap.size, 0, none⟩), .pointer (some ⟨w.heap.size + 1, 0, none⟩)]) (by simp) (by simp [go_sem]) ?_
      refine (pcatch_idle ⟨w.heap.size, 0, none⟩ ⟨w.heap.size + 1, 0, none⟩ _).mono ?_
      rintro e u' w'' ⟨rfl, rfl, rfl⟩
      rw [HRX.out]
      obtain ⟨hb, hx0, hx1⟩ := HV.out
      obtain ⟨hys, hyk⟩ := HY.out
      refine ⟨.tuple #[.slice ka ys.length kc, .agg #[.int .i64 0, .int .i64 0, .int .i64 0]], ?_, ⟨_, rfl, ?_⟩, ?_⟩
      · simp [results, Tryz.results45, go_sem, t0, f0, f1, f2]
      · have hkp : ∀ k, k ≠ w.heap.size → k ≠ w.heap.size + 1 → ((((w4.setCell ⟨w.heap.size, 0, none⟩ (.slice ka ys.length kc)).setCell ⟨w.heap.size + 1, 0, none⟩ (.int .i64 0)).setCell ⟨w.heap.size + 1, 1, none⟩ (.int .i64 0)).setCell ⟨w.heap.size + 1, 2, none⟩ (.int .i64 0)).heap[k]? = w4.heap[k]? := fun k h1 h2 =>
          (Below.heap_setCell _ _ _ _ h2).trans ((Below.heap_setCell _ _ _ _ h2).trans ((Below.heap_setCell _ _ _ _ h2).trans (Below.heap_setCell _ _ _ _ h1)))
        refine ⟨ys, own_low (fam_keeps hys fun g hg => hkp g (fun e => own_apart hys hx0 (by decide) (by rw [hg, e])) (fun e => own_apart hys hx1 (by decide) (by rw [hg, e]))) (by have := HSS.out; omega), hym, fun y hy => fam_keeps (hyk y hy).2 fun g hg => hkp g (fun e => own_apart (hyk y hy).2 hx0 (by decide) (by rw [hg, e])) (fun e => own_apart (hyk y hy).2 hx1 (by decide) (by rw [hg, e]))⟩
      · exact (((hb.setCell (p := ⟨w.heap.size, 0, none⟩) hB _).setCell (p := ⟨w.heap.size + 1, 0, none⟩) (Nat.le_succ_of_le hB) _).setCell (p := ⟨w.heap.size + 1, 1, none⟩) (Nat.le_succ_of_le hB) _).setCell (p := ⟨w.heap.size + 1, 2, none⟩) (Nat.le_succ_of_le hB) _

set_option maxRecDepth 100000 in
set_option maxHeartbeats 1600000 in
theorem parse_bad (s : ByteArray) (w : World) (hE : LEnv w) (hf : (scanL s.data.toList).2.1 ≠ 0) :
    Calls Tryz.prog 23 #[.string s] w fun e w' => ParseQ w.heap.size (parseT s.data.toList) e w' ∧ Below w.heap.size w w' := by
  obtain ⟨R, hR⟩ : ∃ R, scanL s.data.toList = R := ⟨_, rfl⟩
  have hq : parseT s.data.toList = ([], R.2) := by unfold parseT; rw [if_pos hf, hR]
  rw [hq]
  rw [hR] at hf
  have HR := Hid.out (p := Hid _) hR
  obtain ⟨l, c, a⟩ := R
  have hc : (c != 0) = true := by simpa using hf
  have hA : Below w.heap.size w (w.alloc (.cells #[.int .i64 0, .int .i64 0, .int .i64 0] 25)) := (Below.refl _ _).alloc (Nat.le_refl _) _
  have HE := Hid.out (p := Hid _) (hE.below hA)
  clear hq hR hf hE hA
  go_enter Tryz.func23, Tryz.ntmps23
  go_wp2_with fail
  refine Calls.mono (scan_any s _ HE.out) ?_
  rintro e w1 ⟨⟨v, rfl, hown⟩, hb1⟩
  rw [HR.out] at hown ⊢
  obtain ⟨la, lc, rfl⟩ := hown.form
  have hx := (hb1.block w.heap.size (by simp)).trans (heap_alloc_new w _)
  have p0 := box_cell (i := 0) hx rfl
  have p1 := box_cell (i := 1) hx rfl
  have p2 := box_cell (i := 2) hx rfl
  have pf := fun j => box_free (i := j) hx
  have hl1 : w.heap.size < w1.heap.size := Nat.lt_of_lt_of_le (by simp) hb1.size
  have HB1 : Hid (Below w.heap.size w w1) := ((Below.refl w.heap.size w).alloc (Nat.le_refl _) _).trans (hb1.mono (by simp))
  clear hx hown hb1
  simp only at p0 p1 p2 ⊢
  go_wp2_with fail
  go_region
  go_wp2_with fail
  refine bodyPost_ret (v := .tuple #[nilV, .agg #[.int .i64 c, .int .i64 0, .int .i64 a]]) (by simp [results, Tryz.results23, go_sem, p0, p1, p2, hl1]) rfl ⟨⟨nilV, rfl, nodes_nil _ _⟩, ?_⟩
  exact ((((HB1.out.setCell (Nat.le_refl _) _).setCell (Nat.le_refl _) _).setCell (Nat.le_refl _) _).alloc (by have := HB1.out.size; simp [World.setCell]; omega) _).drew
set_option maxRecDepth 100000 in
set_option maxHeartbeats 1600000 in
theorem parse_good (s : ByteArray) (w : World) (hE : LEnv w) (hf : (scanL s.data.toList).2.1 = 0) :
    Calls Tryz.prog 23 #[.string s] w fun e w' => ParseQ w.heap.size (parseT s.data.toList) e w' ∧ Below w.heap.size w w' := by
  have hl4 := scanL_len s.data.toList
  have hok := scanL_ok s.data.toList
  obtain ⟨T, hT⟩ : ∃ T, (scanL s.data.toList).1 = T := ⟨_, rfl⟩
  obtain ⟨a, ha⟩ : ∃ a, (scanL s.data.toList).2.2 = a := ⟨_, rfl⟩
  rw [hT] at hl4 hok
  obtain ⟨Z, hZ⟩ : ∃ Z, progT (s.size : Int) T = Z := ⟨_, rfl⟩
  have hq : parseT s.data.toList = prsZ (s.size : Int) Z := by
    unfold parseT prsZ
    rw [if_neg (by rw [hf]; simp), hT, ← Lib.size_eq, hZ]
    cases Z with
    | error f => rfl
    | ok y => rfl
  rw [hq]
  have hsc : scanL s.data.toList = (T, 0, a) := by rw [← hT, ← hf, ← ha]
  have HSC := Hid.out (p := Hid _) hsc
  have hA : Below w.heap.size w (w.alloc (.cells #[.int .i64 0, .int .i64 0, .int .i64 0] 25)) := (Below.refl _ _).alloc (Nat.le_refl _) _
  have HE := Hid.out (p := Hid _) (hE.below hA)
  have HPA : Hid (∀ (la : Option Addr) (lc : Nat) (W : World), OwnT W (w.heap.size + 1) (.slice la T.length lc) T → w.heap.size + 1 ≤ W.heap.size → Calls Tryz.prog 45 #[.slice la T.length lc, .int .i64 (s.size : Int)] W fun e w' => ParseQ W.heap.size (prsZ (s.size : Int) Z) e w' ∧ Below (w.heap.size + 1) W w') := fun la lc W h1 h2 => parseAll_any T hok hl4 _ la lc (w.heap.size + 1) W h1 h2 Z hZ
  obtain ⟨R, hR⟩ : ∃ R, prsZ (s.size : Int) Z = R := ⟨_, rfl⟩
  rw [hR] at HPA ⊢
  clear hf hT ha hok hZ hq hsc hA hR hE
  go_enter Tryz.func23, Tryz.ntmps23
  go_wp2_with fail
  refine Calls.mono (scan_any s _ HE.out) ?_
  rintro e w1 ⟨⟨v, rfl, hown⟩, hb1⟩
  rw [HSC.out] at hown ⊢
  obtain ⟨la, lc, rfl⟩ := hown.form
  have hx := (hb1.block w.heap.size (by simp)).trans (heap_alloc_new w _)
  have hl1 : w.heap.size < w1.heap.size := Nat.lt_of_lt_of_le (by simp) hb1.size
  have HB1 : Hid (Below w.heap.size w w1) := ((Below.refl w.heap.size w).alloc (Nat.le_refl _) _).trans (hb1.mono (by simp))
  have HO : Hid (OwnT w1 (w.heap.size + 1) (.slice la T.length lc) T) := own_low hown (by simp)
  have HX := Hid.out (p := Hid _) hx
  clear hx hown hb1
  go_wp2_with fail
  have hB2 := (Below.refl w1.heap.size w1).alloc (Nat.le_refl _) (.cells #[.int .i64 0, .int .i64 0, .int .i64 a] 25)
  refine Calls.mono (HPA.out la lc _ (OwnT.below HO.out hB2) (by simp; omega)) ?_
  rintro e w2 ⟨⟨v, rfl, hn⟩, hb2⟩
  have hx2 := (hb2.block w.heap.size (Nat.lt_succ_self _)).trans ((hB2.block w.heap.size hl1).trans HX.out)
  have p0 := box_cell (i := 0) hx2 rfl
  have p1 := box_cell (i := 1) hx2 rfl
  have p2 := box_cell (i := 2) hx2 rfl
  have pf := fun j => box_free (i := j) hx2
  have hl2 := lt_of_cell p0
  obtain ⟨rs, c, a2⟩ := R
  obtain ⟨ys, hn1, hn2, hn3⟩ := hn
  obtain ⟨va, vc, rfl⟩ := owns_slice hn1
  have HN := Hid.out (p := Hid _) (And.intro hn1 (And.intro hn2 hn3))
  have HX2 := Hid.out (p := Hid _) hx2
  have HB2 : Hid (Below w.heap.size w w2) := HB1.out.trans ((hB2.mono (Nat.le_of_lt hl1)).trans (hb2.mono (Nat.le_succ _)))
  have HZ : Hid (w.heap.size ≤ (w1.alloc (.cells #[.int .i64 0, .int .i64 0, .int .i64 a] 25)).heap.size) := by show _ ≤ _; simp; omega
  clear hx2 hb2 hB2 hn1 hn2 hn3
  go_wp2_with fail
  refine bodyPost_ret (v := .tuple #[.slice va ys.length vc, .agg #[.int .i64 c, .int .i64 0, .int .i64 a2]]) (by simp [results, Tryz.results23, go_sem, p0, p1, p2]) rfl ⟨⟨_, rfl, ?_⟩, ?_⟩
  · obtain ⟨hn1, hn2, hn3⟩ := HN.out
    refine ⟨ys, own_low (fam_keeps hn1 fun g hg => ?_) HZ.out, hn2, fun y hy => fam_keeps (hn3 y hy) fun g hg => ?_⟩
    · have h1 : g ≠ w.heap.size := fun e => own_apart hn1 HX2.out (by decide) (by rw [hg, e])
      exact (Below.heap_setCell _ _ _ _ h1).trans ((Below.heap_setCell _ _ _ _ h1).trans (Below.heap_setCell _ _ _ _ h1))
    · have h1 : g ≠ w.heap.size := fun e => own_apart (hn3 y hy) HX2.out (by decide) (by rw [hg, e])
      exact (Below.heap_setCell _ _ _ _ h1).trans ((Below.heap_setCell _ _ _ _ h1).trans (Below.heap_setCell _ _ _ _ h1))
  · exact ((HB2.out.setCell (Nat.le_refl _) _).setCell (Nat.le_refl _) _).setCell (Nat.le_refl _) _
theorem parse_any (s : ByteArray) (w : World) (hE : LEnv w) :
    Calls Tryz.prog 23 #[.string s] w fun e w' => ParseQ w.heap.size (parseT s.data.toList) e w' ∧ Below w.heap.size w w' := by
  by_cases h : (scanL s.data.toList).2.1 = 0
  · exact parse_good s w hE h
  · exact parse_bad s w hE h
end

section
open Go.RowKit

/-- What is told of a program that was read. -/
def ChkQ (B : Nat) (R : Except (Int × Int) (List Int)) (e : Ending) (w' : World) : Prop := match R with
  | .error f => e = .returned (.tuple #[nilV, .agg #[.int .i64 f.1, .int .i64 0, .int .i64 f.2]])
  | .ok us => ∃ ua uc, e = .returned (.tuple #[.slice ua us.length uc, .agg #[.int .i64 0, .int .i64 0, .int .i64 0]]) ∧ IIn w' ua us.length (fun j => us.getD j 0) ∧ ∀ b o, ua = some ⟨b, o, none⟩ → B ≤ b
set_option maxRecDepth 100000 in
set_option maxHeartbeats 400000 in
theorem ccatch_idle (p q : Addr) (w : World) :
    CallsD Tryz.prog 46 #[.pointer (some p), .pointer (some q)] .returning w fun e u' w' => e = .returned (.tuple #[]) ∧ u' = .returning ∧ w' = w := by
  refine callsD_of_wpS Tryz.func46 rfl fun c₀ cs hu => ?_
  simp only [Tryz.ntmps46, List.size_toArray, List.length_cons, List.length_nil, Nat.reduceAdd, Nat.reduceSub, Array.replicate_succ, Array.replicate_zero, List.push_toArray, List.append_toArray, List.nil_append, List.cons_append]
  refine wpS_recover_no hu ?_
  refine wpS_of_wp ?_
  simp only [Act.put, Array.setIfInBounds, List.size_toArray, List.length_cons, List.length_nil, Nat.reduceAdd, Nat.reduceLT, dite_true, List.set_toArray, List.set_cons_succ, List.set_cons_zero]
  go_wp2_with fail
  exact ⟨rfl, .returning, by cases c₀; simp_all, _, results_none rfl _ _ _, rfl, rfl, rfl⟩

set_option maxRecDepth 100000 in
set_option maxHeartbeats 1600000 in
theorem ccatch_fault (tb fb B : Nat) (q : Int × Int) (w : World) (v a b c : Value) (h : Vars w tb fb v a b c) (h1 : B ≤ tb) (h2 : B ≤ fb) (hB : B ≤ w.heap.size) :
    CallsD Tryz.prog 46 #[.pointer (some ⟨tb, 0, none⟩), .pointer (some ⟨fb, 0, none⟩)] (.panicking (badF q)) w fun e u' w' => e = .returned (.tuple #[]) ∧ u' = .panicking [{ v := .iface 25 (.agg #[.int .i64 q.1, .int .i64 0, .int .i64 q.2]), recovered := true }] ∧ w'.cell? ⟨tb, 0, none⟩ = some nilV ∧ w'.cell? ⟨fb, 0, none⟩ = some (.int .i64 q.1) ∧ w'.cell? ⟨fb, 1, none⟩ = some (.int .i64 0) ∧ w'.cell? ⟨fb, 2, none⟩ = some (.int .i64 q.2) ∧ Below B w w' := by
  have ta := ta_fault q.1 q.2
  have t0 := h.t0
  have f0 := h.f0
  have f1 := h.f1
  have f2 := h.f2
  have tz := h.tz
  have fz := h.fz
  have hn1 : ¬ tb = fb := h.ne
  have hn2 : ¬ fb = tb := fun e => h.ne e.symm
  have lt1 := lt_of_cell t0
  have lt2 := lt_of_cell f0
  refine callsD_of_wpS Tryz.func46 rfl fun c₀ cs hu => ?_
  simp only [Tryz.ntmps46, List.size_toArray, List.length_cons, List.length_nil, Nat.reduceAdd, Nat.reduceSub, Array.replicate_succ, Array.replicate_zero, List.push_toArray, List.append_toArray, List.nil_append, List.cons_append]
  refine wpS_recover hu ?_
  refine wpS_of_wp ?_
  simp only [Act.put, Array.setIfInBounds, List.size_toArray, List.length_cons, List.length_nil, Nat.reduceAdd, Nat.reduceLT, dite_true, List.set_toArray, List.set_cons_succ, List.set_cons_zero]
  go_wp2_with fail
  go_region
  all_goals go_wp2_with fail
  refine ⟨rfl, _, rfl, _, results_none rfl _ _ _, rfl, rfl, ?_, ?_, ?_, ?_, ?_⟩
  · simp [go_sem, t0, lt1]
  · simp [go_sem, f0, lt2]
  · simp [go_sem, f1, lt2]
  · simp [go_sem, f2, lt2]
  · exact ((((((Below.refl B w).setCell (p := ⟨tb, 0, none⟩) h1 _).setCell (p := ⟨fb, 0, none⟩) h2 _).setCell (p := ⟨fb, 1, none⟩) h2 _).setCell (p := ⟨fb, 2, none⟩) h2 _).alloc (by simp [World.setCell]; omega) _).drew

set_option maxRecDepth 100000 in
set_option maxHeartbeats 1600000 in
theorem cdoor_fault (w w1 : World) (B : Nat) (q : Int × Int) (y0 y1 y4 y5 y6 y7 y8 y9 y10 y11 y12 y13 y14 v : Value) (h : Vars w1 w.heap.size (w.heap.size + 1) v (.int .i64 0) (.int .i64 0) (.int .i64 0)) (hB : B ≤ w.heap.size) (hb : Below B w w1) :
    bodyPostD Tryz.prog Tryz.f24 (fun e w' => ChkQ w.heap.size (.error q) e w' ∧ Below B w w') (.panic (badF q)) { tmps := #[y0, y1, .pointer (some ⟨w.heap.size, 0, none⟩), .pointer (some ⟨w.heap.size + 1, 0, none⟩), y4, y5, y6, y7, y8, y9, y10, y11, y12, y13, y14], defers := [{ target := .fn (.func 46) #[.pointer (some ⟨w.heap.size, 0, none⟩), .pointer (some ⟨w.heap.size + 1, 0, none⟩)], args := #[] }] } w1 := by
  refine leaves_cons (f := 46) (args := #[.pointer (some ⟨w.heap.size, 0, none⟩), .pointer (some ⟨w.heap.size + 1, 0, none⟩)]) (by simp) (by simp [go_sem]) ?_
  refine (ccatch_fault w.heap.size (w.heap.size + 1) B q w1 _ _ _ _ h hB (by omega) (Nat.le_trans hB hb.size)).mono ?_
  rintro e u' w'' ⟨rfl, rfl, t0, f0, f1, f2, hb2⟩
  refine ⟨.tuple #[nilV, .agg #[.int .i64 q.1, .int .i64 0, .int .i64 q.2]], ?_, rfl, hb.trans hb2⟩
  simp [results, Tryz.results24, go_sem, t0, f0, f1, f2]

set_option maxRecDepth 100000 in
set_option maxHeartbeats 3200000 in
theorem checkAll_any {ks : List Nd} (w : World) (a : Option Addr) (c : Nat) (hr : NdsR w a (rowsP ks)) (hw : WfP ks) (hsz : ndsSize ks + 1 ≤ 600) (ht : TxtOk (rowsP ks)) :
    Calls Tryz.prog 24 #[.slice a (rowsP ks).length c] w fun e w' => ChkQ w.heap.size (checkC ks) e w' ∧ Below w.heap.size w w' := by
  have hmf : ∀ (fn : Fn) (first cap : Array Value) (w : World), (Instr.makeFunc fn first cap).run Tryz.prog w = .ok (.func fn first cap) w := fun _ _ _ _ => rfl
  have hrl : (rowsP ks).length = ndsSize ks + 1 := by unfold rowsP; rw [List.length_append, flats_len]; rfl
  obtain ⟨W0, hW0⟩ : ∃ W0, (w.alloc (.cells #[.slice none 0 0] 22)).alloc (.cells #[.int .i64 0, .int .i64 0, .int .i64 0] 25) = W0 := ⟨_, rfl⟩
  have h0 : Below w.heap.size w W0 := by rw [← hW0]; exact ((Below.refl _ _).alloc (Nat.le_refl _) _).alloc (by simp) _
  have hs0 : W0.heap.size = w.heap.size + 2 := by rw [← hW0]; simp
  have hv0 : W0.heap[w.heap.size]? = some (.cells #[.slice none 0 0] 22) := by rw [← hW0]; exact box_later (heap_alloc_new _ _) _
  have hv1 : W0.heap[w.heap.size + 1]? = some (.cells #[.int .i64 0, .int .i64 0, .int .i64 0] 25) := by
    have e : w.heap.size + 1 = (w.alloc (.cells #[.slice none 0 0] 22)).heap.size := by simp
    rw [← hW0, e]; exact heap_alloc_new _ _
  have HNW : Hid (Calls Tryz.prog 47 #[.slice a (rowsP ks).length c] W0 fun e w' => ∃ P v ms cm, e = .returned (.pointer (some ⟨P, 0, none⟩)) ∧ CPs W0 w' a c (rowsP ks) P v ms cm (csN (rowsP ks).length)) := cnew_any (hr.below h0) (by omega)
  have HPG : Hid (∀ w1 P v ms cm, CPs W0 w1 a c (rowsP ks) P v ms cm (csN (rowsP ks).length) → Calls Tryz.prog 48 #[.pointer (some ⟨P, 0, none⟩)] w1 fun e w' => PgC W0 a c ks P (checkC ks) e w') := fun w1 P v ms cm h => cprogram_any h hw hsz ht
  have HFR : Hid (∀ w4, Below W0.heap.size W0 w4 → Vars w4 w.heap.size (w.heap.size + 1) (.slice none 0 0) (.int .i64 0) (.int .i64 0) (.int .i64 0) ∧ Below w.heap.size w w4) := fun w4 hf => by
    have hx0 := (hf.block w.heap.size (by omega)).trans hv0
    have hx1 := (hf.block (w.heap.size + 1) (by omega)).trans hv1
    exact ⟨⟨box_cell hx0 rfl, box_cell hx1 rfl, box_cell hx1 rfl, box_cell hx1 rfl, box_free hx0, fun i => box_free hx1, by omega⟩, h0.trans (hf.mono (by omega))⟩
  have HS0 := Hid.out (p := Hid _) hs0
  have HW0 := Hid.out (p := Hid _) hW0
  obtain ⟨n, hn⟩ : ∃ n, n = (rowsP ks).length := ⟨_, rfl⟩
  rw [← hn] at HNW HPG ⊢
  obtain ⟨R, hR⟩ : ∃ R, R = checkC ks := ⟨_, rfl⟩
  rw [← hR] at HPG ⊢
  clear hr hw hsz ht hrl h0 hs0 hv0 hv1 hW0 hn hR
  go_enter_defers Tryz.func24, Tryz.ntmps24
  go_wp2_with fail
  rw [HW0.out]
  refine Calls.mono HNW.out ?_
  rintro e w1 ⟨P, v, ms, cm, rfl, h1⟩
  have HPG2 : Hid (Calls Tryz.prog 48 #[.pointer (some ⟨P, 0, none⟩)] w1 fun e w' => PgC W0 a c ks P R e w') := HPG.out w1 P v ms cm h1
  clear h1 HPG HNW
  go_wp2_with fail
  refine Calls.mono HPG2.out ?_
  intro e w4 hq
  cases R with
  | error f =>
    obtain ⟨rfl, hf⟩ := hq
    obtain ⟨hv, hb⟩ := HFR.out _ hf
    exact cdoor_fault w w4 w.heap.size f _ _ _ _ _ _ _ _ _ _ _ _ _ _ hv (Nat.le_refl _) hb
  | ok us =>
    obtain ⟨rfl, v', ms', cm', s', hus, hP⟩ := hq
    obtain ⟨hv, hb⟩ := HFR.out _ hP.low
    obtain ⟨ua, uc, huv⟩ := fam_form (hP.fam.own .ow)
    have huv' : v' .ow = .slice ua s'.us.length uc := huv
    have c1 := hP.c1
    rw [huv', hus] at c1
    have t0 := hv.t0
    have f0 := hv.f0
    have f1 := hv.f1
    have f2 := hv.f2
    have tz := hv.tz
    have fz := hv.fz
    have HB := Hid.out (p := Hid _) hb
    have hPl := hP.le
    have hne1 : P ≠ w.heap.size := by have := HS0.out; omega
    have hne2 : P ≠ w.heap.size + 1 := by have := HS0.out; omega
    have HI : Hid (∀ W', (∀ g, g ≠ w.heap.size → g ≠ w.heap.size + 1 → W'.heap[g]? = w4.heap[g]?) → IIn W' ua us.length (fun j => us.getD j 0)) := fun W' hW q hq => by
      obtain ⟨ub, uc', e1, e2, e3, -⟩ := fam_block (hP.fam.own .ow) (by show 0 < s'.us.length; rw [hus]; omega)
      rw [huv] at e1
      simp only [Value.slice.injEq] at e1
      refine ⟨ub, 0, e1.1, ?_⟩
      have hub := HS0.out
      rw [Nat.zero_add]
      refine (World.cell?_of_block (hW ub (by omega) (by omega))).trans (hP.fam.cell e2 (iV_at ?_))
      rw [hus]
      simp only [List.getD_eq_getElem?_getD, List.getElem?_eq_getElem hq, Option.getD_some]
    have HUL : Hid (∀ b o, ua = some ⟨b, o, none⟩ → w.heap.size ≤ b) := fun b o hu => by
      have h9 := hP.fam.low .ow b (by rw [huv', hu]; rfl)
      have := HS0.out
      omega
    obtain ⟨m, hm⟩ : ∃ m, m = us.length := ⟨_, rfl⟩
    have HM := Hid.out (p := Hid _) hm
    rw [← hm] at c1 HI
    clear hP hv hb huv huv' hus hPl HPG2 HFR hm
    go_wp2
    refine leaves_cons (f := 46) (args := #[.pointer (some ⟨w.heap.size, 0, none⟩), .pointer (some ⟨w.heap.size + 1, 0, none⟩)]) (by simp) (by simp [go_sem]) ?_
    refine (ccatch_idle ⟨w.heap.size, 0, none⟩ ⟨w.heap.size + 1, 0, none⟩ _).mono ?_
    rintro e u' w'' ⟨rfl, rfl, rfl⟩
    refine ⟨.tuple #[.slice ua m uc, .agg #[.int .i64 0, .int .i64 0, .int .i64 0]], ?_, ⟨ua, uc, by rw [← HM.out], ?_, HUL.out⟩, ?_⟩
    · simp [results, Tryz.results24, go_sem, t0, f0, f1, f2]
    · rw [← HM.out]
      exact HI.out _ fun k h1 h2 => (Below.heap_setCell _ _ _ _ h2).trans ((Below.heap_setCell _ _ _ _ h2).trans ((Below.heap_setCell _ _ _ _ h2).trans (Below.heap_setCell _ _ _ _ h1)))
    · exact (((HB.out.setCell (p := ⟨w.heap.size, 0, none⟩) (Nat.le_refl _) _).setCell (p := ⟨w.heap.size + 1, 0, none⟩) (Nat.le_succ _) _).setCell (p := ⟨w.heap.size + 1, 1, none⟩) (Nat.le_succ _) _).setCell (p := ⟨w.heap.size + 1, 2, none⟩) (Nat.le_succ _) _
end

section
theorem parse_bad_or {n : Nat} {s : List UInt8} {r : List Row × (Int × Int)} (h : parseF n s = some r) : (r.1 = [] ∧ r.2.1 ≠ 0) ∨ r.2 = (0, 0) := by
  unfold parseF at h
  split at h
  · rename_i hs
    obtain rfl := (Option.some.inj h).symm
    exact Or.inl ⟨rfl, hs⟩
  · split at h
    · cases h
    · rename_i f hf
      have hc := err_prog _ _ f hf
      obtain rfl := (Option.some.inj h).symm
      refine Or.inl ⟨rfl, fun h0 => ?_⟩
      have h0' : f.1 = 0 := h0
      rw [h0'] at hc
      exact absurd hc (by decide)
    · split at h
      · obtain rfl := (Option.some.inj h).symm
        exact Or.inl ⟨rfl, by simp⟩
      · obtain rfl := (Option.some.inj h).symm
        exact Or.inr rfl
theorem parse_cases (s : List UInt8) : ((parseT s).1 = [] ∧ (parseT s).2.1 ≠ 0) ∨ ∃ ks, parseT s = (rowsP ks, (0, 0)) ∧ WfP ks ∧ ndsSize ks + 1 ≤ 600 := by
  obtain ⟨n, hn⟩ := parseT_is s
  rcases parse_bad_or hn with h | h
  · exact Or.inl h
  · have hc : parseT s = ((parseT s).1, (0, 0)) := by rw [← h]
    rw [hc] at hn
    obtain ⟨ks, h1, h2, h3, -⟩ := print_back hn
    exact Or.inr ⟨ks, by rw [hc, h1], h2, h3⟩
end

section
open Go.RowKit

theorem wk_text {k n p : Int} {t : List UInt8} {ks : List Nd} (h : Wk (.mk k n p t ks)) : t.length ≤ 1000 := by
  have hnm : ∀ {t : List UInt8}, NameOk t → t.length ≤ 1000 := fun h => Nat.le_trans h.2.1 (by decide)
  rcases h with h | h | h
  · unfold WfN at h
    split at h
    · rcases wfx_cases h with ⟨_, _, e, _⟩ | ⟨_, _, e, h2⟩ | ⟨_, _, _, e, _⟩ | ⟨_, _, _, _, e, h2, _⟩
      · rw [Nd.mk.injEq] at e
        rw [e.2.2.2.1]
        simp
      · rw [Nd.mk.injEq] at e
        rw [e.2.2.2.1]
        exact hnm h2
      · rw [Nd.mk.injEq] at e
        rw [e.2.2.2.1]
        simp
      · rw [Nd.mk.injEq] at e
        rw [e.2.2.2.1]
        exact Nat.le_trans (lvl_len h2) (by decide)
    · obtain ⟨-, hs, -⟩ := h
      rcases hs with h | h | h | h | h | h | h | h | h
      · rw [h.2.1]; simp
      · exact hnm h.2.1
      · exact hnm h.2.1
      · exact hnm h.2.1
      · rw [h.2.1]; simp
      · rw [h.2.1]; simp
      · rw [h.2.1]; simp
      · exact hnm h.2.1
      · rw [h.2.1]; simp
  · unfold WfG at h
    rcases h with h | h
    · exact hnm h.2.1
    · exact hnm h.2.2.1
  · unfold WfT at h
    rw [h.2.2.1]
    simp
mutual
theorem wk_txt : ∀ (x : Nd) (b : Nat) (r : Row), Wk x → r ∈ flat b x → r.text.length ≤ 1000
  | .mk k n p t ks, b, r, hw, h => by
    rw [flat] at h
    rcases List.mem_append.1 h with h | h
    · exact wks_txt ks b r (wk_kids hw).1 h
    · obtain rfl : r = ⟨k, n, p, t, idxs b ks⟩ := by simpa using h
      exact wk_text hw
theorem wks_txt : ∀ (ks : List Nd) (b : Nat) (r : Row), (∀ y, y ∈ ks → Wk y) → r ∈ flats b ks → r.text.length ≤ 1000
  | [], _, r, _, h => by simp [flats] at h
  | x :: l, b, r, hw, h => by
    rw [flats] at h
    rcases List.mem_append.1 h with h | h
    · exact wk_txt x b r (hw x (List.mem_cons_self ..)) h
    · exact wks_txt l _ r (fun y hy => hw y (List.mem_cons_of_mem _ hy)) h
end
theorem txt_prog {ks : List Nd} (h : WfP ks) : TxtOk (rowsP ks) := fun i => by
  unfold rowA
  rw [List.getD_eq_getElem?_getD]
  cases e : (rowsP ks)[i]? with
  | none => simp
  | some r =>
    have hm := List.mem_of_getElem? e
    unfold rowsP at hm
    rcases List.mem_append.1 hm with hm | hm
    · exact wks_txt ks 0 r (fun y hy => Or.inr (wfp_mem9 h y hy)) hm
    · obtain rfl : r = ⟨1, 0, 0, [], idxs 0 ks⟩ := by simpa using hm
      simp
end

section
open Go.RowKit

section
variable {rows : List Row}
theorem CRes.and_err {x : CRes} {g : Cs → CRes} {f : Int × Int} (h : x.and g = .error f) : x = .error f ∨ ∃ s, x = .ok s ∧ g s = .error f := by
  cases x with
  | error e => exact Or.inl h
  | ok s => exact Or.inr ⟨s, rfl, h⟩
theorem put_err {i : Nat} {s : Cs} {f : Int × Int} (h : putC rows i s = .error f) : f.1 ≠ 0 := by
  unfold putC at h
  split at h
  · obtain rfl := Except.error.inj h
    show (8 : Int) ≠ 0
    decide
  · cases h
theorem most_err {i m : Nat} {s : Cs} {f : Int × Int} (h : mostC rows i m s = .error f) : f.1 ≠ 0 := by
  unfold mostC at h
  split at h
  · obtain rfl := Except.error.inj h
    show (1 : Int) ≠ 0
    decide
  · cases h
theorem use_err {i : Nat} {p : Int → Bool} {s : Cs} {f : Int × Int} (h : useC rows i p s = .error f) : f.1 ≠ 0 := by
  unfold useC at h
  split at h
  · obtain rfl := Except.error.inj h
    show (7 : Int) ≠ 0
    decide
  · split at h
    · cases h
    · obtain rfl := Except.error.inj h
      show (9 : Int) ≠ 0
      decide
theorem look_err {i : Nat} {k : Int} {s : Cs} {f : Int × Int} (h : lookC rows k i s = .error f) : f.1 ≠ 0 := by
  unfold lookC at h
  split at h
  · rcases CRes.and_err h with h | ⟨_, _, h⟩
    · exact put_err h
    · exact most_err h
  · split at h
    · rcases CRes.and_err h with h | ⟨_, _, h⟩
      · exact put_err h
      · exact most_err h
    · split at h
      · exact most_err h
      · split at h
        · exact put_err h
        · split at h
          · exact use_err h
          · split at h
            · exact use_err h
            · cases h
mutual
theorem ck_err : ∀ (x : Nd) (b : Nat) (s : Cs) (f : Int × Int), ckN rows x b s = .error f → f.1 ≠ 0
  | .mk k n p t ks, b, s, f, h => by
    rw [ckN] at h
    split at h
    · rcases CRes.and_err h with h | ⟨_, _, h⟩
      · rcases CRes.and_err h with h | ⟨_, _, h⟩
        · exact cks_err ks _ b _ f h
        · cases h
      · exact look_err h
    · rcases CRes.and_err h with h | ⟨_, _, h⟩
      · exact cks_err ks _ b _ f h
      · exact look_err h
theorem cks_err : ∀ (ks : List Nd) (c : Bool) (b : Nat) (s : Cs) (f : Int × Int), ckNs rows c ks b s = .error f → f.1 ≠ 0
  | [], _, b, s, f, h => by
    rw [ckNs] at h
    cases h
  | x :: r, c, b, s, f, h => by
    rw [ckNs] at h
    rcases CRes.and_err h with h | ⟨s1, _, h⟩
    · split at h
      · exact use_err h
      · exact ck_err x b s f h
    · exact cks_err r false _ s1 f h
end
end
theorem checkC_err {ks : List Nd} {f : Int × Int} (h : checkC ks = .error f) : f.1 ≠ 0 := by
  cases hck : ckNs (rowsP ks) false ks 0 (csN (rowsP ks).length) with
  | error g =>
    rw [ckC_err hck] at h
    obtain rfl := Except.error.inj h
    exact cks_err ks _ _ _ _ hck
  | ok s =>
    rw [ckC_ok hck] at h
    split at h
    · obtain rfl := Except.error.inj h
      decide
    · cases h
theorem checkC_len {ks : List Nd} {us : List Int} (h : checkC ks = .ok us) (hsz : ndsSize ks + 1 ≤ 600) : us.length ≤ 600 := by
  have hrl : (rowsP ks).length = ndsSize ks + 1 := by unfold rowsP; rw [List.length_append, flats_len]; rfl
  cases hck : ckNs (rowsP ks) false ks 0 (csN (rowsP ks).length) with
  | error f =>
    rw [ckC_err hck] at h
    cases h
  | ok s =>
    rw [ckC_ok hck] at h
    have hok : CsOk (rowsP ks) (csN (rowsP ks).length) := csN_ok rfl
    have h1 := ((cks_ok ks false 0 _ s (FsAt.all ks) hck hok.ne).ok hok).us
    split at h
    · cases h
    · obtain rfl := Except.ok.inj h
      omega
end

end Go.Proofs.YtggfbfjdiikaeaaGreatDoor
