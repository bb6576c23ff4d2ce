/-
  The document's parser: what begins with no word of a statement.
  The program's tokens: what was taken.
  The program's tokens: names and numbers.
-/
import Derived.Test.YtggfbfjdiikaeaaGreatDoorSynF9
import Derived.Test.YtggfbfjdiikaeaaGreatDoorLexZ4
import Derived.Deep.RegionHeld3
namespace Go.Proofs.YtggfbfjdiikaeaaGreatDoor
section
open Go.RowKit

/-- The words that begin a statement. -/
def stWords : List (List UInt8) := [wInt, wIf, wWhile, wPrint, wLock, wUnlock, wFence]
theorem stmt_none {e : Int} {d : Nat} {l : List Tok} (h : ∀ c, c ∈ stWords → wordOf l ≠ c) : stmtT e d l = assignT e d l := by
  simp only [stWords, List.mem_cons, List.not_mem_nil, or_false, forall_eq_or_imp, forall_eq] at h
  obtain ⟨h1, h2, h3, h4, h5, h6, h7⟩ := h
  rw [stmtT_is, if_neg h2, if_neg h3, if_neg h1, if_neg h4, if_neg (by simp [h5, h6]), if_neg h7]

section
variable {E : Int} {d : Nat}
set_option maxRecDepth 100000 in
set_option maxHeartbeats 3200000 in
theorem rstmt_word (hd : d ≤ 20) {t : Tok} {r : List Tok} (hk : t.kind = 2) (hw : ∀ c, c ∈ stWords → t.text ≠ c) : Ctr 54 [] E d (t :: r) (stmtT E d (t :: r)) (ubD d + 9) := by
  refine ctr_of fun C w rows hE _ hg => ?_
  subst hE
  have hM4 : 4001 ≤ ubD d ∧ ubD d ≤ 5000 := by unfold ubD; omega
  have hfw := (hg 4000).fewR
  have hT := (hg 4000).few
  obtain ⟨R, hR⟩ : ∃ R, R = stmtT C.E d (t :: r) := ⟨_, rfl⟩
  rw [← hR]
  have HRS : Hid (∀ x q, R = .ok (x, q) → rows.length + ndSize x + q.length ≤ C.T.length) := fun x q hx => by
    obtain ⟨n, y, hy⟩ := (tl_stmt (e := C.E) d (t :: r)).tot
    have h3 := tld_is (st_up d (t :: r)) hy
    have h4 := (stmt_size n).1 _ _ _ _ (hy.trans (congrArg some (h3.symm.trans (hR.symm.trans hx))))
    omega
  have HK := Hid.out (p := Hid _) hM4
  have HRA : Hid (R = assignT C.E d (t :: r)) := hR.trans (stmt_none fun c hc => by rw [wordOf, if_pos hk]; exact hw c hc)
  have HPP : Hid (t.pos = posOf C.E (t :: r)) := rfl
  have HC : Hid (∀ M, GoS C w d M none [] (.ok (t :: r)) rows) := hg
  have hb : ∀ c, c ∈ stWords → (t.text == c) = false := fun c hc => by simpa using hw c hc
  simp only [stWords, List.mem_cons, List.not_mem_nil, or_false, forall_eq_or_imp, forall_eq] at hb
  obtain ⟨e1, e2, e3, e4, e5, e6, e7⟩ := hb
  clear hw
  clear hg hR hM4
  go_enter Tryz.func54, Tryz.ntmps54
  go_wp2_with (go_at_call 28; refine Calls.mono (gat (HC.out 4000)) ?_; rintro e w1 ⟨rfl, hg⟩; replace HC : Hid (∀ M, GoS C w1 d M none [] (.ok (t :: r)) rows) := (fun M => hg.any M); clear hg)
  rw [show posE C.E (.ok (t :: r)) = t.pos from rfl]
  obtain ⟨i, d1, lv, a, hps, hil, _⟩ := (HC.out 4000).ps9
  obtain ⟨hi, -⟩ := hil _ rfl
  have hle := hps.le
  have hP := hps.lt
  have c0 := hps.c0
  have c2 := hps.c2
  obtain ⟨ta, tc, htv⟩ := hps.toks.form
  have htk := hps.toks
  rw [htv] at c0 htk
  have hlt : i < C.T.length := by
    rcases Nat.lt_or_ge i C.T.length with h1 | h1
    · exact h1
    · rw [List.drop_eq_nil_of_le h1] at hi; cases hi
  have hgd := getD_drop hlt
  rw [hi] at hgd
  simp only [List.cons.injEq] at hgd
  obtain ⟨g, rfl, t0, t1, t2, t3⟩ := htk.cells hlt
  have hlt' : (i : Int) < (C.T.length : Int) := by omega
  rw [← hgd.1] at t0 t1 t2 t3
  rw [hk] at t0
  have hgl : g < w1.heap.size := lt_of_cell t0
  replace HC : Hid (∀ M, GoS C (w1.drew.drew.alloc (.cells #[.int .i64 0, .int .i64 0, .int .i64 t.pos, .string ⟨#[]⟩, nilV] 60)) d M (some (w1.heap.size, .cells #[.int .i64 0, .int .i64 0, .int .i64 t.pos, .string ⟨#[]⟩, nilV] 60)) [] (.ok (t :: r)) rows) := fun M => ((HC.out M).below (Below.refl _ _).drew.drew).box _
  clear hil hps htk hi
  clear hgd
  go_region
  go_wp2_with fail
  go_region
  go_wp2_with (first
    | (go_at_call 75; refine Calls.mono (rassign_any hd HPP.out HC.out) ?_; rintro e w2 ⟨rfl, hpre⟩; rw [← HRA.out] at hpre; obtain ⟨k2, t2, ka, kn, kc, ps2, s2, rows2, hg, hmat⟩ := hpre; obtain ⟨hb, hbP⟩ := hg.bxc; have hbP2 : ¬ C.P = _ := (fun e => hbP e.symm); obtain ⟨b0, b1, b2, b3, b4, bf⟩ := box5 hb; have hbl := lt_of_cell b0; have HG := Hid.out (p := Hid _) hg; have HMT : Hid (MatN rows R k2 _ t2 (.slice ka kn kc) ps2 s2 rows2) := hmat; clear hg hmat hb)
    | (go_at_call 31; refine Calls.mono (pre_node HG.out HMT.out (by have := HK.out; omega) HRS.out) ?_; rintro e w3 ⟨v3, rfl, hq3⟩))
  go_ret
  exact ⟨v3, rfl, hq3⟩
set_option maxRecDepth 100000 in
set_option maxHeartbeats 3200000 in
theorem rstmt_tok (hd : d ≤ 20) {t : Tok} {r : List Tok} (hk : t.kind ≠ 2) : Ctr 54 [] E d (t :: r) (stmtT E d (t :: r)) (ubD d + 9) := by
  refine ctr_of fun C w rows hE _ hg => ?_
  subst hE
  have hM4 : 4001 ≤ ubD d ∧ ubD d ≤ 5000 := by unfold ubD; omega
  have hfw := (hg 4000).fewR
  have hT := (hg 4000).few
  obtain ⟨R, hR⟩ : ∃ R, R = stmtT C.E d (t :: r) := ⟨_, rfl⟩
  rw [← hR]
  have HRS : Hid (∀ x q, R = .ok (x, q) → rows.length + ndSize x + q.length ≤ C.T.length) := fun x q hx => by
    obtain ⟨n, y, hy⟩ := (tl_stmt (e := C.E) d (t :: r)).tot
    have h3 := tld_is (st_up d (t :: r)) hy
    have h4 := (stmt_size n).1 _ _ _ _ (hy.trans (congrArg some (h3.symm.trans (hR.symm.trans hx))))
    omega
  have HK := Hid.out (p := Hid _) hM4
  have HRA : Hid (R = assignT C.E d (t :: r)) := hR.trans (stmt_none fun c hc => by rw [wordOf, if_neg hk]; intro e; rw [← e] at hc; revert hc; decide)
  have HPP : Hid (t.pos = posOf C.E (t :: r)) := rfl
  have HC : Hid (∀ M, GoS C w d M none [] (.ok (t :: r)) rows) := hg
  have hk2 : (t.kind == 2) = false := by simpa using hk
  clear hg hR hM4
  go_enter Tryz.func54, Tryz.ntmps54
  go_wp2_with (go_at_call 28; refine Calls.mono (gat (HC.out 4000)) ?_; rintro e w1 ⟨rfl, hg⟩; replace HC : Hid (∀ M, GoS C w1 d M none [] (.ok (t :: r)) rows) := (fun M => hg.any M); clear hg)
  rw [show posE C.E (.ok (t :: r)) = t.pos from rfl]
  obtain ⟨i, d1, lv, a, hps, hil, _⟩ := (HC.out 4000).ps9
  obtain ⟨hi, -⟩ := hil _ rfl
  have hle := hps.le
  have hP := hps.lt
  have c0 := hps.c0
  have c2 := hps.c2
  obtain ⟨ta, tc, htv⟩ := hps.toks.form
  have htk := hps.toks
  rw [htv] at c0 htk
  have hlt : i < C.T.length := by
    rcases Nat.lt_or_ge i C.T.length with h1 | h1
    · exact h1
    · rw [List.drop_eq_nil_of_le h1] at hi; cases hi
  have hgd := getD_drop hlt
  rw [hi] at hgd
  simp only [List.cons.injEq] at hgd
  obtain ⟨g, rfl, t0, t1, t2, t3⟩ := htk.cells hlt
  have hlt' : (i : Int) < (C.T.length : Int) := by omega
  rw [← hgd.1] at t0 t1 t2 t3
  have hgl : g < w1.heap.size := lt_of_cell t0
  replace HC : Hid (∀ M, GoS C (w1.drew.alloc (.cells #[.int .i64 0, .int .i64 0, .int .i64 t.pos, .string ⟨#[]⟩, nilV] 60)) d M (some (w1.heap.size, .cells #[.int .i64 0, .int .i64 0, .int .i64 t.pos, .string ⟨#[]⟩, nilV] 60)) [] (.ok (t :: r)) rows) := fun M => ((HC.out M).below (Below.refl _ _).drew).box _
  clear hil hps htk hi
  clear hgd hk
  go_region
  go_wp2_with (first
    | (go_at_call 75; refine Calls.mono (rassign_any hd HPP.out HC.out) ?_; rintro e w2 ⟨rfl, hpre⟩; rw [← HRA.out] at hpre; obtain ⟨k2, t2, ka, kn, kc, ps2, s2, rows2, hg, hmat⟩ := hpre; obtain ⟨hb, hbP⟩ := hg.bxc; have hbP2 : ¬ C.P = _ := (fun e => hbP e.symm); obtain ⟨b0, b1, b2, b3, b4, bf⟩ := box5 hb; have hbl := lt_of_cell b0; have HG := Hid.out (p := Hid _) hg; have HMT : Hid (MatN rows R k2 _ t2 (.slice ka kn kc) ps2 s2 rows2) := hmat; clear hg hmat hb)
    | (go_at_call 31; refine Calls.mono (pre_node HG.out HMT.out (by have := HK.out; omega) HRS.out) ?_; rintro e w3 ⟨v3, rfl, hq3⟩))
  go_ret
  exact ⟨v3, rfl, hq3⟩
set_option maxRecDepth 100000 in
set_option maxHeartbeats 3200000 in
theorem rstmt_end (hd : d ≤ 20)  : Ctr 54 [] E d ([] : List Tok) (stmtT E d ([] : List Tok)) (ubD d + 9) := by
  refine ctr_of fun C w rows hE _ hg => ?_
  subst hE
  have hM4 : 4001 ≤ ubD d ∧ ubD d ≤ 5000 := by unfold ubD; omega
  have hfw := (hg 4000).fewR
  have hT := (hg 4000).few
  obtain ⟨R, hR⟩ : ∃ R, R = stmtT C.E d ([] : List Tok) := ⟨_, rfl⟩
  rw [← hR]
  have HRS : Hid (∀ x q, R = .ok (x, q) → rows.length + ndSize x + q.length ≤ C.T.length) := fun x q hx => by
    obtain ⟨n, y, hy⟩ := (tl_stmt (e := C.E) d ([] : List Tok)).tot
    have h3 := tld_is (st_up d ([] : List Tok)) hy
    have h4 := (stmt_size n).1 _ _ _ _ (hy.trans (congrArg some (h3.symm.trans (hR.symm.trans hx))))
    omega
  have HK := Hid.out (p := Hid _) hM4
  have HRA : Hid (R = assignT C.E d []) := hR.trans (stmt_none fun c hc => by intro e; rw [← e] at hc; revert hc; decide)
  have HPP : Hid (C.E = posOf C.E []) := rfl
  have HC : Hid (∀ M, GoS C w d M none [] (.ok []) rows) := hg
  clear hg hR hM4
  go_enter Tryz.func54, Tryz.ntmps54
  go_wp2_with (go_at_call 28; refine Calls.mono (gat (HC.out 4000)) ?_; rintro e w1 ⟨rfl, hg⟩; replace HC : Hid (∀ M, GoS C w1 d M none [] (.ok []) rows) := (fun M => hg.any M); clear hg)
  rw [show posE C.E (.ok []) = C.E from rfl]
  obtain ⟨i, d1, lv, a, hps, hil, _⟩ := (HC.out 4000).ps9
  obtain ⟨hi, -⟩ := hil _ rfl
  have hle := hps.le
  have hP := hps.lt
  have c0 := hps.c0
  have c2 := hps.c2
  obtain ⟨ta, tc, htv⟩ := hps.toks.form
  have htk := hps.toks
  rw [htv] at c0 htk
  have hge : ¬ i < C.T.length := fun hlt => by
    have hgd := getD_drop hlt
    rw [hi] at hgd
    cases hgd
  have hlt' : ¬ (i : Int) < (C.T.length : Int) := by omega
  clear hge
  replace HC : Hid (∀ M, GoS C (w1.drew.alloc (.cells #[.int .i64 0, .int .i64 0, .int .i64 C.E, .string ⟨#[]⟩, nilV] 60)) d M (some (w1.heap.size, .cells #[.int .i64 0, .int .i64 0, .int .i64 C.E, .string ⟨#[]⟩, nilV] 60)) [] (.ok []) rows) := fun M => ((HC.out M).below (Below.refl _ _).drew).box _
  clear hil hps htk hi
  go_region
  go_wp2_with (first
    | (go_at_call 75; refine Calls.mono (rassign_any hd HPP.out HC.out) ?_; rintro e w2 ⟨rfl, hpre⟩; rw [← HRA.out] at hpre; obtain ⟨k2, t2, ka, kn, kc, ps2, s2, rows2, hg, hmat⟩ := hpre; obtain ⟨hb, hbP⟩ := hg.bxc; have hbP2 : ¬ C.P = _ := (fun e => hbP e.symm); obtain ⟨b0, b1, b2, b3, b4, bf⟩ := box5 hb; have hbl := lt_of_cell b0; have HG := Hid.out (p := Hid _) hg; have HMT : Hid (MatN rows R k2 _ t2 (.slice ka kn kc) ps2 s2 rows2) := hmat; clear hg hmat hb)
    | (go_at_call 31; refine Calls.mono (pre_node HG.out HMT.out (by have := HK.out; omega) HRS.out) ?_; rintro e w3 ⟨v3, rfl, hq3⟩))
  go_ret
  exact ⟨v3, rfl, hq3⟩
end
end

section
open Go.RowKit

theorem wrap_less (k t : Nat) (h : k ≤ 4000) (h2 : t ≤ k) : IntKind.i64.wrap ((k : Int) - (t : Int)) = (k : Int) - (t : Int) := by
  rw [IntKind.wrap_i64]
  omega
theorem lexClone_any (t : ByteArray) (ht : t.size ≤ 4000) (w : World) :
    Calls Tryz.prog 145 #[.string t] w fun e w' => e = .returned (.string t) ∧ Below w.heap.size w w' := by
  go_enter Tryz.func145, Tryz.ntmps145
  go_wp2_with (first | (go_at_call 155; refine (Tryz.stringslite_Clone t _ (by omega)).mono ?_; rintro e w' ⟨rfl, hb⟩))
  go_ret
  exact ⟨rfl, hb⟩

set_option maxRecDepth 100000 in
set_option maxHeartbeats 800000 in
theorem taken_any (sb : Nat) (s : ByteArray) (k : Nat) (hk : k ≤ 4000) (kind : Int) (t : ByteArray) (ht : t.size ≤ k) (w : World) (h : Sc w sb s k) :
    Calls Tryz.prog 133 #[.pointer (some ⟨sb, 0, none⟩), .int .i64 kind, .string t] w fun e w' => e = .returned (.agg #[.int .i64 kind, .int .i64 0, .int .i64 ((k : Int) - (t.size : Int)), .string t]) ∧ Below w.heap.size w w' := by
  have h0 := h.c0
  have h1 := h.c1
  go_enter Tryz.func133, Tryz.ntmps133
  go_wp2_with fail
  obtain ⟨V, hV⟩ : ∃ V, w.alloc (.cells #[.int .i64 0, .int .i64 0, .int .i64 0, .string ⟨#[]⟩] 98) = V := ⟨_, rfl⟩
  have hbV : Below w.heap.size w V := by rw [← hV]; exact (Below.refl _ _).alloc (Nat.le_refl _) _
  have hxV : V.heap[w.heap.size]? = some (.cells #[.int .i64 0, .int .i64 0, .int .i64 0, .string ⟨#[]⟩] 98) := by rw [← hV]; exact heap_alloc_new _ _
  have hlV : w.heap.size < V.heap.size := by rw [← hV]; simp
  have v1 : V.cell? ⟨sb, 1, none⟩ = some (.int .i64 (k : Int)) := (h.below hbV).c1
  have HSV : Hid (sb < V.heap.size) := (h.below hbV).lt
  have hne : ¬ sb = w.heap.size := by have := h.lt; omega
  have hne' : ¬ w.heap.size = sb := fun e => hne e.symm
  rw [hV]
  have q0 : V.cell? ⟨w.heap.size, 0, none⟩ = some (.int .i64 0) := box_cell hxV rfl
  have q1 : V.cell? ⟨w.heap.size, 1, none⟩ = some (.int .i64 0) := box_cell hxV rfl
  have q2 : V.cell? ⟨w.heap.size, 2, none⟩ = some (.int .i64 0) := box_cell hxV rfl
  have q3 : V.cell? ⟨w.heap.size, 3, none⟩ = some (.string ⟨#[]⟩) := box_cell hxV rfl
  have qf : ∀ i, V.frozen? ⟨w.heap.size, i, none⟩ = false := fun i => box_free hxV
  have HLV : Hid (w.heap.size < V.heap.size) := hlV
  have HBV := Hid.out (p := Hid _) hbV
  clear hV h h0 h1 hxV hlV hbV
  go_region_held3 (fun w' => w'.cell? ⟨sb, 1, none⟩ = some (.int .i64 (k : Int))) (go_keep)
    (first | (go_at_call 145; refine (lexClone_any t (by omega) _).mono ?_; rintro e w7 ⟨rfl, hb7⟩; have hc7 := hb7.cell (p := ⟨sb, 1, none⟩) HSV.out; have hd7 := fun i => hb7.cell (p := ⟨w.heap.size, i, none⟩) HLV.out; have hf7 := fun i => hb7.frozen (p := ⟨w.heap.size, i, none⟩) HLV.out))
  rw [wrap_less k t.size hk ht]
  go_wp2
  have hw7 : Below w.heap.size w w7 := HBV.out.trans (Below.mono ((Below.refl _ _).drew.trans hb7) HBV.out.size)
  refine bodyPost_ret (v := .agg #[.int .i64 kind, .int .i64 0, .int .i64 ((k : Int) - (t.size : Int)), .string t]) (by simp [results, Tryz.results133, go_sem, hd7, q0, q1, q2, q3]) rfl ⟨rfl, ?_⟩
  exact (((hw7.setCell (Nat.le_refl _) _).setCell (Nat.le_refl _) _).setCell (Nat.le_refl _) _).setCell (Nat.le_refl _) _
end

section
open Go.RowKit

/-- A token of the program: its kind, number and length, or none. -/
def TokQ (W : World) (sb : Nat) (s : ByteArray) (i : Nat) (e : Ending) (w' : World) : Prop :=
  W.grownBy w' (some sb) ∧ match oneL (s.data.toList.drop i) with
    | none => e = .panicked (badT i)
    | some (k, v, m) => e = .returned (.agg #[.int .i64 k, .int .i64 v, .int .i64 i, .string (s.extract i (i + m))]) ∧ Sc w' sb s (i + m)

theorem grown_high {w V : World} {row : Option Nat} (h : w.grownBy V row) {a : Addr} (ha : w.heap.size ≤ a.block) (v : Value) : w.grownBy (V.setCell a v) row :=
  ⟨h.os, h.tape, h.output, by simpa [World.setCell] using h.size, fun j hj hr => (Below.heap_setCell _ _ _ _ (by omega)).trans (h.block j hj hr)⟩
theorem grown_alloc {w V : World} {row : Option Nat} (h : w.grownBy V row) (o : Obj) : w.grownBy (V.alloc o) row := grown_then h (grown_of_below ((Below.refl _ _).alloc (Nat.le_refl _) o) row)
theorem Sc.far {w : World} {sb : Nat} {s : ByteArray} {k : Nat} (h : Sc w sb s k) {a : Addr} (ha : a.block ≠ sb) (v : Value) : Sc (w.setCell a v) sb s k := (Below.heap_setCell _ _ _ _ (fun e => ha e.symm)).trans h
theorem Sc.more {w : World} {sb : Nat} {s : ByteArray} {k : Nat} (h : Sc w sb s k) (o : Obj) : Sc (w.alloc o) sb s k := h.below ((Below.refl _ _).alloc (Nat.le_refl _) o)
theorem extract_size (s : ByteArray) (i n : Nat) (h : i + n ≤ s.size) : (s.extract i (i + n)).size = n := by
  rw [ByteArray.size_extract]; omega

set_option maxRecDepth 100000 in
set_option maxHeartbeats 1600000 in
theorem lexName_any (sb : Nat) (s : ByteArray) (hs : s.size ≤ 4000) (i : Nat) (hi : i < s.size) (hl : isLet s[i] = true) (w : World) (h : Sc w sb s i) :
    Calls Tryz.prog 106 #[.pointer (some ⟨sb, 0, none⟩)] w fun e w' => TokQ w sb s i e w' := by
  have hmf : ∀ (fn : Fn) (first cap : Array Value) (w : World), (Instr.makeFunc fn first cap).run Tryz.prog w = .ok (.func fn first cap) w := fun _ _ _ _ => rfl
  obtain ⟨N, hN⟩ : ∃ N, 1 + twAt isNam s (i + 1) = N := ⟨_, rfl⟩
  have hN2 : i + twAt isNam s i = i + N := by rw [twAt_more hi (by simp [isNam, hl]), ← hN]; omega
  have hle : i + N ≤ s.size := by rw [← hN2]; exact twAt_le (by omega)
  have HQ : Hid (oneL (s.data.toList.drop i) = if 12 < N then none else some (kindW (s.extract i (i + N)).data.toList, 0, N)) := oneL_name hi hl hN
  have HN2 := Hid.out (p := Hid _) hN2
  obtain ⟨x, hx⟩ : ∃ x : ByteArray, s.extract i (i + N) = x := ⟨_, rfl⟩
  have hxs : x.size = N := by rw [← hx]; exact extract_size s i N hle
  have HX := Hid.out (p := Hid _) hx
  clear hN hN2 hx
  have hA : Below w.heap.size w (w.alloc (.cells #[.int .i64 0, .int .i64 0, .int .i64 0, .string ⟨#[]⟩] 98)) := (Below.refl _ _).alloc (Nat.le_refl _) _
  have hSA := h.below hA
  have hAx : (w.alloc (.cells #[.int .i64 0, .int .i64 0, .int .i64 0, .string ⟨#[]⟩] 98)).heap[w.heap.size]? = some (.cells #[.int .i64 0, .int .i64 0, .int .i64 0, .string ⟨#[]⟩] 98) := heap_alloc_new _ _
  have hAl : w.heap.size < (w.alloc (.cells #[.int .i64 0, .int .i64 0, .int .i64 0, .string ⟨#[]⟩] 98)).heap.size := by simp
  have hne : some w.heap.size ≠ some sb := by have := h.lt; simp; omega
  have HA := Hid.out (p := Hid _) (And.intro hA (And.intro hSA (And.intro hAx (And.intro hAl hne))))
  clear hA hSA hAx hAl hne
  by_cases h12 : 12 < N
  · have h12' : 12 < (x.size : Int) := by omega
    have HQ2 : Hid (∀ e w', w.grownBy w' (some sb) → e = .panicked (badT i) → TokQ w sb s i e w') := fun e w' hg he => by
      unfold TokQ
      rw [HQ.out, if_pos h12]
      exact ⟨hg, he⟩
    go_enter Tryz.func106, Tryz.ntmps106
    go_wp2_with (first | (go_at_call 130; refine (take_nam sb s hs i (by omega) (i + N) HN2 _ HA.out.2.1).mono ?_; rintro e w1 ⟨rfl, h1, hg1⟩; rw [HX.out]; have HG1 := Hid.out (p := Hid _) (And.intro h1 hg1); clear h1 hg1) | (go_at_call 134; refine (pkind_any x _).mono ?_; rintro e w' ⟨rfl, rfl⟩) | (go_at_call 133; refine (taken_any sb s (i + N) (by omega) _ x (by omega) _ HG1.out.1).mono ?_; rintro e w2 ⟨rfl, hb2⟩))
    exact ⟨rfl, HQ2.out _ _ (grown_then (grown_of_below HA.out.1 _) (grown_then HG1.out.2 (grown_of_below (hb2.alloc hb2.size _) _))) rfl⟩
  · have h12' : ¬ 12 < (x.size : Int) := by omega
    have HQ2 : Hid (∀ e w', w.grownBy w' (some sb) → e = .returned (.agg #[.int .i64 (kindW x.data.toList), .int .i64 0, .int .i64 i, .string x]) → Sc w' sb s (i + N) → TokQ w sb s i e w') := fun e w' hg he hc => by
      unfold TokQ
      rw [HQ.out, if_neg h12]
      refine ⟨hg, ?_, hc⟩
      rw [HX.out]
      exact he
    go_enter Tryz.func106, Tryz.ntmps106
    go_wp2_with (first | (go_at_call 130; refine (take_nam sb s hs i (by omega) (i + N) HN2 _ HA.out.2.1).mono ?_; rintro e w1 ⟨rfl, h1, hg1⟩; rw [HX.out]; have HG1 := Hid.out (p := Hid _) (And.intro h1 hg1); clear h1 hg1) | (go_at_call 134; refine (pkind_any x _).mono ?_; rintro e w' ⟨rfl, rfl⟩) | (go_at_call 133; refine (taken_any sb s (i + N) (by omega) _ x (by omega) _ HG1.out.1).mono ?_; rintro e w2 ⟨rfl, hb2⟩; have hx2 := (hb2.block _ (Nat.lt_of_lt_of_le HA.out.2.2.2.1 HG1.out.2.size)).trans ((HG1.out.2.block _ HA.out.2.2.2.1 HA.out.2.2.2.2).trans HA.out.2.2.1); have p0 := box_cell (i := 0) hx2 rfl; have p1 := box_cell (i := 1) hx2 rfl; have p2 := box_cell (i := 2) hx2 rfl; have p3 := box_cell (i := 3) hx2 rfl; have pf := fun j => box_free (i := j) hx2; have hl2 : w.heap.size < w2.heap.size := Nat.lt_of_lt_of_le (Nat.lt_of_lt_of_le HA.out.2.2.2.1 HG1.out.2.size) hb2.size; clear hx2))
    have hg2 : w.grownBy w2 (some sb) := grown_then (grown_of_below HA.out.1 _) (grown_then HG1.out.2 (grown_of_below hb2 _))
    have hne : w.heap.size ≠ sb := by have := h.lt; omega
    refine bodyPost_ret (v := .agg #[.int .i64 (kindW x.data.toList), .int .i64 0, .int .i64 i, .string x]) (by simp [results, Tryz.results106, go_sem, p0, p1, p2, p3, hl2]) rfl (HQ2.out _ _ ?_ rfl ?_)
    · exact grown_alloc (grown_high (grown_high (grown_high (grown_high hg2 (Nat.le_refl _) _) (Nat.le_refl _) _) (Nat.le_refl _) _) (Nat.le_refl _) _) _
    · exact (((((HG1.out.1.below hb2).far hne _).far hne _).far hne _).far hne _).more _
end

end Go.Proofs.YtggfbfjdiikaeaaGreatDoor
