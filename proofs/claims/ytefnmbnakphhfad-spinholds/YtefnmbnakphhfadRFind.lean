/-
  The box of a program that was handed in.
  A program and a script that are handed in, opened.
  What a thread finds in a word.
-/
import Derived.Test.YtefnmbnakphhfadOrder
import Derived.Test.YtefnmbnakphhfadFam
import Derived.Test.YtefnmbnakphhfadDSt2
import Derived.Test.YtefnmbnakphhfadAppB
namespace Go.Proofs.Ytefnmbnakphhfad
section
open Go.RowKit

abbrev boxQ (ca : Option Addr) (n cc : Nat) (wa : Option Addr) (m wc : Nat) (lk rg : Int) : Obj := .cells #[.slice ca n cc, .slice wa m wc, .int .i64 lk, .int .i64 rg] 25

theorem box_lt {w : World} {g : Nat} {o : Obj} (h : w.heap[g]? = some o) : g < w.heap.size := by
  rcases Nat.lt_or_ge g w.heap.size with h1 | h1
  · exact h1
  · rw [Array.getElem?_eq_none h1] at h; cases h

theorem heap_set_same {w : World} {g i : Nat} {cs : Array Value} {t : TypeId} {u : Value} (h : w.heap[g]? = some (.cells cs t)) : (w.setCell ⟨g, i, none⟩ u).heap[g]? = some (.cells (cs.setIfInBounds i u) t) := by
  simp only [World.setCell, Array.getElem?_modify, if_true, h, Option.map_some]
  rfl

theorem own_type {w : World} {B : Nat} {e t : TypeId} {size : Nat} {v : Value} {n g : Nat} {xs : List Value} {c : Array Value} (h : w.ownsRow B e size v n xs) (hg : w.heap[g]? = some (.cells c t (0, 0))) (hne : e ≠ t) : v.ownBlock ≠ some g := fun e1 => by
  rcases h.2 with ⟨h0, _⟩ | ⟨g', cap, cur, hv, _, hh, _⟩
  · rw [h0] at e1; simp [Value.ownBlock] at e1
  · rw [hv] at e1
    have e2 : g' = g := by simpa [Value.ownBlock] using e1
    subst e2
    rw [hh] at hg
    simp only [Option.some.injEq, Obj.cells.injEq] at hg
    exact hne hg.2.1
theorem box_cell {w : World} {g i : Nat} {cs : Array Value} {t : TypeId} {u : Value} (h : w.heap[g]? = some (.cells cs t)) (hi : cs[i]? = some u) : w.cell? ⟨g, i, none⟩ = some u := by
  simp [World.cell?, h, hi]
theorem box_free {w : World} {g i : Nat} {cs : Array Value} {t : TypeId} (h : w.heap[g]? = some (.cells cs t)) : w.frozen? ⟨g, i, none⟩ = false := by
  simp [World.frozen?, h]
theorem box_later {w : World} {g : Nat} {o : Obj} (h : w.heap[g]? = some o) (p : Obj) : (w.alloc p).heap[g]? = some o := by
  have hl : g < w.heap.size := by
    rcases Nat.lt_or_ge g w.heap.size with h1 | h1
    · exact h1
    · rw [Array.getElem?_eq_none h1] at h; cases h
  exact (((Below.refl w.heap.size w).alloc (Nat.le_refl _) p).block _ hl).trans h
theorem cell_drw {w : World} {a : Addr} {v : Value} (h : w.cell? a = some v) : w.drew.cell? a = some v := h
end

section
open Go.ChangeShapes Go.WideShapes Go.ChangeAt Go.RowKit Go.Joins Go.Deep

theorem Try.own : ownKnob Try.prog.godebug = none := by kernel_rfl
theorem Try.laidOut : laidOutB Try.prog = true := by kernel_rfl
theorem Try.readableP : Try.prog.readableRec 25 = true := by kernel_rfl
theorem Try.readableI : Try.prog.readableRec 23 = true := by kernel_rfl

/-- A list of numbers that is handed in, opened. -/
theorem open_ints {H : Type} {enc : TypeId × Value → H} {W : World} {fuel : Nat} {v : Value} {x : DataW H × List MemPlace} (h : DataW.trod enc Try.prog W 0 (fun _ => true) true fuel 23 [v] = some x) :
    ∃ (sa : Option Addr) (xs : List Int) (sc : Nat), v = .slice sa xs.length sc ∧ xs.length ≤ sc ∧ sc ≤ maxLen ∧ SIs W sa xs ∧ (sa = none → xs = [] ∧ sc = 0) := by
  rcases open_slice1 Try.underlying23 cells3 h with ⟨hcs, _⟩ | ⟨a, len, cap, _, _, V, _, _, hcs, _, hl, hm, hmm, _, hx⟩
  · simp at hcs
    subst hcs
    exact ⟨none, [], 0, rfl, by simp, by simp, fun i hi => absurd hi (Nat.not_lt_zero _), fun _ => ⟨rfl, rfl⟩⟩
  · simp at hcs hmm
    subst hcs
    obtain ⟨Y, hY⟩ := choose_lt (α := Int) (p := fun i (y : Int) => W.cell? (a.add i) = some (.int .i64 y)) (n := len) (fun i hi => by
      obtain ⟨x1, x2⟩ := hx i (by omega)
      obtain ⟨y, e, _, _⟩ := DataW.trod_int Try.underlying3 x2
      simp at e
      exact ⟨y, by rw [x1, e]⟩)
    have hlen : ((List.range len).map Y).length = len := by simp
    refine ⟨some a, (List.range len).map Y, cap, by rw [hlen], by rw [hlen]; exact hl, hm, fun i hi => ?_, fun e => by cases e⟩
    rw [hlen] at hi
    obtain ⟨b, o, sp⟩ := a
    have hsp : sp = none := by simpa [Addr.add] using World.cell?_spot (hY 0 (by omega))
    subst hsp
    refine ⟨b, o, rfl, ?_⟩
    rw [← Go.WideShapes.add_plain, hY i hi]
    simp [List.getD, hi]

set_option maxRecDepth 100000 in
/-- A program that is handed in, opened. -/
theorem open_prog2 {H : Type} {enc : TypeId × Value → H} {W : World} {b0 : Nat} {v : Value} {d : DataW H} {p : List MemPlace} (hv : Value.okWide Try.prog W .any b0 25 v) (h : DataW.Trod enc Try.prog W 0 (fun _ => true) true 25 v d p) :
    ∃ (ca : Option Addr) (n cc : Nat) (wa : Option Addr) (words : List Int) (wc : Nat) (lk rg : Int) (A : Nat → Option Addr) (L C : Nat → Nat) (X : Nat → Nat → Nat → Int), v = prgV ca n cc wa words.length wc lk rg ∧ words.length ≤ 9223372036854775807 ∧ PIn W ca n A L C X ∧ SIs W wa words ∧ (wa = none → words = [] ∧ wc = 0) := by
  obtain ⟨c0, c1, c2, c3, y0, y1, y2, y3, m, rfl, _, _, h0, h1, h2, h3⟩ := open_agg4 Try.underlying25 (by kernel_rfl) cells25 hv h
  obtain ⟨ca, n, cc, A, L, C, X, rfl, hp, _⟩ := read_code h0
  obtain ⟨lk, e2, _, _⟩ := DataW.trod_int Try.underlying3 h2
  obtain ⟨rg, e3, _, _⟩ := DataW.trod_int Try.underlying3 h3
  simp at e2 e3
  subst e2 e3
  obtain ⟨wa, words, wc, rfl, hl, hm, hs, hn⟩ := open_ints h1
  exact ⟨ca, n, cc, wa, words, wc, lk, rg, A, L, C, X, rfl, by unfold maxLen at hm; omega, hp, hs, hn⟩
end

section
open Go.RowKit

theorem back_none {l : List Wt} {f : Wt → Bool} (h : ∀ p, p < l.length → f (l.getD p default) = false) : l.reverse.find? f = none := by
  rw [List.find?_eq_none]
  intro x hx
  rw [List.mem_reverse] at hx
  obtain ⟨p, hp, rfl⟩ := List.mem_iff_getElem.mp hx
  have e : l.getD p default = l[p] := by simp [List.getD, List.getElem?_eq_getElem hp]
  rw [← e, h p hp]
  simp
theorem back_some {l : List Wt} {f : Wt → Bool} {i : Nat} (hi : i < l.length) (hm : f (l.getD i default) = true) (h : ∀ p, i < p → p < l.length → f (l.getD p default) = false) : l.reverse.find? f = some (l.getD i default) := by
  have e : l = l.take i ++ (l.getD i default :: l.drop (i + 1)) := by
    have e0 : l.getD i default = l[i] := by simp [List.getD, List.getElem?_eq_getElem hi]
    rw [e0, ← List.drop_eq_getElem_cons hi, List.take_append_drop]
  have hd : (l.drop (i + 1)).reverse.find? f = none := by
    refine back_none fun p hp => ?_
    rw [List.length_drop] at hp
    have e1 : (l.drop (i + 1)).getD p default = l.getD (i + 1 + p) default := by simp [List.getD, List.getElem?_drop]
    rw [e1]
    exact h _ (by omega) (by omega)
  conv => lhs; rw [e]
  rw [List.reverse_append, List.reverse_cons, List.append_assoc, List.find?_append, hd]
  simp only [List.singleton_append, List.find?_cons, hm, Option.none_or]

set_option maxRecDepth 100000 in
set_option maxHeartbeats 1600000 in
theorem finds_any (sb tb n tc : Nat) (ga : Option Addr) (qa : Option Addr) (qc wc : Nat) (s : Sx) (t : Nat) (wd : Nat) (ht : t < n) (_hn : n ≤ 4) (hw : wd < s.words.length) (_hwl : s.words.length ≤ 64) (l : List Wt) (HL : Hid ((thOf s t).wait = l)) (_hl : l.length ≤ 100) (w : World) (h5 : w.cell? ⟨sb, 5, none⟩ = some (.slice (some ⟨tb, 0, none⟩) n tc)) (h6 : w.cell? ⟨sb, 6, none⟩ = some (.slice ga s.words.length wc)) (hg : ∃ b o, ga = some ⟨b, o, none⟩ ∧ w.cell? ⟨b, o + wd, none⟩ = some (.int .i64 (s.words.getD wd 0))) (hqv : w.cell? ⟨tb, t * 3 + 2, none⟩ = some (.slice qa l.length qc)) (hq : WIn w qa l) :
    Calls Try.prog 54 #[.pointer (some ⟨sb, 0, none⟩), .int .i64 t, .int .i64 wd] w fun e w' => e = .returned (.int .i64 (findsW s t wd)) ∧ w' = w := by
  obtain ⟨gb, go, rfl, hgc⟩ := hg
  obtain ⟨r, hr⟩ : ∃ r, findsW s t wd = r := ⟨_, rfl⟩
  have HR : Hid (findsW s t wd = r) := hr
  rw [hr]
  clear hr
  obtain ⟨v0, e0⟩ : ∃ v, s.words.getD wd 0 = v := ⟨_, rfl⟩
  have HV0 : Hid (s.words.getD wd 0 = v0) := e0
  rw [e0] at hgc
  clear e0
  go_enter Try.func54, Try.ntmps54
  go_wp2
  go_loopw [8] (fun i wr => ∃ j : Nat, j ≤ l.length ∧ i = .int .i64 ((j : Int) - 1) ∧ Hid (∀ p, j ≤ p → p < l.length → (!(l.getD p default).lk && decide ((l.getD p default).wh = (wd : Int))) = false) ∧ w = wr) (fun i _ => (intOf i + 1).toNat)
  case atStart => exact ⟨l.length, Nat.le_refl _, by go_num, fun p h1 h2 => absurd h1 (by omega), rfl⟩
  case round =>
    obtain ⟨j, hj, rfl, HJ, rfl⟩ := hrel
    have hbr := Below.refl w.heap.size w
    have h6r := (hbr.cell (lt_of_cell h6)).trans h6
    have hgr := (hbr.cell (lt_of_cell hgc)).trans hgc
    have hqr := hq.below hbr
    match j, hj, HJ with
    | 0, _, HJ =>
      obtain rfl : r = v0 := by
        have h := HR.out
        unfold findsW at h
        rw [HL.out, back_none fun p hp => HJ.out p (Nat.zero_le _) hp] at h
        rw [← h, ← HV0.out]
        simp
      go_wp2
      go_ret
      exact ⟨rfl, rfl⟩
    | m + 1, hj, HJ =>
      rw [show ((m + 1 : Nat) : Int) - 1 = (m : Int) by omega]
      obtain ⟨b, o, rfl, j0, j1, j2⟩ := hqr m (by omega)
      obtain ⟨lj, f1⟩ : ∃ v, (l.getD m default).lk = v := ⟨_, rfl⟩
      obtain ⟨wj, f2⟩ : ∃ v, (l.getD m default).wh = v := ⟨_, rfl⟩
      obtain ⟨vj, f3⟩ : ∃ v, (l.getD m default).what = v := ⟨_, rfl⟩
      have HF1 : Hid ((l.getD m default).lk = lj) := f1
      have HF2 : Hid ((l.getD m default).wh = wj) := f2
      have HF3 : Hid ((l.getD m default).what = vj) := f3
      rw [f1] at j0
      rw [f2] at j1
      rw [f3] at j2
      clear f1 f2 f3
      by_cases hit : lj = false ∧ wj = (wd : Int)
      · obtain ⟨rfl, rfl⟩ := hit
        obtain rfl : r = vj := by
          have h := HR.out
          unfold findsW at h
          rw [HL.out, back_some (i := m) (by omega) (by rw [HF1.out, HF2.out]; simp) (fun p h1 h2 => HJ.out p (by omega) h2)] at h
          rw [← h, ← HF3.out]
        go_wp2
        go_ret
        exact ⟨rfl, rfl⟩
      · have hmiss : (!(l.getD m default).lk && decide ((l.getD m default).wh = (wd : Int))) = false := by
          rw [HF1.out, HF2.out]
          cases lj <;> simp_all
        have HMI := Hid.out (p := Hid _) hmiss
        clear hmiss
        cases lj with
        | true =>
          go_wp2
          go_roundw
          case rel =>
            refine ⟨m, by omega, by go_num, fun p h1 h2 => ?_, by first | rfl | trivial⟩
            rcases (by omega : m + 1 ≤ p ∨ p = m) with h | rfl
            · exact HJ.out p h h2
            · exact HMI.out
          case measure => simp [intOf]
        | false =>
          have hne : ¬ wj = (wd : Int) := fun h => hit ⟨rfl, h⟩
          clear hit
          go_wp2
          go_roundw
          case rel =>
            refine ⟨m, by omega, by go_num, fun p h1 h2 => ?_, by first | rfl | trivial⟩
            rcases (by omega : m + 1 ≤ p ∨ p = m) with h | rfl
            · exact HJ.out p h h2
            · exact HMI.out
          case measure => simp [intOf]
end

end Go.Proofs.Ytefnmbnakphhfad
