/-
  The box of a program that was handed in.
  What the program tells of a state, a number at a time.
  What the memories tell, and a state.
  Copies of memories.
  A program that is handed in, read: its orders lie in memory, its numbers fit.
  A program and a script that are handed in, opened.
-/
import Derived.Test.YtipdnfpomdcenabGreatDoorOrder
import Derived.Test.YtipdnfpomdcenabGreatDoorFam
import Derived.Test.YtipdnfpomdcenabGreatDoorPBegin
import Derived.Deep.RegionHeld
import Derived.Test.YtipdnfpomdcenabGreatDoorRDoW
import Derived.Deep.RegionHeld3
import Derived.RangeFuncFrom
import Derived.RangeFuncNested
import Derived.RangeFuncBound
import Derived.RangeFuncCalls
import Derived.RangeFuncLeaves
import Derived.RangeFuncBox
import Derived.Shelf.Abstract
import Derived.Shelf.RegionOpen
import Derived.OwnWalkIn
import Derived.TacticsInMore
import Derived.LoopNIn
import Derived.LoopIn
import Derived.Test.YtipdnfpomdcenabGreatDoorSpaceP
import Derived.Test.YtipdnfpomdcenabGreatDoorPNew
import Derived.ProofKit
import Derived.Lib.SmallJoins
import Derived.Deep.Slices
import Derived.Test.YtipdnfpomdcenabGreatDoorRBegin
namespace Go.Proofs.YtipdnfpomdcenabGreatDoor
section
open Go.RowKit

abbrev boxQ (ca : Option Addr) (n cc : Nat) (wa : Option Addr) (m wc : Nat) (lk rg : Int) : Obj := .cells #[.slice ca n cc, .slice wa m wc, .int .i64 lk, .int .i64 rg] 25

theorem box_lt {w : World} {g : Nat} {o : Obj} (h : w.heap[g]? = some o) : g < w.heap.size := by
  rcases Nat.lt_or_ge g w.heap.size with h1 | h1
  · exact h1
  · rw [Array.getElem?_eq_none h1] at h; cases h

theorem heap_set_same {w : World} {g i : Nat} {cs : Array Value} {t : TypeId} {u : Value} (h : w.heap[g]? = some (.cells cs t)) : (w.setCell ⟨g, i, none⟩ u).heap[g]? = some (.cells (cs.setIfInBounds i u) t) := by
  simp only [World.setCell, Array.getElem?_modify, if_true, h, Option.map_some]
  rfl

theorem own_type {w : World} {B : Nat} {e t : TypeId} {size : Nat} {v : Value} {n g : Nat} {xs : List Value} {c : Array Value} (h : w.ownsRow B e size v n xs) (hg : w.heap[g]? = some (.cells c t (0, 0))) (hne : e ≠ t) : v.ownBlock ≠ some g := fun e1 => by
  rcases h.2 with ⟨h0, _⟩ | ⟨g', cap, cur, hv, _, hh, _⟩
  · rw [h0] at e1; simp [Value.ownBlock] at e1
  · rw [hv] at e1
    have e2 : g' = g := by simpa [Value.ownBlock] using e1
    subst e2
    rw [hh] at hg
    simp only [Option.some.injEq, Obj.cells.injEq] at hg
    exact hne hg.2.1
theorem box_cell {w : World} {g i : Nat} {cs : Array Value} {t : TypeId} {u : Value} (h : w.heap[g]? = some (.cells cs t)) (hi : cs[i]? = some u) : w.cell? ⟨g, i, none⟩ = some u := by
  simp [World.cell?, h, hi]
theorem box_free {w : World} {g i : Nat} {cs : Array Value} {t : TypeId} (h : w.heap[g]? = some (.cells cs t)) : w.frozen? ⟨g, i, none⟩ = false := by
  simp [World.frozen?, h]
theorem box_later {w : World} {g : Nat} {o : Obj} (h : w.heap[g]? = some o) (p : Obj) : (w.alloc p).heap[g]? = some o := by
  have hl : g < w.heap.size := by
    rcases Nat.lt_or_ge g w.heap.size with h1 | h1
    · exact h1
    · rw [Array.getElem?_eq_none h1] at h; cases h
  exact (((Below.refl w.heap.size w).alloc (Nat.le_refl _) p).block _ hl).trans h
end

section
open Go.RowKit

/-- Nothing has turned but bytes, and where they are told. -/
def Txt (W W' : World) : Prop := ∀ (k : Nat) (c : Array Value) (t : TypeId), t ≠ 5 → t ≠ 145 → W.heap[k]? = some (.cells c t) → W'.heap[k]? = some (.cells c t)
/-- Who is told numbers: I xs W: xs were told so far. -/
structure Ear (fid : Nat) (caps : Array Value) (B : Nat) (Q : Cd) (sb mb : Nat) (v : Rp → Value) (s : Sx) (I : List Int → World → Prop) : Prop where
  fn : ∀ (xs : Array Value) (w : World), (callFunc fid xs).run Tryz.prog w = .ok (.enter fid xs) w
  st : ∀ xs W, I xs W → QSt W B Q sb mb v s
  more : ∀ xs W W', I xs W → Below W.heap.size W W' → I xs W'
  tell : ∀ xs W n, I64n n → xs.length ≤ 20000 → I xs W → Calls Tryz.prog fid (#[.int .i64 n] ++ caps) W fun e W' => e = .returned (.tuple #[]) ∧ I (xs ++ [n]) W' ∧ Txt W W'
/-- A list that lies at its block's start. -/
def RowI (w : World) (a : Option Addr) (l : List Int) : Prop := ∀ i, i < l.length → ∃ b, a = some ⟨b, 0, none⟩ ∧ w.cell? ⟨b, i, none⟩ = some (.int .i64 (l.getD i 0))
theorem own_rowI {w : World} {B : Nat} {t : TypeId} {a : Option Addr} {n c : Nat} {l : List Int} (h : w.ownsRow B t 1 (.slice a n c) n (intsV l)) (hn : n = l.length) : RowI w a l := fun i hi => by
  obtain ⟨g, cap, h1, h2, _, _⟩ := fam_block h (by omega)
  simp only [Value.slice.injEq] at h1
  exact ⟨g, h1.1, fam_cell h h2 (intsV_at hi)⟩
section
variable {w : World} {B : Nat} {Q : Cd} {sb mb : Nat} {v : Rp → Value} {s : Sx}
theorem QSt.rowW (h : QSt w B Q sb mb v s) : ∃ a c, v .words = .slice a s.words.length c ∧ RowI w a s.words := by
  obtain ⟨a, c, e⟩ := h.form .words
  have := h.fam.own .words
  rw [e] at this
  exact ⟨a, c, e, own_rowI this rfl⟩
theorem QSt.rowO (h : QSt w B Q sb mb v s) : ∃ a c, v .own = .slice a s.own.length c ∧ RowI w a s.own := by
  obtain ⟨a, c, e⟩ := h.form .own
  have := h.fam.own .own
  rw [e] at this
  exact ⟨a, c, e, own_rowI this rfl⟩
theorem QSt.rowP (h : QSt w B Q sb mb v s) : ∃ a c, v .prints = .slice a s.prints.length c ∧ RowI w a s.prints := by
  obtain ⟨a, c, e⟩ := h.form .prints
  have := h.fam.own .prints
  rw [e] at this
  exact ⟨a, c, e, own_rowI this rfl⟩
theorem QSt.rowR (h : QSt w B Q sb mb v s) (t : Nat) : ∃ a c, v (.regs t) = .slice a (thOf s t).regs.length c ∧ RowI w a (thOf s t).regs := by
  obtain ⟨a, c, e⟩ := h.form (.regs t)
  have := h.fam.own (.regs t)
  rw [e] at this
  exact ⟨a, c, e, own_rowI this rfl⟩
end

set_option maxRecDepth 100000 in
set_option maxHeartbeats 1600000 in
/-- All of a list is told. -/
theorem tellAll_any (w : World) (fid : Nat) (caps : Array Value) (B : Nat) (Q : Cd) (sb mb : Nat) (v : Rp → Value) (s : Sx) (I : List Int → World → Prop) (hE : Ear fid caps B Q sb mb v s I) (a : Option Addr) (c : Nat) (l xs : List Int) (hl : ∀ ys W, I ys W → RowI W a l) (hfit : ∀ x, x ∈ l → I64n x) (hlen : xs.length + l.length ≤ 20000) (h0 : I xs w) :
    Calls Tryz.prog 121 #[.slice a l.length c, .func (.func fid) #[] caps] w fun e w' => e = .returned (.tuple #[]) ∧ I (xs ++ l) w' := by
  obtain ⟨n, hn⟩ : ∃ n, l.length = n := ⟨_, rfl⟩
  have HN : Hid (l.length = n) := hn
  have hn2 : n ≤ 20000 := by omega
  have kF := hE.fn
  have HROW : Hid (∀ k W, k < n → I (xs ++ l.take k) W → ∃ b, a = some ⟨b, 0, none⟩ ∧ W.cell? ⟨b, k, none⟩ = some (.int .i64 (l.getD k 0)) ∧ Hid (Calls Tryz.prog fid (#[.int .i64 (l.getD k 0)] ++ caps) W fun e W' => e = .returned (.tuple #[]) ∧ I (xs ++ l.take (k + 1)) W')) := fun k W hk hI => by
    have hk' : k < l.length := by rw [hn]; exact hk
    obtain ⟨b, h1, h2⟩ := hl _ W hI k hk'
    have hm : l.getD k 0 ∈ l := by rw [List.getD_eq_getElem?_getD, List.getElem?_eq_getElem hk']; exact List.getElem_mem hk'
    refine ⟨b, h1, h2, ?_⟩
    have h3 := hE.tell (xs ++ l.take k) W (l.getD k 0) (hfit _ hm) (by rw [List.length_append, List.length_take]; omega) hI
    have e : l.take (k + 1) = l.take k ++ [l.getD k 0] := by rw [List.take_add_one, List.getElem?_eq_getElem hk', List.getD_eq_getElem?_getD, List.getElem?_eq_getElem hk']; rfl
    rw [List.append_assoc, ← e] at h3
    exact h3.mono fun e W' h => ⟨h.1, h.2.1⟩
  have HI0 : Hid (I (xs ++ l.take 0) w) := by show I _ _; rw [List.take_zero, List.append_nil]; exact h0
  have HEND : Hid (∀ W, I (xs ++ l.take n) W → I (xs ++ l) W) := fun W h => by rw [← hn, List.take_length] at h; exact h
  rw [hn]
  clear hn hlen hE hl hfit h0
  go_enter Tryz.func121, Tryz.ntmps121
  go_wp2
  go_loopw [8] (fun i wr => ∃ k : Nat, k ≤ n ∧ i = .int .i64 k ∧ Hid (I (xs ++ l.take k) wr)) (fun i _ => n - (intOf i).toNat)
  case atStart => exact ⟨0, Nat.zero_le _, rfl, HI0⟩
  case round =>
    obtain ⟨k, hk, rfl, HI⟩ := hrel
    by_cases hlt : k < n
    · obtain ⟨b, rfl, hc, HC⟩ := HROW.out k wr hlt HI.out
      obtain ⟨y, hy⟩ : ∃ y, l.getD k 0 = y := ⟨_, rfl⟩
      rw [hy] at hc HC
      clear hy HI
      go_wp2_with fail
      refine Calls.mono HC.out ?_
      rintro e w1 ⟨rfl, h1⟩
      have H1 := Hid.out (p := Hid _) h1
      clear HC h1
      go_wp2_with fail
      go_roundw
      case rel => exact ⟨k + 1, by omega, by go_num, H1⟩
      case measure => simp [intOf]; omega
    · obtain rfl : k = n := by omega
      go_wp2
      go_end0
      exact ⟨rfl, HEND.out _ HI.out⟩
end

section
open Go.RowKit

section
variable {fid : Nat} {caps : Array Value} {B : Nat} {Q : Cd} {sb mb : Nat} {v : Rp → Value} {s : Sx} {I : List Int → World → Prop}
theorem Ear.words (hE : Ear fid caps B Q sb mb v s I) {W : World} {xs : List Int} (h0 : I xs W) (hfit : ∀ x, x ∈ s.words → I64n x) (hlen : xs.length + s.words.length ≤ 20000) : ∃ a c, v .words = .slice a s.words.length c ∧ Hid (Calls Tryz.prog 121 #[.slice a s.words.length c, .func (.func fid) #[] caps] W fun e w' => e = .returned (.tuple #[]) ∧ I (xs ++ s.words) w') := by
  obtain ⟨a, c, e, _⟩ := (hE.st _ _ h0).rowW
  refine ⟨a, c, e, tellAll_any W fid caps B Q sb mb v s I hE a c s.words xs (fun ys V hV => ?_) hfit hlen h0⟩
  obtain ⟨a', c', e', h⟩ := (hE.st _ _ hV).rowW
  rw [e] at e'
  simp only [Value.slice.injEq] at e'
  rw [e'.1]; exact h
theorem Ear.own (hE : Ear fid caps B Q sb mb v s I) {W : World} {xs : List Int} (h0 : I xs W) (hfit : ∀ x, x ∈ s.own → I64n x) (hlen : xs.length + s.own.length ≤ 20000) : ∃ a c, v .own = .slice a s.own.length c ∧ Hid (Calls Tryz.prog 121 #[.slice a s.own.length c, .func (.func fid) #[] caps] W fun e w' => e = .returned (.tuple #[]) ∧ I (xs ++ s.own) w') := by
  obtain ⟨a, c, e, _⟩ := (hE.st _ _ h0).rowO
  refine ⟨a, c, e, tellAll_any W fid caps B Q sb mb v s I hE a c s.own xs (fun ys V hV => ?_) hfit hlen h0⟩
  obtain ⟨a', c', e', h⟩ := (hE.st _ _ hV).rowO
  rw [e] at e'
  simp only [Value.slice.injEq] at e'
  rw [e'.1]; exact h
theorem Ear.prints (hE : Ear fid caps B Q sb mb v s I) {W : World} {xs : List Int} (h0 : I xs W) (hfit : ∀ x, x ∈ s.prints → I64n x) (hlen : xs.length + s.prints.length ≤ 20000) : ∃ a c, v .prints = .slice a s.prints.length c ∧ Hid (Calls Tryz.prog 121 #[.slice a s.prints.length c, .func (.func fid) #[] caps] W fun e w' => e = .returned (.tuple #[]) ∧ I (xs ++ s.prints) w') := by
  obtain ⟨a, c, e, _⟩ := (hE.st _ _ h0).rowP
  refine ⟨a, c, e, tellAll_any W fid caps B Q sb mb v s I hE a c s.prints xs (fun ys V hV => ?_) hfit hlen h0⟩
  obtain ⟨a', c', e', h⟩ := (hE.st _ _ hV).rowP
  rw [e] at e'
  simp only [Value.slice.injEq] at e'
  rw [e'.1]; exact h
theorem Ear.regs (hE : Ear fid caps B Q sb mb v s I) {W : World} {xs : List Int} (h0 : I xs W) (t : Nat) (hfit : ∀ x, x ∈ (thOf s t).regs → I64n x) (hlen : xs.length + (thOf s t).regs.length ≤ 20000) : ∃ a c, v (.regs t) = .slice a (thOf s t).regs.length c ∧ Hid (Calls Tryz.prog 121 #[.slice a (thOf s t).regs.length c, .func (.func fid) #[] caps] W fun e w' => e = .returned (.tuple #[]) ∧ I (xs ++ (thOf s t).regs) w') := by
  obtain ⟨a, c, e, _⟩ := (hE.st _ _ h0).rowR t
  refine ⟨a, c, e, tellAll_any W fid caps B Q sb mb v s I hE a c (thOf s t).regs xs (fun ys V hV => ?_) hfit hlen h0⟩
  obtain ⟨a', c', e', h⟩ := (hE.st _ _ hV).rowR t
  rw [e] at e'
  simp only [Value.slice.injEq] at e'
  rw [e'.1]; exact h
end

set_option maxRecDepth 100000 in
set_option maxHeartbeats 1600000 in
/-- What the plain memory tells. -/
theorem ptell_any (w : World) (fid : Nat) (caps : Array Value) (B : Nat) (Q : Cd) (sb mb : Nat) (v : Rp → Value) (s : Sx) (I : List Int → World → Prop) (hE : Ear fid caps B Q sb mb v s I) (xs : List Int) (hf1 : ∀ x, x ∈ s.words → I64n x) (hf2 : ∀ x, x ∈ s.own → I64n x) (hlen : xs.length + s.words.length + s.own.length ≤ 20000) (h0 : I xs w) :
    Calls Tryz.prog 177 #[.pointer (some ⟨mb, 0, none⟩), .func (.func fid) #[] caps] w fun e w' => e = .returned (.tuple #[]) ∧ I (xs ++ s.words ++ s.own) w' := by
  obtain ⟨wa, wc, ew, HC1⟩ := hE.words h0 hf1 (by omega)
  have m0 := (hE.st _ _ h0).m0
  rw [ew] at m0
  have HC2 : Hid (∀ W, I (xs ++ s.words) W → ∃ a c, W.cell? ⟨mb, 1, none⟩ = some (.slice a s.own.length c) ∧ Hid (Calls Tryz.prog 121 #[.slice a s.own.length c, .func (.func fid) #[] caps] W fun e w' => e = .returned (.tuple #[]) ∧ I (xs ++ s.words ++ s.own) w')) := fun W h => by
    obtain ⟨a, c, e, h2⟩ := hE.own h hf2 (by rw [List.length_append]; exact hlen)
    have m1 := (hE.st _ _ h).m1
    rw [e] at m1
    exact ⟨a, c, m1, h2⟩
  obtain ⟨n, hn⟩ : ∃ n, s.words.length = n := ⟨_, rfl⟩
  obtain ⟨k, hk⟩ : ∃ n, s.own.length = n := ⟨_, rfl⟩
  rw [hn] at m0 HC1
  rw [hk] at HC2
  clear hE ew h0 hlen hn hk hf1 hf2
  go_enter Tryz.func177, Tryz.ntmps177
  go_wp2_with fail
  refine Calls.mono HC1.out ?_
  rintro e w1 ⟨rfl, h1⟩
  obtain ⟨oa, oc, m1, HC3⟩ := HC2.out w1 h1
  clear h1 HC1 HC2
  go_wp2_with fail
  refine Calls.mono HC3.out ?_
  rintro e w2 ⟨rfl, h2⟩
  go_wp2_with fail
  go_end0
  exact ⟨rfl, h2⟩

/-- What waits of the first j threads, as numbers. -/
def telBs (s : Sx) (j : Nat) : List Int := (List.range j).flatMap fun t => telB (thOf s t)
theorem telBs_all (s : Sx) : telBs s s.ths.length = s.ths.flatMap telB := by
  unfold telBs
  conv => rhs; rw [show s.ths = (List.range s.ths.length).map (thOf s) by
    refine List.ext_getElem? fun i => ?_
    rw [List.getElem?_map]
    by_cases h : i < s.ths.length
    · rw [List.getElem?_range h, List.getElem?_eq_getElem h]
      show _ = some (thOf s i)
      unfold thOf
      rw [List.getD_eq_getElem?_getD, List.getElem?_eq_getElem h]; rfl
    · rw [List.getElem?_eq_none (by omega), List.getElem?_eq_none (by simpa using h)]; rfl]
  rw [List.flatMap_map]
theorem telBs_succ (s : Sx) (j : Nat) : telBs s (j + 1) = telBs s j ++ ([((thOf s j).wait.length : Int)] ++ (thOf s j).wait.flatMap telW) := by
  unfold telBs
  rw [List.range_succ, List.flatMap_append]
  simp [telB]
end

section
open Go.RowKit

/-- A plain memory that has just been made, in the block mb. -/
structure Mem1 (w w' : World) (mb : Nat) (wv ov : Value) (words own : List Int) : Prop where
  box : w'.heap[mb]? = some (.cells #[wv, ov] 118 (0, 0))
  wrow : w'.ownsRow w.heap.size 3 1 wv words.length (intsV words)
  orow : w'.ownsRow w.heap.size 3 1 ov own.length (intsV own)
  lo : w.heap.size ≤ mb
  a1 : wv.ownBlock ≠ some mb
  a2 : ov.ownBlock ≠ some mb
  a3 : ∀ g, wv.ownBlock = some g → ov.ownBlock ≠ some g
  below : Below w.heap.size w w'
theorem cloneI_row (w : World) (B : Nat) (a : Option Addr) (c : Nat) (l : List Int) (hown : w.ownsRow B 3 1 (.slice a l.length c) l.length (intsV l)) (hn : l.length ≤ 1000000) :
    Calls Tryz.prog 57 #[.slice a l.length c] w fun e w' => ∃ a' c', e = .returned (.slice a' l.length c') ∧ w'.ownsRow w.heap.size 3 1 (.slice a' l.length c') l.length (intsV l) ∧ Below w.heap.size w w' :=
  (cloneI_any w B _ _ _ hown (intsV_one l) hn).mono fun e w' ⟨u, h1, h2, h3⟩ => by
    obtain ⟨a', c', rfl⟩ := fam_form h2
    exact ⟨a', c', h1, h2, h3⟩
set_option maxRecDepth 100000 in
set_option maxHeartbeats 3200000 in
theorem pcopy_any (w : World) (B : Nat) (Q : Cd) (sb mb : Nat) (v : Rp → Value) (s : Sx) (hs : QSt w B Q sb mb v s) (hm : s.words.length ≤ 64) (hl : s.own.length ≤ 4) :
    Calls Tryz.prog 181 #[.pointer (some ⟨mb, 0, none⟩)] w fun e w' => ∃ mb' wv ov, e = .returned (.pointer (some ⟨mb', 0, none⟩)) ∧ Mem1 w w' mb' wv ov s.words s.own := by
  obtain ⟨wa, wc, ew⟩ := hs.form .words
  change v .words = .slice wa s.words.length wc at ew
  obtain ⟨oa, oc, eo⟩ := hs.form .own
  change v .own = .slice oa s.own.length oc at eo
  have m0 := hs.m0
  rw [ew] at m0
  have m1 := hs.m1
  rw [eo] at m1
  have HC1 : Hid (∀ W, Below w.heap.size w W → Calls Tryz.prog 57 #[.slice wa s.words.length wc] W fun e w' => ∃ a' c', e = .returned (.slice a' s.words.length c') ∧ w'.ownsRow W.heap.size 3 1 (.slice a' s.words.length c') s.words.length (intsV s.words) ∧ Below W.heap.size W w') := fun W hb => by
    have h1 := (hs.below hb).fam.own .words
    rw [ew] at h1
    exact cloneI_row W B wa wc s.words h1 (by omega)
  have HC2 : Hid (∀ W, Below w.heap.size w W → Calls Tryz.prog 57 #[.slice oa s.own.length oc] W fun e w' => ∃ a' c', e = .returned (.slice a' s.own.length c') ∧ w'.ownsRow W.heap.size 3 1 (.slice a' s.own.length c') s.own.length (intsV s.own) ∧ Below W.heap.size W w') := fun W hb => by
    have h1 := (hs.below hb).fam.own .own
    rw [eo] at h1
    exact cloneI_row W B oa oc s.own h1 (by omega)
  have HFIN : Hid (∀ (W w3 w4 : World) (wv ov : Value), W.heap = w.heap → W.os = w.os → W.tape = w.tape → W.output = w.output → w3.ownsRow W.heap.size 3 1 wv s.words.length (intsV s.words) → Below W.heap.size W w3 → w4.ownsRow w3.heap.size 3 1 ov s.own.length (intsV s.own) → Below w3.heap.size w3 w4 → Mem1 w (w4.alloc (.cells #[wv, ov] 118)) w4.heap.size wv ov s.words s.own) := fun W w3 w4 wv ov e0 e1 e2 e3 h1 h2 h3 h4 => by
    have hz : W.heap.size = w.heap.size := by rw [e0]
    have hb : Below w.heap.size w w3 := ⟨h2.os.trans e1, h2.tape.trans e2, h2.output.trans e3, by have := h2.size; omega, fun k hk => (h2.block k (by omega)).trans (by rw [e0])⟩
    have hb4 : Below w.heap.size w w4 := hb.trans (h4.mono hb.size)
    rw [hz] at h1
    refine ⟨heap_alloc_new _ _, (fam_keeps h1 (fun g hg => h4.block g (h1.lt g hg).2)).alloc _, (own_low h3 hb.size).alloc _, hb4.size, fun e => ?_, fun e => ?_, fun g e1 e2 => ?_, hb4.alloc hb4.size _⟩
    · have := (h1.lt _ e).2
      have := h4.size
      omega
    · have := (h3.lt _ e).2; omega
    · have := (h1.lt _ e1).2
      have := (h3.lt _ e2).1
      omega
  obtain ⟨m, hmm⟩ : ∃ m, s.words.length = m := ⟨_, rfl⟩
  obtain ⟨k, hkk⟩ : ∃ m, s.own.length = m := ⟨_, rfl⟩
  rw [hmm] at m0 HC1 HFIN
  rw [hkk] at m1 HC2 HFIN
  clear hs ew eo hm hl hmm hkk
  go_enter Tryz.func181, Tryz.ntmps181
  go_wp2
  go_region_held3 (fun w' => w'.cell? ⟨mb, 0, none⟩ = some (.slice wa m wc) ∧ w'.cell? ⟨mb, 1, none⟩ = some (.slice oa k oc)) (refine ⟨?_, ?_⟩ <;> (repeat (first | assumption | refine cell_drw ?_ | refine cell_up ?_ _))) (first | (go_at_call 57; refine Calls.mono (HC1.out _ (by repeat (first | exact Below.refl _ _ | assumption | refine Below.drew ?_))) ?_; rintro e w3 ⟨a3, c3, rfl, ho3, hb3⟩; have z0 : w3.cell? ⟨mb, 0, none⟩ = some (.slice wa m wc) := (hb3.cell (p := ⟨mb, 0, none⟩) (lt_of_cell m0)).trans m0; have z1 : w3.cell? ⟨mb, 1, none⟩ = some (.slice oa k oc) := (hb3.cell (p := ⟨mb, 1, none⟩) (lt_of_cell m1)).trans m1; have hB3 : Below w.heap.size w w3 := ⟨hb3.os, hb3.tape, hb3.output, hb3.size, fun j hj => hb3.block j hj⟩) | (go_at_call 57; refine Calls.mono (HC2.out _ (by repeat (first | assumption | refine Below.drew ?_))) ?_; rintro e w4 ⟨a4, c4, rfl, ho4, hb4⟩; have y0 : w4.cell? ⟨mb, 0, none⟩ = some (.slice wa m wc) := (hb4.cell (p := ⟨mb, 0, none⟩) (lt_of_cell z0)).trans z0; have y1 : w4.cell? ⟨mb, 1, none⟩ = some (.slice oa k oc) := (hb4.cell (p := ⟨mb, 1, none⟩) (lt_of_cell z1)).trans z1))
  all_goals go_wp2
  all_goals go_ret
  all_goals exact ⟨_, _, _, rfl, HFIN.out w.drew w3 w4 _ _ rfl rfl rfl rfl ho3 hb3 ho4 hb4⟩
end

section
open Go.ChangeShapes Go.WideShapes Go.ChangeAt Go.RowKit Go.Joins Go.Deep

theorem cells25 : Tryz.prog.cellsOf 25 = 4 := by kernel_rfl
theorem cells65 : Tryz.prog.cellsOf 65 = 4 := by kernel_rfl
theorem cells60 : Tryz.prog.cellsOf 60 = 1 := by kernel_rfl
theorem cells3 : Tryz.prog.cellsOf 3 = 1 := by kernel_rfl

section
variable {H : Type} {enc : TypeId × Value → H} {w : World}

theorem four {cs : List Value} (h : cs.length = 4) : ∃ a b c d, cs = [a, b, c, d] := by
  match cs, h with
  | [a, b, c, d], _ => exact ⟨a, b, c, d, rfl⟩

theorem read_order {a : Addr} {k fuel : Nat} {cs : List Value} {x : DataW H × List MemPlace} (hc : w.cells? 0 (a.add k) 4 = some cs) (h : DataW.trod enc Tryz.prog w 0 (fun _ => true) true fuel 65 cs = some x) :
    ∃ Y : Nat → Int, (∀ j, j < 4 → w.cell? (a.add (k + j)) = some (.int .i64 (Y j))) ∧ ∀ j, j < 4 → (Lit.int .i64 (Y j)).wf = true := by
  obtain ⟨_, hl, hcell⟩ := World.cells?_some hc
  obtain ⟨y0, y1, y2, y3, n, _, _, h0, h1, h2, h3⟩ := trod_struct4 Tryz.underlying65 h
  obtain ⟨c0, c1, c2, c3, rfl⟩ := four hl
  simp only [cells3] at h0 h1 h2 h3
  obtain ⟨a0, e0, _, w0⟩ := DataW.trod_int Tryz.underlying3 h0
  obtain ⟨a1, e1, _, w1⟩ := DataW.trod_int Tryz.underlying3 h1
  obtain ⟨a2, e2, _, w2⟩ := DataW.trod_int Tryz.underlying3 h2
  obtain ⟨a3, e3, _, w3⟩ := DataW.trod_int Tryz.underlying3 h3
  simp at e0 e1 e2 e3
  subst e0 e1 e2 e3
  refine ⟨fun j => if j = 0 then a0 else if j = 1 then a1 else if j = 2 then a2 else a3, ?_, ?_⟩
  · intro j hj
    rw [← Addr.add_add, hcell j hj]
    rcases (by omega : j = 0 ∨ j = 1 ∨ j = 2 ∨ j = 3) with rfl | rfl | rfl | rfl <;> rfl
  · intro j hj
    rcases (by omega : j = 0 ∨ j = 1 ∨ j = 2 ∨ j = 3) with rfl | rfl | rfl | rfl <;> assumption

theorem read_thread {v : Value} {fuel : Nat} {x : DataW H × List MemPlace} (h : DataW.trod enc Tryz.prog w 0 (fun _ => true) true fuel 60 [v] = some x) :
    ∃ (a : Option Addr) (l c : Nat) (Y : Nat → Nat → Int), v = .slice a l c ∧ l ≤ maxLen ∧ ∀ i, i < l → (∃ b o, a = some ⟨b, o, none⟩ ∧ ∀ j, j < 4 → w.cell? ⟨b, o + (i * 4 + j), none⟩ = some (.int .i64 (Y i j))) ∧ ∀ j, j < 4 → (Lit.int .i64 (Y i j)).wf = true := by
  rcases open_slice Tryz.underlying60 h with ⟨hcs, _⟩ | ⟨a, len, cap, m, n, D, Pl, hcs, _, hl, hm, hmm, _, hx⟩
  · simp at hcs
    exact ⟨none, 0, 0, fun _ _ => 0, hcs, Nat.zero_le _, fun i hi => absurd hi (Nat.not_lt_zero _)⟩
  · simp at hcs hmm
    obtain ⟨Y, hY⟩ := choose_lt (α := Nat → Int) (p := fun i (Y : Nat → Int) => (∀ j, j < 4 → w.cell? (a.add (i * 4 + j)) = some (.int .i64 (Y j))) ∧ ∀ j, j < 4 → (Lit.int .i64 (Y j)).wf = true) (n := len) (fun i hi => by
      obtain ⟨cs', h1, h2⟩ := hx i (by omega)
      rw [cells65] at h1
      exact read_order h1 h2)
    refine ⟨some a, len, cap, Y, hcs, by omega, fun i hi => ⟨?_, (hY i hi).2⟩⟩
    obtain ⟨b, o, sp⟩ := a
    have hsp : sp = none := by simpa [Addr.add] using World.cell?_spot ((hY 0 (by omega)).1 0 (by omega))
    subst hsp
    exact ⟨b, o, rfl, fun j hj => by rw [← Go.WideShapes.add_plain]; exact (hY i hi).1 j hj⟩

theorem read_code {v : Value} {fuel : Nat} {x : DataW H × List MemPlace} (h : DataW.trod enc Tryz.prog w 0 (fun _ => true) true fuel 22 [v] = some x) :
    ∃ (ca : Option Addr) (n cc : Nat) (A : Nat → Option Addr) (L C : Nat → Nat) (X : Nat → Nat → Nat → Int), v = .slice ca n cc ∧ PIn w ca n A L C X ∧ ∀ t i j, t < n → i < L t → j < 4 → (Lit.int .i64 (X t i j)).wf = true := by
  rcases open_slice1 Tryz.underlying22 cells60 h with ⟨hcs, _⟩ | ⟨a, len, cap, m, n, V, D, Pl, hcs, _, hl, hm, hmm, _, hx⟩
  · simp at hcs
    exact ⟨none, 0, 0, fun _ => none, fun _ => 0, fun _ => 0, fun _ _ _ => 0, hcs, ⟨fun t ht => absurd ht (Nat.not_lt_zero _), fun t i ht _ => absurd ht (Nat.not_lt_zero _), fun t ht => absurd ht (Nat.not_lt_zero _), Nat.zero_le _⟩, fun t i j ht => absurd ht (Nat.not_lt_zero _)⟩
  · simp at hcs hmm
    obtain ⟨A, hA⟩ := choose_lt (α := Option Addr × Nat × Nat × (Nat → Nat → Int)) (n := len) (p := fun t q => V t = .slice q.1 q.2.1 q.2.2.1 ∧ q.2.1 ≤ maxLen ∧ ∀ i, i < q.2.1 → (∃ b o, q.1 = some ⟨b, o, none⟩ ∧ ∀ j, j < 4 → w.cell? ⟨b, o + (i * 4 + j), none⟩ = some (.int .i64 (q.2.2.2 i j))) ∧ ∀ j, j < 4 → (Lit.int .i64 (q.2.2.2 i j)).wf = true)
      (fun t ht => let ⟨a', l, c, Y, h1, h2, h3⟩ := read_thread (hx t (by omega)).2; ⟨(a', l, c, Y), h1, h2, h3⟩)
    refine ⟨some a, len, cap, fun t => (A t).1, fun t => (A t).2.1, fun t => (A t).2.2.1, fun t => (A t).2.2.2, hcs, ⟨fun t ht => ?_, fun t i ht hi => ?_, fun t ht => (hA t ht).2.1, by unfold maxLen at hm; omega⟩, fun t i j ht hi hj => ((hA t ht).2.2 i hi).2 j hj⟩
    · obtain ⟨b, o, sp⟩ := a
      have hsp : sp = none := by simpa [Addr.add] using World.cell?_spot (hx 0 (by omega)).1
      subst hsp
      exact ⟨b, o, rfl, by rw [← Go.WideShapes.add_plain, (hx t (by omega)).1, (hA t ht).1]⟩
    · obtain ⟨b, o, h1, h2⟩ := ((hA t ht).2.2 i hi).1
      exact ⟨b, o, h1, by simpa using h2 0 (by omega), by simpa [Nat.add_assoc] using h2 1 (by omega), by simpa [Nat.add_assoc] using h2 2 (by omega), by simpa [Nat.add_assoc] using h2 3 (by omega)⟩
end
end

section
open Go.ChangeShapes Go.WideShapes Go.ChangeAt Go.RowKit Go.Joins Go.Deep

theorem Tryz.own : ownKnob Tryz.prog.godebug = none := by kernel_rfl
theorem Tryz.laidOut : laidOutB Tryz.prog = true := by kernel_rfl
theorem Tryz.readableP : Tryz.prog.readableRec 25 = true := by kernel_rfl
theorem Tryz.readableI : Tryz.prog.readableRec 23 = true := by kernel_rfl
end

end Go.Proofs.YtipdnfpomdcenabGreatDoor
