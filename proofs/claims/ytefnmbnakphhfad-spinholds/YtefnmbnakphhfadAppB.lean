/-
  Rows of numbers; 'append', as it is run on rows that the call made.
  The state of a run of the document, as it lies in memory; a thread's next order.
  What waits, as it lies in memory; whether one that waits may be done.
  A copy of a list of numbers, by the program.
  What the document's Check does.
-/
import Derived.Test.YtefnmbnakphhfadOrder
import Derived.Test.YtefnmbnakphhfadFam
import Derived.Deep.AppendSrc
import Derived.Test.YtefnmbnakphhfadPlain
import Derived.WalkKit
import Derived.WalkSpells
import Derived.WalkLawsBesides
import Derived.Lib.SmallJoins
import Derived.Test.YtefnmbnakphhfadCheckA
namespace Go.Proofs.Ytefnmbnakphhfad
section
open Go.RowKit

/-- What lies in memory lies there when more is made. -/
theorem cell_up {w : World} {a : Addr} {v : Value} (h : w.cell? a = some v) (o : Obj) : (w.alloc o).cell? a = some v := (World.cell?_alloc_lt _ _ _ (lt_of_cell h)).trans h
def intsV (l : List Int) : List Value := l.map (Value.int .i64)
theorem intsV_at {l : List Int} {i : Nat} (h : i < l.length) : (intsV l)[i]? = some (.int .i64 (l.getD i 0)) := by
  unfold intsV
  rw [List.getElem?_map, List.getElem?_eq_getElem h]
  simp [List.getD, List.getElem?_eq_getElem h]
theorem intsV_set (l : List Int) (i : Nat) (x : Int) : intsV (l.set i x) = (intsV l).set i (.int .i64 x) := by simp [intsV, List.map_set]
theorem intsV_len (l : List Int) : (intsV l).length = l.length := by simp [intsV]
/-- An append's run, kept whole. -/
def AppS (ts : Array TypeId) (ty : TypeId) (args : Array Value) : Sem Value := Builtin.append_ ts ty args
theorem appS_eq (ts : Array TypeId) (ty : TypeId) (args : Array Value) : Builtin.append_ ts ty args = AppS ts ty args := rfl
theorem info_is {e : TypeId} {z : Value} {size bytes : Nat} (h : (Try.prog.info? e).map (fun i => (i.zero, i.size, i.bytes)) = some (some z, size, bytes)) : ∃ i, Try.prog.info? e = some i ∧ i.zero = some z ∧ i.size = size ∧ i.bytes = bytes := by
  cases hi : Try.prog.info? e with
  | none => rw [hi] at h; simp at h
  | some i => rw [hi] at h; simp at h; exact ⟨i, rfl, h.1, h.2.1, h.2.2⟩
/-- An append to a row of one's own of what has just been laid: its run. -/
theorem app_row {T e : TypeId} {z : Value} {size bytes : Nat} (ht : Try.prog.underlying T = some (.slice e)) (hinfo : (Try.prog.info? e).map (fun i => (i.zero, i.size, i.bytes)) = some (some z, size, bytes)) (hzs : z.cells.size = size) (hsz : 0 < size)
    {w W : World} {B : Nat} {v : Value} {n : Nat} {xs : List Value} (hown : w.ownsRow B e size v n xs) (hb : Below w.heap.size w W) (hB : B ≤ w.heap.size) (m : Nat) (news : Array Value) (hl : news.size = m * size) (h1 : ∀ u ∈ news.toList, u.oneCell' = true) (hm : 0 < m) (h63 : n + m ≤ 1000000) (hby : bytes ≤ 1000) :
    ∃ g cap w3, (AppS #[T, T] T #[v, .slice (some ⟨W.heap.size, 0, none⟩) m m]).run Try.prog (W.alloc (.cells news e)) = .ok (.slice (some ⟨g, 0, none⟩) (n + m) cap) w3 ∧ w3.ownsRow B e size (.slice (some ⟨g, 0, none⟩) (n + m) cap) (n + m) (xs ++ news.toList) ∧ (W.alloc (.cells news e)).grownBy w3 v.ownBlock ∧ (v.ownBlock = some g ∨ g = W.heap.size + 1) := by
  obtain ⟨i, hi, hz0, hz1, hz2⟩ := info_is hinfo
  have hown' : (W.alloc (.cells news e)).ownsRow B e size v n xs := (fam_keeps hown (fun g hg => hb.block g (hown.lt g hg).2)).alloc _
  have hbs := hb.size
  obtain ⟨g, cap, w3, r1, r2, r3, r4, _⟩ := run_append_lies (P := Try.prog) (W.alloc (.cells news e)) T T B e i z size bytes ht hi hz0 hz1 hz2 hzs hsz v n xs hown' ⟨W.heap.size, 0, none⟩ m m news.toList (by simpa using hl) (World.news_of_block (cs := news) (t := e) (fr := (0, 0)) (heap_alloc_new W _)) h1 hm (by unfold maxLen; omega) (by
    have : (n + m) * bytes ≤ 1000000 * 1000 := Nat.mul_le_mul h63 hby
    omega) (by simp; omega) (W.heap.size + 1) (by simp)
  exact ⟨g, cap, w3, r1, r2, r3, r4⟩
theorem infoI : (Try.prog.info? 3).map (fun i => (i.zero, i.size, i.bytes)) = some (some (.int .i64 0), 1, 8) := by kernel_rfl
/-- A list of numbers that came in, as it is read. -/
def SIs (w : World) (a : Option Addr) (l : List Int) : Prop := ∀ i, i < l.length → ∃ b o, a = some ⟨b, o, none⟩ ∧ w.cell? ⟨b, o + i, none⟩ = some (.int .i64 (l.getD i 0))
theorem SIs.below {w w1 : World} {a : Option Addr} {l : List Int} (h : SIs w a l) (hb : Below w.heap.size w w1) : SIs w1 a l := fun i hi => by
  obtain ⟨b, o, e, h1⟩ := h i hi
  exact ⟨b, o, e, (hb.cell (lt_of_cell h1)).trans h1⟩
theorem intsV_one (l : List Int) : ∀ u ∈ intsV l, u.oneCell' = true := fun u hu => by
  simp only [intsV, List.mem_map] at hu
  obtain ⟨x, _, rfl⟩ := hu
  rfl
theorem own_low {w : World} {B B' : Nat} {e : TypeId} {size : Nat} {v : Value} {n : Nat} {xs : List Value} (h : w.ownsRow B e size v n xs) (hB : B' ≤ B) : w.ownsRow B' e size v n xs := by
  refine ⟨h.1, ?_⟩
  rcases h.2 with h0 | ⟨g, cap, cur, hv, hg, r⟩
  · exact Or.inl h0
  · exact Or.inr ⟨g, cap, cur, hv, Nat.le_trans hB hg, r⟩
/-- 'append([]int{}, l...)'. -/
theorem app_src (W : World) (B : Nat) (hB : B ≤ W.heap.size) (sa : Option Addr) (l : List Int) (c : Nat) (hsrc : SIs W sa l) (hl : l.length * 8 ≤ 140737488355328) :
    ∃ g cap w3, (AppS #[23, 23] 23 #[.slice (some ⟨W.heap.size, 0, none⟩) 0 0, .slice sa l.length c]).run Try.prog (W.alloc (.cells #[] 3)) = .ok (.slice (some ⟨g, 0, none⟩) l.length cap) w3 ∧ w3.ownsRow B 3 1 (.slice (some ⟨g, 0, none⟩) l.length cap) l.length (intsV l) ∧ (W.alloc (.cells #[] 3)).grownBy w3 (some W.heap.size) ∧ W.heap.size ≤ g ∧ g < w3.heap.size := by
  obtain ⟨i, hi, hz0, hz1, hz2⟩ := info_is infoI
  have hown := World.ownsRow_made (base := B) (e := 3) (size := 1) W #[] 0 hB (by decide) rfl
  cases l with
  | nil =>
    refine ⟨W.heap.size, 0, W.alloc (.cells #[] 3), ?_, hown, ⟨rfl, rfl, rfl, Nat.le_refl _, fun _ _ _ => rfl⟩, Nat.le_refl _, by simp⟩
    have hs : Src Try.prog i.size 23 (.slice sa 0 c) 0 [] (W.alloc (.cells #[] 3)) := by
      cases sa with
      | none => exact Src.ofNil _ Try.underlying23 c
      | some a => exact Src.ofSlice _ Try.underlying23 a 0 c [] (by simp) (fun j u h => by simp at h) (fun u h => by cases h)
    have := run_append_room_src (P := Try.prog) (W.alloc (.cells #[] 3)) 23 23 23 3 i Try.underlying23 hi W.heap.size 0 0 0 (.slice sa 0 c) 0 [] hs (Nat.le_refl _) (fun j h => by simp at h) (fun j h => by simp at h)
    exact this
  | cons x r =>
    obtain ⟨b, o, rfl, _⟩ := hsrc 0 (by simp)
    have hnews : ∀ j u, (intsV (x :: r))[j]? = some u → (W.alloc (.cells #[] 3)).cell? ((⟨b, o, none⟩ : Addr).add j) = some u := fun j u hu => by
      have hj : j < (x :: r).length := by
        rcases Nat.lt_or_ge j (x :: r).length with h | h
        · exact h
        · rw [List.getElem?_eq_none (by rw [intsV_len]; exact h)] at hu; cases hu
      obtain ⟨b', o', e, h1⟩ := hsrc j hj
      simp only [Option.some.injEq, Addr.mk.injEq, and_true] at e
      obtain ⟨rfl, rfl⟩ := e
      have hadd : (⟨b, o, none⟩ : Addr).add j = ⟨b, o + j, none⟩ := by unfold Addr.add; split <;> simp_all
      rw [intsV_at hj] at hu
      rw [hadd, cell_up h1]
      exact hu
    obtain ⟨g, cap, w3, r1, r2, r3, r4, r5⟩ := run_append_lies (P := Try.prog) (W.alloc (.cells #[] 3)) 23 23 B 3 i _ 1 8 Try.underlying23 hi hz0 hz1 hz2 rfl (by omega) _ 0 [] hown ⟨b, o, none⟩ (x :: r).length c (intsV (x :: r)) (by rw [intsV_len]; omega) hnews (intsV_one _) (by simp) (by unfold maxLen; omega) (by omega) (by simp; omega) (W.heap.size + 1) (by simp)
    rw [Nat.zero_add] at r1 r2
    refine ⟨g, cap, w3, r1, r2, r3, ?_, r5⟩
    rcases r4 with r4 | r4
    · have : W.heap.size = g := by simpa [Value.ownBlock] using r4
      omega
    · omega
end

section
open Go.RowKit

/-- The state of a run, as it is read: its box at sb, its threads at tb. -/
structure SIn (w : World) (sb : Nat) (ca : Option Addr) (n cc : Nat) (mode : Int) (tb tc : Nat) (rv qv : Nat → Value) (wv ov pv : Value) (s : Sx) : Prop where
  code : w.cell? ⟨sb, 0, none⟩ = some (.slice ca n cc)
  mode : w.cell? ⟨sb, 4, none⟩ = some (.int .i64 mode)
  ths : w.cell? ⟨sb, 5, none⟩ = some (.slice (some ⟨tb, 0, none⟩) s.ths.length tc)
  words : w.cell? ⟨sb, 6, none⟩ = some wv
  own : w.cell? ⟨sb, 7, none⟩ = some ov
  prints : w.cell? ⟨sb, 8, none⟩ = some pv
  fell : w.cell? ⟨sb, 9, none⟩ = some (.bool s.fell)
  pc : ∀ t, t < s.ths.length → w.cell? ⟨tb, t * 3, none⟩ = some (.int .i64 (thOf s t).pc)
  regs : ∀ t, t < s.ths.length → w.cell? ⟨tb, t * 3 + 1, none⟩ = some (rv t)
  wait : ∀ t, t < s.ths.length → w.cell? ⟨tb, t * 3 + 2, none⟩ = some (qv t)

set_option maxRecDepth 100000 in
set_option maxHeartbeats 1600000 in
theorem next_ended (sb : Nat) (ca : Option Addr) (n cc : Nat) (mode : Int) (tb tc : Nat) (rv qv : Nat → Value) (wv ov pv : Value) (s : Sx) (A : Nat → Option Addr) (L C : Nat → Nat) (X : Nat → Nat → Nat → Int) (hn : s.ths.length = n) (t : Nat) (ht : t < n) (_hN : n ≤ 4) (_hL : L t ≤ 1000) (_hpc : (thOf s t).pc ≤ 1000) (hend : L t ≤ (thOf s t).pc) (w : World) (hs : SIn w sb ca n cc mode tb tc rv qv wv ov pv s) (hp : PIn w ca n A L C X) :
    Calls Try.prog 49 #[.pointer (some ⟨sb, 0, none⟩), .int .i64 t] w fun e w' => e = .returned (.tuple #[.agg #[.int .i64 0, .int .i64 0, .int .i64 0, .int .i64 0], .bool false]) ∧ Below w.heap.size w w' := by
  obtain ⟨cb, co, rfl, hcell⟩ := hp.code t ht
  have h0 := cell_up hs.code
  have h5 := cell_up hs.ths
  have hpcc := cell_up (hs.pc t (by omega))
  have hcc := cell_up hcell
  simp only [hn] at h5
  obtain ⟨k, hk⟩ : ∃ k, (thOf s t).pc = k := ⟨_, rfl⟩
  simp only [hk] at hpcc _hpc hend
  go_enter Try.func49, Try.ntmps49
  go_wp2
  refine bodyPost_ret (v := .tuple #[.agg #[.int .i64 0, .int .i64 0, .int .i64 0, .int .i64 0], .bool false]) (by simp [results, Try.results49, go_sem]) rfl ⟨rfl, (Below.refl _ _).alloc (Nat.le_refl _) _⟩

set_option maxRecDepth 100000 in
set_option maxHeartbeats 1600000 in
theorem next_more (sb : Nat) (ca : Option Addr) (n cc : Nat) (mode : Int) (tb tc : Nat) (rv qv : Nat → Value) (wv ov pv : Value) (s : Sx) (A : Nat → Option Addr) (L C : Nat → Nat) (X : Nat → Nat → Nat → Int) (hn : s.ths.length = n) (t : Nat) (ht : t < n) (_hN : n ≤ 4) (_hL : L t ≤ 1000) (hend : (thOf s t).pc < L t) (w : World) (hs : SIn w sb ca n cc mode tb tc rv qv wv ov pv s) (hp : PIn w ca n A L C X) :
    Calls Try.prog 49 #[.pointer (some ⟨sb, 0, none⟩), .int .i64 t] w fun e w' => e = .returned (.tuple #[.agg #[.int .i64 (opT X s t 0), .int .i64 (opT X s t 1), .int .i64 (opT X s t 2), .int .i64 (opT X s t 3)], .bool true]) ∧ Below w.heap.size w w' := by
  obtain ⟨cb, co, rfl, hcell⟩ := hp.code t ht
  have h0 := cell_up hs.code
  have h5 := cell_up hs.ths
  have hpcc := cell_up (hs.pc t (by omega))
  have hcc := cell_up hcell
  simp only [hn] at h5
  unfold opT
  obtain ⟨k, hk⟩ : ∃ k, (thOf s t).pc = k := ⟨_, rfl⟩
  simp only [hk] at hpcc hend ⊢
  obtain ⟨ob, oo, hA, x0, x1, x2, x3⟩ := hp.ord t k ht hend
  rw [hA] at hcc
  have y0 := cell_up x0
  have y1 := cell_up x1
  have y2 := cell_up x2
  have y3 := cell_up x3
  obtain ⟨v0, e0⟩ : ∃ v, X t k 0 = v := ⟨_, rfl⟩
  obtain ⟨v1, e1⟩ : ∃ v, X t k 1 = v := ⟨_, rfl⟩
  obtain ⟨v2, e2⟩ : ∃ v, X t k 2 = v := ⟨_, rfl⟩
  obtain ⟨v3, e3⟩ : ∃ v, X t k 3 = v := ⟨_, rfl⟩
  simp only [e0] at y0 ⊢
  simp only [e1] at y1 ⊢
  simp only [e2] at y2 ⊢
  simp only [e3] at y3 ⊢
  go_enter Try.func49, Try.ntmps49
  go_wp2
  refine bodyPost_ret (v := .tuple #[.agg #[.int .i64 v0, .int .i64 v1, .int .i64 v2, .int .i64 v3], .bool true]) (by simp [results, Try.results49, go_sem]) rfl ⟨rfl, (Below.refl _ _).alloc (Nat.le_refl _) _⟩
end

section
open Go.RowKit

/-- What waits, as it is read. -/
def WIn (w : World) (a : Option Addr) (l : List Wt) : Prop := ∀ i, i < l.length → ∃ b o, a = some ⟨b, o, none⟩ ∧ w.cell? ⟨b, o + i * 3, none⟩ = some (.bool (l.getD i default).lk) ∧ w.cell? ⟨b, o + i * 3 + 1, none⟩ = some (.int .i64 (l.getD i default).wh) ∧ w.cell? ⟨b, o + i * 3 + 2, none⟩ = some (.int .i64 (l.getD i default).what)
theorem WIn.below {w w' : World} {a : Option Addr} {l : List Wt} (h : WIn w a l) (hb : Below w.heap.size w w') : WIn w' a l := fun i hi => by
  obtain ⟨b, o, e, h0, h1, h2⟩ := h i hi
  exact ⟨b, o, e, (hb.cell (lt_of_cell h0)).trans h0, (hb.cell (lt_of_cell h1)).trans h1, (hb.cell (lt_of_cell h2)).trans h2⟩

set_option maxRecDepth 100000 in
set_option maxHeartbeats 1600000 in
theorem may_any (sb : Nat) (mode : Int) (qa : Option Addr) (qc : Nat) (l : List Wt) (k : Nat) (hk : k < l.length) (_hl : l.length ≤ 100) (w : World) (hm : w.cell? ⟨sb, 4, none⟩ = some (.int .i64 mode)) (hq : WIn w qa l) :
    Calls Try.prog 51 #[.pointer (some ⟨sb, 0, none⟩), .slice qa l.length qc, .int .i64 k] w fun e w' => e = .returned (.bool (mayW mode l k)) ∧ Below w.heap.size w w' := by
  obtain ⟨b, o, rfl, k0, k1, _⟩ := hq k hk
  obtain ⟨r, hr⟩ : ∃ r, mayW mode l k = r := ⟨_, rfl⟩
  have HR : Hid (mayW mode l k = r) := hr
  rw [hr]
  clear hr
  obtain ⟨lkk, e1⟩ : ∃ v, (l.getD k default).lk = v := ⟨_, rfl⟩
  obtain ⟨whk, e2⟩ : ∃ v, (l.getD k default).wh = v := ⟨_, rfl⟩
  have HE1 : Hid ((l.getD k default).lk = lkk) := e1
  have HE2 : Hid ((l.getD k default).wh = whk) := e2
  rw [e1] at k0
  rw [e2] at k1
  clear e1 e2
  go_enter Try.func51, Try.ntmps51
  by_cases hk0 : k = 0
  · subst hk0
    obtain rfl : r = true := by rw [← HR.out]; simp [mayW]
    go_wp2
    go_ret
    exact ⟨rfl, Below.refl _ _⟩
  · by_cases hm1 : mode = 1
    · obtain rfl : r = false := by rw [← HR.out]; simp [mayW, hk0, hm1]
      go_wp2
      go_ret
      exact ⟨rfl, Below.refl _ _⟩
    · cases lkk with
      | true =>
        obtain rfl : r = false := by rw [← HR.out]; simp only [mayW, hk0, HE1.out]; simp
        go_wp2
        go_ret
        exact ⟨rfl, Below.refl _ _⟩
      | false =>
        have HV : Hid (mayW mode l k = (l.take k).all fun x => !(x.lk || decide (x.wh = whk))) := by
          show _ = _
          simp only [mayW, hk0, hm1, HE1.out, HE2.out]
          simp
        go_wp2
        go_loopw [7] (fun i wr => ∃ j : Nat, j ≤ k ∧ i = .int .i64 j ∧ Hid (∀ p, p < j → (l.getD p default).lk = false ∧ (l.getD p default).wh ≠ whk) ∧ Below w.heap.size w wr) (fun i _ => k - (intOf i).toNat)
        case atStart => exact ⟨0, Nat.zero_le _, rfl, fun p hp => absurd hp (Nat.not_lt_zero _), Below.refl _ _⟩
        case round =>
          obtain ⟨j, hj, rfl, HJ, hbr⟩ := hrel
          have k0r := (hbr.cell (lt_of_cell k0)).trans k0
          have k1r := (hbr.cell (lt_of_cell k1)).trans k1
          have hqr := hq.below hbr
          by_cases hlt : j < k
          · obtain ⟨_, _, e0, j0, j1, _⟩ := hqr j (by omega)
            simp only [Option.some.injEq, Addr.mk.injEq, and_true] at e0
            obtain ⟨rfl, rfl⟩ := e0
            obtain ⟨lj, f1⟩ : ∃ v, (l.getD j default).lk = v := ⟨_, rfl⟩
            obtain ⟨wj, f2⟩ : ∃ v, (l.getD j default).wh = v := ⟨_, rfl⟩
            have HF1 : Hid ((l.getD j default).lk = lj) := f1
            have HF2 : Hid ((l.getD j default).wh = wj) := f2
            rw [f1] at j0
            rw [f2] at j1
            clear f1 f2
            have hmem : l.getD j default ∈ l.take k := by
              have h1 : j < l.length := by omega
              have e : l.getD j default = (l.take k)[j]'(by simp; omega) := by simp [List.getD, List.getElem?_eq_getElem h1]
              rw [e]
              exact List.getElem_mem _
            have HMM := Hid.out (p := Hid _) hmem
            clear hmem
            cases lj with
            | true =>
              obtain rfl : r = false := by
                rw [← HR.out, HV.out, List.all_eq_false]
                exact ⟨_, HMM.out, by simp only [HF1.out]; simp⟩
              go_wp2
              go_region
              all_goals go_wp2
              all_goals go_ret
              all_goals exact ⟨rfl, hbr.drew⟩
            | false =>
              by_cases hwe : wj = whk
              · obtain rfl : r = false := by
                  rw [← HR.out, HV.out, List.all_eq_false]
                  exact ⟨_, HMM.out, by simp only [HF1.out, HF2.out, hwe]; simp⟩
                go_wp2
                go_region
                all_goals go_wp2
                all_goals go_ret
                all_goals exact ⟨rfl, hbr.drew⟩
              · go_wp2
                go_region
                all_goals go_wp2
                all_goals go_roundw
                case rel =>
                  refine ⟨j + 1, by omega, by go_num, ?_, hbr.drew⟩
                  intro p hp
                  rcases (by omega : p < j ∨ p = j) with h | rfl
                  · exact HJ.out p h
                  · exact ⟨HF1.out, by rw [HF2.out]; exact hwe⟩
                case measure => simp [intOf]; omega
          · obtain rfl : j = k := by omega
            obtain rfl : r = true := by
              rw [← HR.out, HV.out, List.all_eq_true]
              intro x hx
              obtain ⟨p, hp, rfl⟩ := List.mem_iff_getElem.mp hx
              have hpj : p < j := by simp at hp; omega
              have h2 := HJ.out p hpj
              have e : l.getD p default = (l.take j)[p] := by simp [List.getD, List.getElem?_eq_getElem (show p < l.length by omega)]
              rw [e] at h2
              rw [h2.1, decide_eq_false h2.2]
              rfl
            go_wp2
            go_ret
            exact ⟨rfl, hbr⟩
end

section
open Go.RowKit

attribute [local go_sem ↓] appS_eq
set_option maxRecDepth 100000 in
set_option maxHeartbeats 1600000 in
theorem clone_some (w : World) (sa : Addr) (l : List Int) (c : Nat) (h : SIs w (some sa) l) (hl : l.length * 8 ≤ 140737488355328) :
    Calls Try.prog 30 #[.slice (some sa) l.length c] w fun e w' => ∃ g cap, e = .returned (.slice (some ⟨g, 0, none⟩) l.length cap) ∧ w.heap.size ≤ g ∧ w'.ownsRow w.heap.size 3 1 (.slice (some ⟨g, 0, none⟩) l.length cap) l.length (intsV l) ∧ Below w.heap.size w w' := by
  obtain ⟨g, cap, w3, r1, r2, r3, r4, _⟩ := app_src w w.heap.size (Nat.le_refl _) (some sa) l c h hl
  have HF : Hid (Below w.heap.size w w3) := ((Below.refl _ _).alloc (Nat.le_refl _) _).grown r3 (by simp) (fun k hk => by simp at hk; omega)
  have hne := fun W => Lib.run_eql_slice_nil (P := Try.prog) W 23 3 (some sa) l.length c 0 0 Try.underlying23
  obtain ⟨m, hm⟩ : ∃ m, l.length = m := ⟨_, rfl⟩
  rw [hm] at r1 r2 hne ⊢
  clear h hl r3 hm
  go_enter Try.func30, Try.ntmps30
  go_wp2
  go_ret
  exact ⟨g, cap, rfl, r4, r2, HF.out⟩
set_option maxRecDepth 100000 in
set_option maxHeartbeats 1600000 in
theorem clone_nil (w : World) : Calls Try.prog 30 #[nilV] w fun e w' => e = .returned nilV ∧ w = w' := by
  have hne := fun W => Lib.run_eql_slice_nil (P := Try.prog) W 23 3 none 0 0 0 0 Try.underlying23
  go_enter Try.func30, Try.ntmps30
  go_wp2
  go_ret
  exact ⟨rfl, rfl⟩
/-- A copy of a list. -/
theorem clone_any (w : World) (sa : Option Addr) (l : List Int) (c : Nat) (h : SIs w sa l) (hnil : sa = none → l = [] ∧ c = 0) (hl : l.length * 8 ≤ 140737488355328) :
    Calls Try.prog 30 #[.slice sa l.length c] w fun e w' => ∃ a cap, e = .returned (.slice a l.length cap) ∧ w'.ownsRow w.heap.size 3 1 (.slice a l.length cap) l.length (intsV l) ∧ Below w.heap.size w w' := by
  cases sa with
  | none =>
    obtain ⟨rfl, rfl⟩ := hnil rfl
    refine (clone_nil w).mono fun e w' h => ⟨none, 0, h.1, World.ownsRow_nil _ _ _ _, ?_⟩
    rw [← h.2]; exact Below.refl _ _
  | some a => exact (clone_some w a l c h hl).mono fun e w' ⟨g, cap, h1, _, h3, h4⟩ => ⟨_, cap, h1, h3, h4⟩
end

section
open Go.RowKit

set_option maxHeartbeats 1000000 in
theorem rcheck_size (ca : Option Addr) (n cc : Nat) (wa : Option Addr) (m wc : Nat) (lk rg : Int) (h : (n : Int) < 1 ∨ 4 < (n : Int) ∨ 64 < (m : Int)) (w : World) :
    Calls Try.prog 7 #[prgV ca n cc wa m wc lk rg] w fun e w' => e = .returned (ints3 1 0 0) ∧ Below w.heap.size w w' := by
  rcases (by omega : (n : Int) < 1 ∨ ((1 ≤ (n : Int) ∧ 4 < (n : Int)) ∨ ((1 ≤ (n : Int) ∧ (n : Int) ≤ 4) ∧ 64 < (m : Int)))) with h1 | h1 | h1
  all_goals
    clear h
    go_enter Try.func7, Try.ntmps7
    go_wp2
    exact bodyPost_ret (v := ints3 1 0 0) (by simp [results, Try.results7, go_sem]) rfl
      ⟨rfl, ((Below.refl _ _).alloc (Nat.le_refl _) _).alloc (by simp) _⟩

set_option maxHeartbeats 1000000 in
theorem rcheck_range (ca : Option Addr) (n cc : Nat) (wa : Option Addr) (m wc : Nat) (lk rg : Int) (h1 : 1 ≤ (n : Int) ∧ (n : Int) ≤ 4) (h2 : (m : Int) ≤ 64) (h : lk < 0 ∨ 4 < lk ∨ rg < 1 ∨ 200 < rg) (w : World) :
    Calls Try.prog 7 #[prgV ca n cc wa m wc lk rg] w fun e w' => e = .returned (ints3 3 0 0) ∧ Below w.heap.size w w' := by
  rcases (by omega : lk < 0 ∨ (0 ≤ lk ∧ 4 < lk) ∨ ((0 ≤ lk ∧ lk ≤ 4) ∧ rg < 1) ∨ ((0 ≤ lk ∧ lk ≤ 4) ∧ 1 ≤ rg ∧ 200 < rg)) with h3 | h3 | h3 | h3
  all_goals
    clear h
    go_enter Try.func7, Try.ntmps7
    go_wp2
    exact bodyPost_ret (v := ints3 3 0 0) (by simp [results, Try.results7, go_sem]) rfl
      ⟨rfl, ((Below.refl _ _).alloc (Nat.le_refl _) _).alloc (by simp) _⟩

/-- The kinds by their number. -/
def kj (x y z : Int) (k : Nat) : Int := if k = 0 then x else if k = 1 then y else z

theorem ks_spec {op x y z : Int} (h : kd op = some (x, y, z)) :
     (ks op).size ≤ 3 ∧ (∀ k (hk : k < (ks op).size), (1 ≤ kj x y z k ∧ kj x y z k ≤ 5) ∧ ((ks op)[k].toNat : Int) = letter (kj x y z k)) ∧ ∀ k, (ks op).size ≤ k → k < 3 → kj x y z k = 0 := by
  rcases op_cases op with h1 | rfl | rfl | rfl | rfl | rfl | rfl | rfl | rfl | rfl | rfl | rfl | rfl | rfl | rfl | rfl | rfl | rfl | rfl
  · rw [kd_out h1] at h; cases h
  all_goals
    simp only [kd] at h
    simp at h
    obtain ⟨rfl, rfl, rfl⟩ := h
    refine ⟨by decide, ?_, ?_⟩
    · intro k hk
      have hk' : k < 3 := Nat.lt_of_lt_of_le hk (by decide)
      rcases (by omega : k = 0 ∨ k = 1 ∨ k = 2) with rfl | rfl | rfl <;> first | exact absurd hk (by decide) | exact ⟨⟨by decide, by decide⟩, rfl⟩
    · intro k hk hk3
      rcases (by omega : k = 0 ∨ k = 1 ∨ k = 2) with rfl | rfl | rfl <;> first | exact absurd hk (by decide) | decide
end

end Go.Proofs.Ytefnmbnakphhfad
