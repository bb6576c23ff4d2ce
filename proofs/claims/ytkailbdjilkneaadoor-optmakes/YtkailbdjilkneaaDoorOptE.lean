/-
  The document's Check as one contract.
  The rows of values that the document begins with, made one behind the other.
  What chapter 14 knows of a thread, by the document: the passes.
  What chapter 14 knows of a thread, by the document: what an order makes of what is ahead of it; where it leads.
-/
import Derived.Test.YtkailbdjilkneaaDoorCheckR2
import Derived.Test.YtkailbdjilkneaaDoorOptA
import Derived.Test.YtkailbdjilkneaaDoorIntsS
import Derived.Test.YtkailbdjilkneaaDoorOptD
import Derived.Test.YtkailbdjilkneaaDoorOptB
import Derived.Test.YtkailbdjilkneaaDoorLivC
namespace Go.Proofs.YtkailbdjilkneaaDoor
section
open Go.RowKit

/-- The document's Check, of every program that lies in memory. -/
theorem rcheck_any (ca : Option Addr) (n cc : Nat) (wa : Option Addr) (m wc : Nat) (lk rg : Int) (A : Nat → Option Addr) (L C : Nat → Nat) (X : Nat → Nat → Nat → Int) (x y z : Int) (HR : Hid (chk n L X m lk rg = (x, y, z))) (w : World) (hp : PIn w ca n A L C X) :
    Calls Tryd.prog 12 #[prgV ca n cc wa m wc lk rg] w fun e w' => e = .returned (ints3 x y z) ∧ Below w.heap.size w w' := by
  have h := HR.out
  unfold chk sizesE at h
  by_cases h1 : (n : Int) < 1 ∨ 4 < (n : Int) ∨ 64 < (m : Int)
  · simp only [h1, if_true] at h
    simp at h
    obtain ⟨rfl, rfl, rfl⟩ := h
    exact rcheck_size ca n cc wa m wc lk rg h1 w
  · by_cases h2 : lk < 0 ∨ 4 < lk ∨ rg < 1 ∨ 200 < rg
    · simp only [h1, h2, if_true, if_false] at h
      simp at h
      obtain ⟨rfl, rfl, rfl⟩ := h
      exact rcheck_range ca n cc wa m wc lk rg (by omega) (by omega) h2 w
    · simp only [h1, h2, if_false, ne_eq, not_true_eq_false] at h
      exact rcheck_go ca n cc wa m wc lk rg A L C X x y z (by omega) (by omega) (by omega) (by omega) h w hp
end

section
open Go.RowKit

theorem infoVl : (Tryd.prog.info? 78).map (fun i => (i.zero, i.size, i.bytes)) = some (some (.agg #[.int .i64 0, .int .i64 0]), 2, 16) := by kernel_rfl
theorem infoVls : (Tryd.prog.info? 80).map (fun i => (i.zero, i.size, i.bytes)) = some (some nilV, 1, 24) := by kernel_rfl
theorem made_vls : ∀ n, (madeCells #[Value.int .i64 0, Value.int .i64 0] (2 * n)).toList = vlsL (fun _ => .no) n := fun n => by
  apply List.ext_getElem?
  intro i
  by_cases h : i < 2 * n
  · rcases Nat.mod_two_eq_zero_or_one i with h2 | h2
    · have e1 := (vlsL_at (e := fun _ => Vl.no) (n := n) (r := i / 2) (by omega)).1
      rw [show i / 2 * 2 = i by omega] at e1
      rw [e1]
      simp [madeCells, h, h2, Vl.st]
    · have e1 := (vlsL_at (e := fun _ => Vl.no) (n := n) (r := i / 2) (by omega)).2
      rw [show i / 2 * 2 + 1 = i by omega] at e1
      rw [e1]
      simp [madeCells, h, h2, Vl.nb]
  · rw [List.getElem?_eq_none (by simp [madeCells]; omega), List.getElem?_eq_none (by rw [vlsL_len]; omega)]
theorem owns_heap2 {w : World} {B g n : Nat} {e : TypeId} {xs : List Value} (h : w.ownsRow B e 2 (.slice (some ⟨g, 0, none⟩) n n) n xs) : w.heap[g]? = some (.cells xs.toArray e) := by
  rcases h.2 with ⟨h0, _⟩ | ⟨g', cap', cur, hv, _, hh, _, _, h3, h4⟩
  · cases h0
  · simp only [Value.slice.injEq, Option.some.injEq, Addr.mk.injEq, and_true] at hv
    obtain ⟨rfl, -, rfl⟩ := hv
    rw [hh, ← h4]
    congr 2
    rw [List.take_of_length_le (by simp [h3])]
theorem values_start (w : World) (n : Nat) (hn : n ≤ 200) : ∃ w1, (Instr.makeSlice 80 (.int .i64 (n : Int)) (.int .i64 (n : Int))).run Tryd.prog w = .ok (.slice (some ⟨w.heap.size, 0, none⟩) n n) w1 ∧ VR w1 w.heap.size (fun _ => .no) n ∧ Below w.heap.size w w1 := by
  obtain ⟨i, hi, hz0, hz1, hz2⟩ := info_is infoVl
  obtain ⟨w1, r1, r2, r3⟩ := run_makeSlice_full (P := Tryd.prog) w w.heap.size 80 78 i (.agg #[.int .i64 0, .int .i64 0]) 2 Tryd.underlying80 hi hz0 hz1 .i64 .i64 n (by omega) (by rw [hz2]; omega) (by unfold maxLen; omega) (Nat.le_refl _)
  have hlow : Below w.heap.size w w1 := (Below.refl _ _).grown r3 (Nat.le_refl _) (fun k hk => by cases hk)
  refine ⟨w1, by simpa using r1, ?_, hlow⟩
  have e : (Value.agg #[.int .i64 0, .int .i64 0]).cells = #[Value.int .i64 0, Value.int .i64 0] := rfl
  rw [Nat.mul_comm, e, made_vls] at r2
  exact VR.of (owns_heap2 r2)
/-- While the rows are being made: k of them. -/
structure LkB (w W : World) (lb gg l rg k : Nat) (GA : Nat → Nat) (av : Value) : Prop where
  low : Below w.heap.size w W
  lo : w.heap.size ≤ lb ∧ w.heap.size ≤ gg ∧ ∀ i, i < k → w.heap.size ≤ GA i
  box : W.heap[lb]? = some (.cells #[.slice (some ⟨gg, 0, none⟩) (l + 1) (l + 1), av, .bool true] 76)
  goes : BR W gg (List.replicate (l + 1) false)
  out : W.ownsRow w.heap.size 80 1 av k ((List.range k).map fun i => .slice (some ⟨GA i, 0, none⟩) rg rg)
  row : ∀ i, i < k → VR W (GA i) (fun _ => .no) rg
  inj : ∀ i j, i < k → j < k → GA i = GA j → i = j
section
variable {w W W' V : World} {lb gg l rg k : Nat} {GA : Nat → Nat} {av : Value}
theorem LkB.below (h : LkB w W lb gg l rg k GA av) (hb : Below W.heap.size W W') : LkB w W' lb gg l rg k GA av :=
  ⟨h.low.trans (hb.mono h.low.size), h.lo, (hb.block _ (box_lt h.box)).trans h.box, h.goes.below hb, owns_below2 h.out hb, fun i hi => (h.row i hi).below hb, h.inj⟩
theorem own_obj {w : World} {B g : Nat} {e ty : TypeId} {z n : Nat} {v : Value} {xs : List Value} {c : Array Value} (h : w.ownsRow B e z v n xs) (hg : w.heap[g]? = some (.cells c ty)) (hne : ty ≠ e) : v.ownBlock ≠ some g := fun e2 => own_type h hg (fun e3 => hne e3.symm) e2
set_option maxRecDepth 100000 in
/-- One row more. -/
theorem LkB.push (h : LkB w W lb gg l rg k GA av) (hr : VR V W.heap.size (fun _ => .no) rg) (hb : Below W.heap.size W V) (hk : k ≤ 1001) :
    ∃ g cap w3, (AppS #[74, 74] 74 #[av, .slice (some ⟨V.heap.size, 0, none⟩) 1 1]).run Tryd.prog (V.alloc (.cells #[.slice (some ⟨W.heap.size, 0, none⟩) rg rg] 80)) = .ok (.slice (some ⟨g, 0, none⟩) (k + 1) cap) w3 ∧ w3.heap[lb]? = some (.cells #[.slice (some ⟨gg, 0, none⟩) (l + 1) (l + 1), av, .bool true] 76) ∧
      LkB w (w3.setCell ⟨lb, 1, none⟩ (.slice (some ⟨g, 0, none⟩) (k + 1) cap)) lb gg l rg (k + 1) (fun i => if i = k then W.heap.size else GA i) (.slice (some ⟨g, 0, none⟩) (k + 1) cap) := by
  have h0 := h.below hb
  have hl := h0.low.size
  have hWs := h.low.size
  obtain ⟨g, cap, w3, r1, r2, r3, r4⟩ := app_row (T := 74) Tryd.underlying74 infoVls rfl (by omega) h0.out (Below.refl _ V) hl 1 #[.slice (some ⟨W.heap.size, 0, none⟩) rg rg] rfl (by simp [Value.oneCell']) (by omega) (by omega) (by omega)
  have hbA : Below V.heap.size V (V.alloc (.cells #[.slice (some ⟨W.heap.size, 0, none⟩) rg rg] 80)) := (Below.refl _ _).alloc (Nat.le_refl _) _
  have hlow : Below w.heap.size w w3 := (h0.low.alloc hl _).grown r3 (by simp; omega) (fun q hq => (h0.out.lt q hq).1)
  have hblk : ∀ b (o : Obj), V.heap[b]? = some o → (∀ c ty, o = .cells c ty → ty ≠ 80) → (∃ c ty, o = .cells c ty) → w3.heap[b]? = some o := fun b o hb1 hty hex => by
    have hlt : b < V.heap.size := (Array.getElem?_eq_some_iff.1 hb1).1
    obtain ⟨c, ty, rfl⟩ := hex
    rw [grown_block r3 (by simp; omega) (own_obj h0.out hb1 (hty c ty rfl))]
    exact (hbA.block _ hlt).trans hb1
  have hbox3 := hblk lb _ h0.box (fun c ty e => by cases e; decide) ⟨_, _, rfl⟩
  have hgoes3 : BR w3 gg (List.replicate (l + 1) false) := hblk gg _ h0.goes (fun c ty e => by cases e; decide) ⟨_, _, rfl⟩
  have hvr3 : ∀ b, VR V b (fun _ => .no) rg → VR w3 b (fun _ => .no) rg := fun b hb1 => by
    obtain ⟨c, h1, h2⟩ := hb1
    exact ⟨c, hblk b _ h1 (fun c ty e => by cases e; decide) ⟨_, _, rfl⟩, h2⟩
  have far : ∀ x (v : Value), x ≠ lb → (w3.setCell ⟨lb, 1, none⟩ v).heap[x]? = w3.heap[x]? := fun x v hx => Below.heap_setCell _ _ _ _ (fun e => hx (by simpa using e))
  have hgl : gg ≠ lb := fun e => by
    have h1 := h0.goes
    unfold BR at h1
    rw [e, h0.box] at h1
    simp only [Option.some.injEq, Obj.cells.injEq] at h1
    exact absurd h1.2.1 (by decide)
  have hvl : ∀ b, VR V b (fun _ => .no) rg → b ≠ lb := fun b hb1 e => by
    obtain ⟨c, h1, _⟩ := hb1
    rw [e, h0.box] at h1
    simp only [Option.some.injEq, Obj.cells.injEq] at h1
    exact absurd h1.2.1 (by decide)
  have hrow : ∀ i, i < k + 1 → VR V ((fun i => if i = k then W.heap.size else GA i) i) (fun _ => .no) rg := fun i hi => by
    by_cases e : i = k
    · simp only [e, ↓reduceIte]
      exact hr
    · simp only [if_neg e]
      exact h0.row i (by omega)
  refine ⟨g, cap, w3, r1, hbox3, ⟨hlow.setCell h.lo.1 _, ⟨h.lo.1, h.lo.2.1, fun i hi => ?_⟩, heap_set_same hbox3, (far _ _ hgl).trans hgoes3, ?_, fun i hi => (hvr3 _ (hrow i hi)).keep (far _ _ (hvl _ (hrow i hi))), fun i j hi hj e => ?_⟩⟩
  · by_cases e : i = k
    · simp only [e, ↓reduceIte]; exact hWs
    · simp only [if_neg e]; exact h.lo.2.2 i (by omega)
  · have e : (List.range (k + 1)).map (fun i => Value.slice (some ⟨(if i = k then W.heap.size else GA i), 0, none⟩) rg rg) = ((List.range k).map fun i => Value.slice (some ⟨GA i, 0, none⟩) rg rg) ++ [.slice (some ⟨W.heap.size, 0, none⟩) rg rg] := by
      rw [List.range_succ, List.map_append, List.map_singleton, if_pos rfl]
      congr 1
      refine List.map_congr_left fun i hi => ?_
      rw [if_neg (by have := List.mem_range.1 hi; omega)]
    rw [e]
    exact owns_far r2 (own_obj r2 hbox3 (by decide))
  · have hlt : ∀ q, q < k → GA q < W.heap.size := fun q hq => (h.row q hq).lt
    by_cases ei : i = k
    · by_cases ej : j = k
      · rw [ei, ej]
      · simp only [if_pos ei, if_neg ej] at e
        have := hlt j (by omega)
        omega
    · by_cases ej : j = k
      · simp only [if_neg ei, if_pos ej] at e
        have := hlt i (by omega)
        omega
      · simp only [if_neg ei, if_neg ej] at e
        exact h.inj i j (by omega) (by omega) e
end

theorem VR.own {w : World} {B g n cap : Nat} {e : Nat → Vl} (h : w.ownsRow B 78 2 (.slice (some ⟨g, 0, none⟩) n cap) n (vlsL e n)) : VR w g e n := by
  rcases h.2 with ⟨h0, _⟩ | ⟨g', cap', cur, hv, _, hh, _, _, h3, h4⟩
  · cases h0
  · simp only [Value.slice.injEq, Option.some.injEq, Addr.mk.injEq, and_true] at hv
    obtain ⟨rfl, -, rfl⟩ := hv
    refine ⟨cur, hh, fun r hr => ?_⟩
    have h5 := vlsL_at (e := e) hr
    rw [← h4, List.getElem?_take, List.getElem?_take, if_pos (by omega), if_pos (by omega)] at h5
    simpa using h5
/-- 'append([]Value{}, l...)'. -/
theorem app_srcV (W : World) (gs n c : Nat) (e : Nat → Vl) (h : VR W gs e n) (hn : 0 < n) (hl : n ≤ 1000) :
    ∃ g cap w3, (AppS #[80, 80] 80 #[.slice (some ⟨W.heap.size, 0, none⟩) 0 0, .slice (some ⟨gs, 0, none⟩) n c]).run Tryd.prog (W.alloc (.cells #[] 78)) = .ok (.slice (some ⟨g, 0, none⟩) n cap) w3 ∧ VR w3 g e n ∧ Below W.heap.size W w3 ∧ W.heap.size ≤ g := by
  obtain ⟨i, hi, hz0, hz1, hz2⟩ := info_is infoVl
  have hown := World.ownsRow_made (base := W.heap.size) (e := 78) (size := 2) W #[] 0 (Nat.le_refl _) (by decide) rfl
  have hnews : ∀ j u, (vlsL e n)[j]? = some u → (W.alloc (.cells #[] 78)).cell? ((⟨gs, 0, none⟩ : Addr).add j) = some u := fun j u hu => by
    have hj : j < 2 * n := by
      have := (List.getElem?_eq_some_iff.1 hu).1
      rwa [vlsL_len] at this
    have hadd : (⟨gs, 0, none⟩ : Addr).add j = ⟨gs, j, none⟩ := by unfold Addr.add; split <;> simp_all
    rw [hadd]
    refine cell_up ?_ _
    rcases Nat.mod_two_eq_zero_or_one j with h2 | h2
    · have e1 := (vlsL_at (e := e) (n := n) (r := j / 2) (by omega)).1
      have e2 := h.st (r := j / 2) (by omega)
      rw [show j / 2 * 2 = j by omega] at e1 e2
      rw [hu] at e1
      rw [e2, e1]
    · have e1 := (vlsL_at (e := e) (n := n) (r := j / 2) (by omega)).2
      have e2 := h.nb (r := j / 2) (by omega)
      rw [show j / 2 * 2 + 1 = j by omega] at e1 e2
      rw [hu] at e1
      rw [e2, e1]
  have hone : ∀ u ∈ vlsL e n, u.oneCell' = true := fun u hu => by
    unfold vlsL at hu
    rw [List.mem_flatMap] at hu
    obtain ⟨x, _, hx⟩ := hu
    simp only [List.mem_cons, List.not_mem_nil, or_false] at hx
    rcases hx with rfl | rfl <;> rfl
  obtain ⟨g, cap, w3, r1, r2, r3, r4, r5⟩ := run_append_lies (P := Tryd.prog) (W.alloc (.cells #[] 78)) 80 80 W.heap.size 78 i _ 2 16 Tryd.underlying80 hi hz0 hz1 hz2 rfl (by omega) _ 0 [] hown ⟨gs, 0, none⟩ n c (vlsL e n) (by rw [vlsL_len]; omega) hnews hone (by omega) (by unfold maxLen; omega) (by omega) (by simp) (W.heap.size + 1) (by simp)
  rw [Nat.zero_add] at r1 r2
  refine ⟨g, cap, w3, r1, VR.own r2, keep_grown r3 rfl, ?_⟩
  rcases r4 with r4 | r4
  · have : W.heap.size = g := by simpa [Value.ownBlock] using r4
    omega
  · omega
/-- All rows are there. -/
theorem LkB.done {w W : World} {lb gg l rg : Nat} {GA : Nat → Nat} {av : Value} (h : LkB w W lb gg l rg (l + 1) GA av) : ∃ ga ac, av = .slice (some ⟨ga, 0, none⟩) (l + 1) ac ∧ LkV w W lb gg ga ac l rg GA (fun _ => false) (fun _ _ => .no) true := by
  have hout := h.out
  rcases h.out.2 with ⟨_, h0⟩ | ⟨ga, ac, cur, hv, _, hh, _, _, h3, h4⟩
  · omega
  · refine ⟨ga, ac, hv, h.low, ⟨h.lo.1, h.lo.2.1, fun i hi => h.lo.2.2 i (by omega)⟩, by rw [← hv]; exact h.box, ⟨_, h.goes, by simp, fun i hi => by simp [List.getD, show i < l + 1 by omega]⟩, ⟨cur, hh, fun i hi => ?_⟩, fun i hi => h.row i (by omega), fun i j hi hj => h.inj i j (by omega) (by omega)⟩
    have h5 : ((List.range (l + 1)).map fun i => Value.slice (some ⟨GA i, 0, none⟩) rg rg)[i]? = some (.slice (some ⟨GA i, 0, none⟩) rg rg) := by simp [show i < l + 1 by omega]
    rw [← h4, List.getElem?_take, if_pos (by omega)] at h5
    simpa using h5
end

section
open Go.RowKit

theorem pas_start {X : Nat → Nat → Int} {l rg : Nat} : PasV X l rg (ledE rg (fun _ _ => .no) 0 (fun _ => .num 0)) (ledE rg (fun _ _ => .no) 0 (fun _ => .num 0)) (ledG (fun _ => false) 0) 0 false := by
  have e0 : ∀ r, r < rg → ledE rg (fun _ _ => Vl.no) 0 (fun _ => .num 0) 0 r = .num 0 := fun r hr => by
    unfold ledE
    rw [if_pos ⟨rfl, hr⟩]
    rfl
  have e1 : ∀ i r, i ≠ 0 → ledE rg (fun _ _ => Vl.no) 0 (fun _ => .num 0) i r = .no := fun i r hi => by
    unfold ledE
    rw [if_neg (fun e => hi e.1)]
  refine ⟨fun F hF i r hi hr => ?_, fun i hi => ⟨fun hg r hr => ?_, fun hg r hr => ?_⟩, ⟨rfl, fun r hr => ?_⟩, Nat.zero_le _, fun _ => ⟨rfl, fun i hi => absurd hi (Nat.not_lt_zero _)⟩, fun h => by cases h⟩
  · by_cases h : i = 0
    · rw [h, e0 r hr]
      exact hF.z r hr
    · rw [e1 i r h]
      exact Vl.no_le _
  · unfold ledG at hg
    split at hg
    · rename_i h
      rw [h, e0 r hr]
      exact num_ne _
    · cases hg
  · unfold ledG at hg
    split at hg
    · cases hg
    · rename_i h
      exact e1 i r h
  · rw [e0 r hr]
    exact Vl.le_refl _
/-- Is the q-th way taken? -/
def tkV (v : Vl) (q : Nat) : Bool := match v with | .any => true | .num n => decide (n = 0) == decide (q = 1) | .no => false
def wvX (X : Nat → Nat → Int) (k : Nat) (e : Nat → Vl) : Vl := if X k 0 = 15 then e (X k 1).toNat else .any
theorem wy_tk {X : Nat → Nat → Int} {k : Nat} {e : Nat → Vl} {j : Nat} : j ∈ wyX X k e ↔ ∃ q, (nxP X k)[q]? = some j ∧ tkV (wvX X k e) q = true := by
  unfold wyX wyL wvX nxP nxL
  by_cases h15 : X k 0 = 15
  · rw [if_pos h15, if_pos h15, if_neg (by omega), if_pos h15]
    cases e (X k 1).toNat with
    | no => simp [tkV]
    | any =>
      simp only [tkV, and_true, List.mem_cons, List.not_mem_nil, or_false]
      constructor
      · rintro (rfl | rfl)
        · exact ⟨0, rfl⟩
        · exact ⟨1, rfl⟩
      · rintro ⟨q, hq⟩
        match q, hq with
        | 0, hq => exact Or.inl (by simpa using hq.symm)
        | 1, hq => exact Or.inr (by simpa using hq.symm)
    | num n =>
      simp only [tkV]
      by_cases hn : n = 0
      · rw [if_pos hn]
        simp only [hn, decide_true, List.mem_singleton]
        constructor
        · rintro rfl; exact ⟨1, rfl, rfl⟩
        · rintro ⟨q, hq, h1⟩
          have : q = 1 := by simpa using h1
          subst this
          simpa using hq.symm
      · rw [if_neg hn]
        simp only [hn, decide_false, List.mem_singleton]
        constructor
        · rintro rfl; exact ⟨0, rfl, rfl⟩
        · rintro ⟨q, hq, h1⟩
          match q, hq, h1 with
          | 0, hq, _ => simpa using hq.symm
          | 1, _, h1 => simp at h1
          | q + 2, hq, _ => simp at hq
  · rw [if_neg h15, if_neg h15]
    rw [if_neg h15]
    simp only [tkV, and_true]
    rw [List.mem_iff_getElem?]
end

section
open Go.RowKit

theorem bh_put {X : Nat → Nat → Int} {k q : Nat} {e : Nat → Vl} (h : wrX X k = (q : Int)) : (fun r => if r = q then mkV (X k 0) (X k 2) (X k 3) e else e r) = bhV X k e := by
  funext r
  unfold bhV
  rw [h]
  by_cases hr : r = q
  · rw [if_pos hr, if_pos (by rw [hr])]
  · rw [if_neg hr, if_neg (fun e => hr (by omega))]
theorem bh_stay {X : Nat → Nat → Int} {k : Nat} {e : Nat → Vl} (h : wrX X k < 0) : e = bhV X k e := by
  funext r
  unfold bhV
  rw [if_neg (by omega)]
theorem mk_any {op b c : Int} {e : Nat → Vl} (h : ¬ (1 ≤ op ∧ op ≤ 7)) : mkV op b c e = .any := by
  unfold mkV
  rw [if_neg (by omega), if_neg (by omega), if_neg (by omega)]
theorem wr_reck {X : Nat → Nat → Int} {k : Nat} (h : 1 ≤ X k 0 ∧ X k 0 ≤ 7) : wrX X k = X k 1 := by
  unfold wrX wrL
  rw [if_pos (by omega)]
theorem ok_wr_at {rg m lk l : Nat} {X : Nat → Nat → Int} {k : Nat} (h : 1 ≤ X k 0 ∧ X k 0 ≤ 7) (ho : ordE rg m lk l (X k 0) (X k 1) (X k 2) (X k 3) = 0) : 0 ≤ X k 1 := by
  rcases (by omega : X k 0 = 1 ∨ X k 0 = 2 ∨ (X k 0 = 3 ∨ X k 0 = 4 ∨ X k 0 = 5 ∨ X k 0 = 6 ∨ X k 0 = 7)) with e | e | e
  · rw [e] at ho
    exact (ok_const ho).1
  · exact (ok_rr (Or.inl e) ho).1.1
  · exact (ok_rrr e ho).1.1
theorem wv_bh {X : Nat → Nat → Int} {k : Nat} {e : Nat → Vl} : wvX X k (bhV X k e) = wvX X k e := by
  unfold wvX
  by_cases h : X k 0 = 15
  · rw [if_pos h, if_pos h, ← bh_stay (by unfold wrX wrL; rw [h]; simp)]
  · rw [if_neg h, if_neg h]
/-- Where an order leads by what is known ahead of it, there it leads by every solution; what it makes comes to it. -/
theorem PasV.way {X : Nat → Nat → Int} {l rg k m lk : Nat} {E0 E : Nat → Nat → Vl} {G : Nat → Bool} {ag : Bool} (h : PasV X l rg E0 E G k ag) (hok : ∀ i, i < l → ordE rg m lk l (X i 0) (X i 1) (X i 2) (X i 3) = 0) (hrg : 0 < rg) (hk : k < l) (hg : G k = true) {j : Nat} (hj : j ∈ wyX X k (E k)) : ∀ F, SolV X l rg F → ∀ r, r < rg → (bhV X k (E k) r).le (F j r) := fun F hF r hr => by
  have h1 := h.sound F hF k
  refine Vl.le_trans (bhV_mono hok hk (fun r hr => h1 r (by omega) hr) hr) (hF.s k 0 hk hrg ?_ j (wy_reg hok hk (fun r hr => h1 r (by omega) hr) hj) r hr)
  exact ne_of_le (h1 0 (by omega) hrg) ((h.gs k (by omega)).1 hg 0 hrg)
/-- While what order k makes is handed on: q of its ways are done. -/
structure WayV (X : Nat → Nat → Int) (l rg : Nat) (E0 E : Nat → Nat → Vl) (k q : Nat) (e : Nat → Vl) (V : Vl) (E' : Nat → Nat → Vl) (G' : Nat → Bool) (ag ag' : Bool) : Prop where
  pas : PasV X l rg E0 E' G' k ag'
  led : ag' = false → ag = false ∧ ∀ p, p < q → tkV V p = true → ∀ j, (nxP X k)[p]? = some j → ∀ r, r < rg → (e r).le (E' j r)
section
variable {X : Nat → Nat → Int} {l rg k m lk q : Nat} {E0 E E' : Nat → Nat → Vl} {G G' : Nat → Bool} {ag ag' : Bool} {V : Vl}
theorem WayV.start (h : PasV X l rg E0 E G k ag) {e : Nat → Vl} : WayV X l rg E0 E k 0 e V E G ag ag := ⟨h, fun h0 => ⟨h0, fun _ hp => absurd hp (Nat.not_lt_zero _)⟩⟩
theorem WayV.skip {e : Nat → Vl} (h : WayV X l rg E0 E k q e V E' G' ag ag') (hq : tkV V q = false) : WayV X l rg E0 E k (q + 1) e V E' G' ag ag' := ⟨h.pas, fun h0 => ⟨(h.led h0).1, fun p hp ht => by
  by_cases e : p = q
  · rw [e, hq] at ht; cases ht
  · exact (h.led h0).2 p (by omega) ht⟩⟩
theorem WayV.step (h : WayV X l rg E0 E k q (bhV X k (E k)) (wvX X k (E k)) E' G' ag ag') (h0 : PasV X l rg E0 E G k ag) (hok : ∀ i, i < l → ordE rg m lk l (X i 0) (X i 1) (X i 2) (X i 3) = 0) (hrg : 0 < rg) (hk : k < l) (hg : G k = true) (hq : tkV (wvX X k (E k)) q = true) {j : Nat} (hj : (nxP X k)[q]? = some j) {ag2 : Bool}
    (h1 : ag2 = false → ag' = false ∧ G' j = true ∧ ∀ r, r < rg → (E' j r).meet (bhV X k (E k) r) = E' j r) (h2 : ag2 = true → ag' = true ∨ G' j = false ∨ ∃ r, r < rg ∧ (E' j r).meet (bhV X k (E k) r) ≠ E' j r) :
    WayV X l rg E0 E k (q + 1) (bhV X k (E k)) (wvX X k (E k)) (ledE rg E' j (bhV X k (E k))) (ledG G' j) ag ag2 := by
  have hjw : j ∈ wyX X k (E k) := wy_tk.2 ⟨q, hj, hq⟩
  have hjl := wy_le hok hk hjw
  refine ⟨h.pas.lead hjl (fun r hr => bhV_there hok hk (fun r hr => (h0.gs k (by omega)).1 hg r hr) hr) (h0.way hok hrg hk hg hjw) hrg h1 h2, fun ha => ?_⟩
  obtain ⟨h3, h4, h5⟩ := h1 ha
  rw [ledE_self h5]
  refine ⟨(h.led h3).1, fun p hp ht j' hj' r hr => ?_⟩
  by_cases e : p = q
  · subst e
    rw [hj] at hj'
    obtain rfl := Option.some.inj hj'
    have := Vl.le_meet_r (E' j r) (bhV X k (E k) r)
    rw [h5 r hr] at this
    exact this
  · exact (h.led h3).2 p (by omega) ht j' hj' r hr
theorem WayV.done (h : WayV X l rg E0 E k q (bhV X k (E k)) (wvX X k (E k)) E' G' ag ag') (h0 : PasV X l rg E0 E G k ag) (hk : k < l) (hq : (nxP X k).length ≤ q) : PasV X l rg E0 E' G' (k + 1) ag' := by
  refine h.pas.next hk fun ha _ j hj r hr => ?_
  obtain ⟨h1, h2⟩ := h.led ha
  have e1 := (h.pas.same ha).1
  have e2 := (h0.same h1).1
  have e3 : E' = E := by rw [e1, e2]
  rw [e3] at hj ⊢
  obtain ⟨p, hp, ht⟩ := wy_tk.1 hj
  have hpl : p < (nxP X k).length := (List.getElem?_eq_some_iff.1 hp).1
  have := h2 p (by omega) ht j hp r hr
  rw [e3] at this
  exact this
end

set_option maxRecDepth 100000 in
set_option maxHeartbeats 3200000 in
/-- Where an order leads: the list lies where nothing lay. -/
theorem rnexts_at (w : World) (ca : Option Addr) (l cc : Nat) (op a b c : Int) (i : Nat) (hi : i < l) (hl : l ≤ 1000) (hord : OrdAt w ca i op a b c) (h14 : op = 14 → 0 ≤ a) (h15 : op = 15 → 0 ≤ b) :
    Calls Tryd.prog 71 #[.slice ca l cc, .int .i64 i] w fun e w' => ∃ gb rc, e = .returned (.slice (some ⟨gb, 0, none⟩) (nxI op a b i).length rc) ∧ SIs w' (some ⟨gb, 0, none⟩) (nxI op a b i) ∧ Below w.heap.size w w' ∧ w.heap.size ≤ gb := by
  obtain ⟨cb, co, rfl, c0, c1, c2, c3⟩ := hord
  have u0 := cell_up c0
  have u1 := cell_up c1
  have u2 := cell_up c2
  have u3 := cell_up c3
  by_cases e14 : op = 14
  · subst e14
    rw [nxI_jump (h14 rfl)]
    clear h14 h15
    go_enter Tryd.func71, Tryd.ntmps71
    go_wp2
    go_ret
    exact ⟨_, _, rfl, sis_one _ _ _, below_two _ _ _, by omega⟩
  · have e14' : (op == 14) = false := by simpa using e14
    by_cases e15 : op = 15
    · subst e15
      rw [nxI_zero (h15 rfl)]
      clear h14 h15
      go_enter Tryd.func71, Tryd.ntmps71
      go_wp2
      go_ret
      exact ⟨_, _, rfl, sis_two _ _ _ _, below_two _ _ _, by omega⟩
    · have e15' : (op == 15) = false := by simpa using e15
      rw [nxI_else e14 e15]
      clear h14 h15 e14 e15
      go_enter Tryd.func71, Tryd.ntmps71
      go_wp2
      go_ret
      exact ⟨_, _, rfl, sis_one _ _ _, below_two _ _ _, by omega⟩
end

end Go.Proofs.YtkailbdjilkneaaDoor
