/-
  Orders anew, by the program: what is known of the new program while it is made.
  What is known of a thread, in the program's memory: a map of values for each order, a list of what is still to be handed on.
-/
import Derived.Test.YtkailbdjilkneaaDoorEffP
import Derived.Test.YtkailbdjilkneaaDoorFLead
import Derived.Test.YtkailbdjilkneaaDoorAppB
import Derived.Test.YtkailbdjilkneaaDoorRead
import Derived.Test.YtkailbdjilkneaaDoorOptW
import Derived.Lib.SmallJoins
import Derived.Maps.Own
import Derived.Maps.OwnSet
namespace Go.Proofs.YtkailbdjilkneaaDoor
section
open Go.RowKit

/-- What is known while a thread's orders are made: from the world S on. j orders, i places. -/
structure InI (S : World) (b : Nat → List I4) (j i : Nat) (W : World) (cv pv : Value) : Prop where
  low : Below S.heap.size S W
  code : OwnC W S.heap.size cv (rawR b j)
  pls : W.ownsRow S.heap.size 3 1 pv i (intsV ((List.range i).map fun k => (plR b k : Int)))
  apart : ∀ g, cv.ownBlock = some g → pv.ownBlock ≠ some g
section
variable {S W : World} {b : Nat → List I4} {j i : Nat} {cv pv : Value}
theorem InI.start (S : World) (b : Nat → List I4) : InI S b 0 0 S nilV nilV := ⟨Below.refl _ _, World.ownsRow_nil _ _ _ _, World.ownsRow_nil _ _ _ _, fun g h => by simp [Value.ownBlock] at h⟩
theorem InI.below (h : InI S b j i W cv pv) {W' : World} (hb : Below W.heap.size W W') : InI S b j i W' cv pv := ⟨h.low.trans (hb.mono h.low.size), h.code.below hb, owns_below2 h.pls hb, h.apart⟩
/-- One place more. -/
theorem InI.place (h : InI S b j i W cv pv) {V : World} (hb : Below W.heap.size W V) {q : Nat} (hq : q = plR b i) (hi : i ≤ 1000) :
    ∃ g cap w3, (AppS #[23, 23] 23 #[pv, .slice (some ⟨V.heap.size, 0, none⟩) 1 1]).run Tryd.prog (V.alloc (.cells #[.int .i64 q] 3)) = .ok (.slice (some ⟨g, 0, none⟩) (i + 1) cap) w3 ∧ InI S b j (i + 1) w3 cv (.slice (some ⟨g, 0, none⟩) (i + 1) cap) ∧ Below S.heap.size S w3 := by
  have h0 := h.below hb
  obtain ⟨g, cap, w3, r1, r2, r3, r4⟩ := app_row (T := 23) Tryd.underlying23 infoI rfl (by omega) h0.pls (Below.refl _ V) h0.low.size 1 #[.int .i64 q] rfl (by simp [Value.oneCell']) (by omega) (by omega) (by omega)
  have hl := h0.low.size
  have hlow : Below S.heap.size S w3 := (h0.low.alloc hl _).grown r3 (by simp; omega) (fun k hk => by have := (h0.pls.lt k hk).1; omega)
  refine ⟨g, cap, w3, r1, ⟨hlow, ?_, ?_, fun k hk => ?_⟩, hlow⟩
  · exact own_grown (show (V.alloc (.cells #[.int .i64 q] 3)).ownsRow _ _ _ _ _ _ from owns_below2 h0.code ((Below.refl _ _).alloc (Nat.le_refl _) _)) r3 (fun k hk e => h0.apart k hk e)
  · have e : intsV ((List.range (i + 1)).map fun k => (plR b k : Int)) = intsV ((List.range i).map fun k => (plR b k : Int)) ++ [.int .i64 q] := by
      rw [List.range_succ, List.map_append, hq]
      simp [intsV]
    rw [e]
    exact r2
  · intro e
    have eg : g = k := by simpa [Value.ownBlock] using e
    subst eg
    rcases r4 with r4 | r4
    · exact h0.apart g hk r4
    · have := (h0.code.lt g hk).2
      omega
/-- More orders. -/
theorem InI.more (h : InI S b j i W cv pv) {V : World} (hb : Below W.heap.size W V) (sa : Option Addr) (c : Nat) (hs : SrcL V sa (cellsT (b j))) (hl : plR b j + (b j).length ≤ 1000000) :
    ∃ v w3, (AppS #[45, 45] 45 #[cv, .slice sa (b j).length c]).run Tryd.prog V = .ok v w3 ∧ InI S b (j + 1) i w3 v pv ∧ Below S.heap.size S w3 := by
  have h0 := h.below hb
  obtain ⟨v, w3, r1, r2, r3, r4⟩ := app_code h0.code h0.low.size sa c (b j) hs (by rw [raw_len]; exact hl)
  have hlow : Below S.heap.size S w3 := h0.low.grown r3 h0.low.size (fun k hk => (h0.code.lt k hk).1)
  refine ⟨v, w3, r1, ⟨hlow, r2, own_grown h0.pls r3 (fun g e1 e2 => h0.apart g e2 e1), fun g e1 e2 => ?_⟩, hlow⟩
  rcases r4 with r4 | r4
  · exact h0.apart g (by rw [← r4]; exact e1) e2
  · rw [r4] at e1
    have := (h0.pls.lt g e2).2
    have : V.heap.size = g := by simpa using e1
    omega
/-- The places lie there. -/
theorem InI.sis (h : InI S b j i W cv pv) {a : Option Addr} {c : Nat} (hv : pv = .slice a i c) : SIs W a ((List.range i).map fun k => (plR b k : Int)) := fun k hk => by
  have hk' : k < i := by simpa using hk
  obtain ⟨g, cap, e, hg, _⟩ := fam_block h.pls (by omega)
  rw [hv] at e
  simp only [Value.slice.injEq] at e
  refine ⟨g, 0, e.1, ?_⟩
  have := fam_cell h.pls hg (intsV_at (l := (List.range i).map fun k => (plR b k : Int)) hk)
  rw [Nat.zero_add]
  exact this
end
/-- What is known of the new program while it is made: from the world S on, its box at qb, k threads. -/
structure RwI (S : World) (qb : Nat) (uv : Value) (words : List Int) (lk rg : Int) (b : Nat → Nat → List I4) (L : Nat → Nat) (k : Nat) (W : World) (cv : Value) (tv : List Value) : Prop where
  low : Below S.heap.size S W
  hq : S.heap.size ≤ qb
  box : W.heap[qb]? = some (.cells #[cv, uv, .int .i64 lk, .int .i64 rg] 25)
  words : W.ownsRow S.heap.size 3 1 uv words.length (intsV words)
  wq : uv.ownBlock ≠ some qb
  code : W.ownsRow S.heap.size 45 1 cv k tv
  cq : cv.ownBlock ≠ some qb
  cw : ∀ g, uv.ownBlock = some g → cv.ownBlock ≠ some g
  thr : ∀ t, t < k → OwnC W S.heap.size (tv.getD t nilV) (codeR (b t) (L t)) ∧ ∀ g, (tv.getD t nilV).ownBlock = some g → g ≠ qb ∧ cv.ownBlock ≠ some g
section
variable {S W : World} {qb : Nat} {uv cv : Value} {words : List Int} {lk rg : Int} {b : Nat → Nat → List I4} {L : Nat → Nat} {k : Nat} {tv : List Value}
theorem RwI.below (h : RwI S qb uv words lk rg b L k W cv tv) {W' : World} (hb : Below W.heap.size W W') : RwI S qb uv words lk rg b L k W' cv tv :=
  ⟨h.low.trans (hb.mono h.low.size), h.hq, (hb.block _ (box_lt h.box)).trans h.box, owns_below2 h.words hb, h.wq, owns_below2 h.code hb, h.cq, h.cw, fun t ht => ⟨(h.thr t ht).1.below hb, (h.thr t ht).2⟩⟩
/-- One thread more. -/
theorem RwI.push (h : RwI S qb uv words lk rg b L k W cv tv) {V : World} (hb : Below W.heap.size W V) {v : Value} {T : Nat} (hT : W.heap.size ≤ T) (hv : OwnC V T v (codeR (b k) (L k))) (hk : k ≤ 1000) :
    ∃ g cap w3, (AppS #[22, 22] 22 #[cv, .slice (some ⟨V.heap.size, 0, none⟩) 1 1]).run Tryd.prog (V.alloc (.cells #[v] 45)) = .ok (.slice (some ⟨g, 0, none⟩) (k + 1) cap) w3 ∧ w3.heap[qb]? = some (.cells #[cv, uv, .int .i64 lk, .int .i64 rg] 25) ∧ Below S.heap.size S w3 ∧
      RwI S qb uv words lk rg b L (k + 1) (w3.setCell ⟨qb, 0, none⟩ (.slice (some ⟨g, 0, none⟩) (k + 1) cap)) (.slice (some ⟨g, 0, none⟩) (k + 1) cap) (tv ++ [v]) := by
  have h0 := h.below hb
  have hl := h0.low.size
  have hwq : qb < W.heap.size := box_lt h.box
  have hone : v.oneCell' = true := by
    rcases hv.2 with ⟨rfl, _⟩ | ⟨g, cap, cur, rfl, _⟩ <;> rfl
  obtain ⟨g, cap, w3, r1, r2, r3, r4⟩ := app_row (T := 22) Tryd.underlying22 infoOs rfl (by omega) h0.code (Below.refl _ V) hl 1 #[v] rfl (by simp [hone]) (by omega) (by omega) (by omega)
  have hbA : Below V.heap.size V (V.alloc (.cells #[v] 45)) := (Below.refl _ _).alloc (Nat.le_refl _) _
  have hlow : Below S.heap.size S w3 := (h0.low.alloc hl _).grown r3 (by simp; omega) (fun q hq => (h0.code.lt q hq).1)
  have hq3 : w3.heap[qb]? = some (.cells #[cv, uv, .int .i64 lk, .int .i64 rg] 25) := by
    rw [grown_block r3 (by simp; have := box_lt h0.box; omega) h0.cq]
    exact (hbA.block _ (box_lt h0.box)).trans h0.box
  have hgq : g ≠ qb := fun e => by
    rcases r4 with r4 | r4
    · exact h0.cq (by rw [r4, e])
    · have := box_lt h0.box
      omega
  have hold : ∀ x, x < V.heap.size → cv.ownBlock ≠ some x → x ≠ g := fun x hx hne e => by
    rcases r4 with r4 | r4
    · exact hne (by rw [r4, e])
    · omega
  have htl : tv.length = k := by have := h.code.1; omega
  refine ⟨g, cap, w3, r1, hq3, hlow, ⟨hlow.setCell h.hq _, h.hq, ?_, ?_, h.wq, ?_, ?_, fun x hx e => ?_, fun t ht => ?_⟩⟩
  · rw [heap_set_same hq3]
    rfl
  · exact owns_far (own_grown (owns_below2 h0.words hbA) r3 (fun x hx => h0.cw x hx)) h.wq
  · refine owns_far r2 ?_
    simp only [Value.ownBlock]
    exact fun e => hgq (by simpa using e)
  · simp only [Value.ownBlock]
    exact fun e => hgq (by simpa using e)
  · have : g = x := by simpa [Value.ownBlock] using e
    exact hold x (h0.words.lt x hx).2 (h0.cw x hx) this.symm
  · by_cases e : t = k
    · subst e
      have e1 : (tv ++ [v]).getD t nilV = v := by simp [List.getD, ← htl]
      rw [e1]
      have hvq : ∀ x, v.ownBlock = some x → x ≠ qb ∧ x < V.heap.size ∧ cv.ownBlock ≠ some x := fun x hx => by
        have h1 := hv.lt x hx
        refine ⟨by omega, h1.2, fun e2 => ?_⟩
        have := (h.code.lt x e2).2
        omega
      refine ⟨owns_far (own_grown (owns_below2 (own_low hv (by have := h.low.size; omega)) hbA) r3 (fun x hx => (hvq x hx).2.2)) (fun e2 => (hvq qb e2).1 rfl), fun x hx => ⟨(hvq x hx).1, fun e2 => ?_⟩⟩
      have : g = x := by simpa [Value.ownBlock] using e2
      exact hold x (hvq x hx).2.1 (hvq x hx).2.2 this.symm
    · have ht' : t < k := by omega
      have e1 : (tv ++ [v]).getD t nilV = tv.getD t nilV := by simp [List.getD, List.getElem?_append_left (show t < tv.length by omega)]
      rw [e1]
      have h1 := h0.thr t ht'
      refine ⟨owns_far (own_grown (owns_below2 h1.1 hbA) r3 (fun x hx => (h1.2 x hx).2)) (fun e2 => (h1.2 qb e2).1 rfl), fun x hx => ⟨(h1.2 x hx).1, fun e2 => ?_⟩⟩
      have : g = x := by simpa [Value.ownBlock] using e2
      exact hold x (h1.1.lt x hx).2 (h1.2 x hx).2 this.symm
end
end

section
open Go.RowKit

/-- Values as data. -/
def encV : Vl → DataW Unit
  | .no => .lit (.bool false)
  | .num n => .lit (.int .i64 n)
  | .any => .lit (.bool true)
theorem vlV_inj {x y : Vl} (h : vlV x = vlV y) : x = y := by
  cases x <;> cases y <;> simp [vlV, Vl.st, Vl.nb] at h <;> first | rfl | (rw [h])
open Classical in
noncomputable def rdV (v : Value) : Option (DataW Unit × List MemPlace) := if h : ∃ x, v = vlV x then some (encV (Classical.choose h), []) else none
theorem rdV_vl (x : Vl) : rdV (vlV x) = some (encV x, []) := by
  have h : ∃ y, vlV x = vlV y := ⟨x, rfl⟩
  unfold rdV
  rw [dif_pos h, ← vlV_inj (Classical.choose_spec h)]
theorem encV_inj {x y : Vl} (h : encV x = encV y) : x = y := by
  cases x <;> cases y <;> simp [encV] at h <;> first | rfl | (rw [h])
theorem rdV_inv {v : Value} {x : Vl} {ps : List MemPlace} (h : rdV v = some (encV x, ps)) : v = vlV x := by
  unfold rdV at h
  split at h
  · rename_i hx
    simp only [Option.some.injEq, Prod.mk.injEq] at h
    rw [← encV_inj h.1]
    exact Classical.choose_spec hx
  · cases h
theorem keyInt : Maps.Keyed Tryd.prog 3 := Maps.int_keyed Tryd.underlying3
/-- A map that holds what f says of rg registers; at most n were put. -/
def MpV (w : World) (b : Nat) (f : Nat → Vl) (rg n : Nat) : Prop := ∃ D, w.ownsMap Tryd.prog 3 rdV b n D ∧ (∀ r : Nat, r < rg → D.atKey (.int .i64 (r : Int)) (.lit (.bool false)) = encV (f r)) ∧ (D = .map [] ∨ ∃ r, r < rg ∧ f r ≠ .no)
theorem mapKeep {w w' : World} {b n : Nat} {D : DataW Unit} (h : w.ownsMap Tryd.prog 3 rdV b n D) (hb : w'.heap[b]? = w.heap[b]?) : w'.ownsMap Tryd.prog 3 rdV b n D := by
  obtain ⟨es, clock, h1, h2⟩ := h
  exact ⟨es, clock, hb.trans h1, h2⟩
theorem keyR {r : Nat} (h : r < 1000000) : keyOf Tryd.prog 3 (.int .i64 (r : Int)) = some (.int .i64 (r : Int)) := Maps.keyOf_int_mk Tryd.underlying3 (by
  have h1 : -9223372036854775808 ≤ (r : Int) ∧ (r : Int) ≤ 9223372036854775807 := ⟨by omega, by omega⟩
  have e : IntKind.i64.min = -9223372036854775808 := rfl
  simpa [Lit.wf, e] using h1)
theorem zeroVl (w : World) : (zeroValue 116).run Tryd.prog w = .ok (vlV .no) w := by kernel_rfl
section
variable {w w' : World} {b rg n r : Nat} {f : Nat → Vl}
theorem MpV.keep (h : MpV w b f rg n) (hb : w'.heap[b]? = w.heap[b]?) : MpV w' b f rg n := by
  obtain ⟨D, h1, h2⟩ := h
  exact ⟨D, mapKeep h1 hb, h2⟩
theorem MpV.obj (h : MpV w b f rg n) : ∃ es cl, w.heap[b]? = some (.map es cl) := by
  obtain ⟨D, ⟨es, cl, h1, _⟩, _⟩ := h
  exact ⟨es, cl, h1⟩
theorem MpV.lt (h : MpV w b f rg n) : b < w.heap.size := by
  obtain ⟨es, cl, h1⟩ := h.obj
  exact (Array.getElem?_eq_some_iff.1 h1).1
theorem MpV.look (h : MpV w b f rg n) (hr : r < rg) (hrg : rg ≤ 1000) : (Instr.lookup 110 (.map (some b)) (.int .i64 (r : Int)) false).run Tryd.prog w = .ok (vlV (f r)) w := by
  obtain ⟨D, h1, h2, _⟩ := h
  obtain ⟨v, ps, h3, h4⟩ := h1.lookup keyInt Tryd.underlying110 (zeroVl w) (rdV_vl .no) (keyR (r := r) (by omega))
  rw [show encV .no = .lit (.bool false) from rfl, h2 r hr] at h4
  rw [h3, rdV_inv h4]
theorem MpV.put (h : MpV w b f rg n) (hr : r < rg) (hrg : rg ≤ 1000) (hn : n ≤ 2000000) {v : Vl} (hv : v ≠ .no) : ∃ w1, (Instr.mapUpdate 110 (.map (some b)) (.int .i64 (r : Int)) (vlV v)).run Tryd.prog w = .ok () w1 ∧ MpV w1 b (fun q => if q = r then v else f q) rg (n + 1) ∧ w.grownBy w1 (some b) := by
  obtain ⟨D, h1, h2, _⟩ := h
  obtain ⟨w1, h3, h4, h5⟩ := h1.update keyInt Tryd.underlying110 (by unfold maxLen; omega) (keyR (r := r) (by omega)) (rdV_vl v)
  have hkl : WideAt.IsKeyLit (.int .i64 (r : Int)) := trivial
  refine ⟨w1, h3, ⟨_, h4, fun q hq => ?_, Or.inr ⟨r, hr, by simp only [↓reduceIte]; exact hv⟩⟩, h5⟩
  by_cases e : q = r
  · subst e
    simp only [↓reduceIte]
    exact Maps.atKey_put_same h1.isMap hkl _ _
  · simp only [if_neg e]
    have hne : (Lit.int .i64 (q : Int)) ≠ .int .i64 (r : Int) := fun h => e (by simp only [Lit.int.injEq, true_and] at h; omega)
    rw [Maps.atKey_put_other hne]
    exact h2 q hq
/-- Is there nothing in it? -/
theorem MpV.len (h : MpV w b f rg n) (ty : TypeId) : ∃ z : Nat, (Builtin.len_ #[110] ty #[.map (some b)]).run Tryd.prog w = .ok (.int .i64 (z : Int)) w ∧ (z = 0 ↔ ∀ r, r < rg → f r = .no) := by
  obtain ⟨D, h1, h2, h3⟩ := h
  have hm := h1.isMap
  refine ⟨_, h1.len Tryd.underlying110 ty, ?_⟩
  constructor
  · intro hz r hr
    obtain ⟨es, cl, g1, g2, g3, rfl⟩ := h1
    have hl := List.eq_nil_of_length_eq_zero hz
    rw [hl] at h2
    exact encV_inj (h2 r hr).symm
  · intro ha
    rcases h3 with h3 | ⟨r, hr, hne⟩
    · rw [h3]
      rfl
    · exact absurd (ha r hr) hne
theorem mpV_new (w : World) (rg : Nat) : MpV (w.alloc (.map #[] 0)) w.heap.size (fun _ => .no) rg 0 :=
  ⟨.map [], World.ownsMap_made _ _ _ _, fun _ _ => rfl, Or.inl rfl⟩
end
/-- What is still to be handed on, in memory. -/
def spL (O : List (Nat × Nat)) : List Value := O.flatMap fun p => [.int .i64 (p.1 : Int), .int .i64 (p.2 : Int)]
theorem spL_len (O : List (Nat × Nat)) : (spL O).length = 2 * O.length := by
  induction O with
  | nil => rfl
  | cons x r ih =>
    have : spL (x :: r) = [.int .i64 (x.1 : Int), .int .i64 (x.2 : Int)] ++ spL r := rfl
    rw [this, List.length_append, ih]
    simp
    omega
theorem spL_snoc (O : List (Nat × Nat)) (i s : Nat) : spL (O ++ [(i, s)]) = spL O ++ [.int .i64 (i : Int), .int .i64 (s : Int)] := by simp [spL]
/-- What is known, as it lies there: fb: the flow's box. -/
structure FlV (w W : World) (fb ga ac l cc rg : Nat) (ca : Option Addr) (MB : Nat → Nat) (ov : Value) (E : Nat → Nat → Vl) (O : List (Nat × Nat)) : Prop where
  low : Below w.heap.size w W
  lo : w.heap.size ≤ fb ∧ w.heap.size ≤ ga ∧ ∀ i, i ≤ l → w.heap.size ≤ MB i
  box : W.heap[fb]? = some (.cells #[.slice ca l cc, .int .i64 (rg : Int), .slice (some ⟨ga, 0, none⟩) (l + 1) ac, ov] 109)
  out : ∃ c, W.heap[ga]? = some (.cells c 110) ∧ ∀ i, i ≤ l → c[i]? = some (.map (some (MB i)))
  op : W.ownsRow w.heap.size 113 2 ov O.length (spL O)
  mp : ∀ i, i ≤ l → ∃ n, MpV W (MB i) (E i) rg n ∧ n + meas l rg E ≤ 1000000
  inj : ∀ i j, i ≤ l → j ≤ l → MB i = MB j → i = j
  olen : O.length + meas l rg E ≤ 1000000
/-- What stands through a call: all rows but the flow's box and its list. -/
structure KpF (W W' : World) (fb : Nat) (ov ov' : Value) : Prop where
  size : W.heap.size ≤ W'.heap.size
  block : ∀ b c ty fr, W.heap[b]? = some (.cells c ty fr) → b ≠ fb → ov.ownBlock ≠ some b → W'.heap[b]? = W.heap[b]?
  own : ∀ g, ov'.ownBlock = some g → ov.ownBlock = some g ∨ W.heap.size ≤ g
section
variable {w W W' V : World} {fb ga ac l cc rg : Nat} {ca : Option Addr} {MB : Nat → Nat} {ov ov1 ov2 : Value} {E : Nat → Nat → Vl} {O : List (Nat × Nat)}
theorem KpF.refl (W : World) (fb : Nat) (ov : Value) : KpF W W fb ov ov := ⟨Nat.le_refl _, fun _ _ _ _ _ _ _ => rfl, fun _ h => Or.inl h⟩
theorem KpF.trans (h1 : KpF W V fb ov ov1) (h2 : KpF V W' fb ov1 ov2) : KpF W W' fb ov ov2 := by
  refine ⟨Nat.le_trans h1.size h2.size, fun b c ty fr hb hf ho => ?_, fun g hg => ?_⟩
  · have e := h1.block b c ty fr hb hf ho
    refine (h2.block b c ty fr (e.trans hb) hf fun e2 => ?_).trans e
    rcases h1.own b e2 with h | h
    · exact ho h
    · have := (Array.getElem?_eq_some_iff.1 hb).1
      omega
  · rcases h2.own g hg with h | h
    · exact h1.own g h
    · exact Or.inr (Nat.le_trans h1.size h)
theorem KpF.low (hb : Below W.heap.size W W') : KpF W W' fb ov ov := ⟨hb.size, fun b _ _ _ h _ _ => hb.block b (Array.getElem?_eq_some_iff.1 h).1, fun _ h => Or.inl h⟩
theorem FlV.below (h : FlV w W fb ga ac l cc rg ca MB ov E O) (hb : Below W.heap.size W W') : FlV w W' fb ga ac l cc rg ca MB ov E O := by
  obtain ⟨c, h1, h2⟩ := h.out
  exact ⟨h.low.trans (hb.mono h.low.size), h.lo, (hb.block _ (box_lt h.box)).trans h.box, ⟨c, (hb.block _ (box_lt h1)).trans h1, h2⟩, owns_below2 h.op hb, fun i hi => by
    obtain ⟨n, h3, h4⟩ := h.mp i hi
    exact ⟨n, h3.keep (hb.block _ h3.lt), h4⟩, h.inj, h.olen⟩
theorem FlV.at (h : FlV w W fb ga ac l cc rg ca MB ov E O) {i : Nat} (hi : i ≤ l) : W.cell? ⟨ga, i, none⟩ = some (.map (some (MB i))) := by
  obtain ⟨c, h1, h2⟩ := h.out
  exact box_cell h1 (h2 i hi)
theorem FlV.mapNe (h : FlV w W fb ga ac l cc rg ca MB ov E O) {i : Nat} (hi : i ≤ l) {b : Nat} {c : Array Value} {ty : TypeId} {fr : Nat × Nat} (hb : W.heap[b]? = some (.cells c ty fr)) : b ≠ MB i := fun e => by
  obtain ⟨n, h3, _⟩ := h.mp i hi
  obtain ⟨es, cl, h4⟩ := h3.obj
  rw [e, h4] at hb
  cases hb
theorem FlV.opNe (h : FlV w W fb ga ac l cc rg ca MB ov E O) : ov.ownBlock ≠ some fb := fun e => own_type h.op h.box (by decide) e
end

/-- A cell lies in a row. -/
theorem cell_obj {w : World} {b o : Nat} {v : Value} (h : w.cell? ⟨b, o, none⟩ = some v) : ∃ c ty fr, w.heap[b]? = some (.cells c ty fr) := by
  unfold World.cell? at h
  cases e : w.heap[b]? with
  | none => simp [e] at h
  | some x =>
    cases x with
    | cells c ty fr => exact ⟨c, ty, fr, rfl⟩
    | _ => simp [e] at h
theorem KpF.cell {W V : World} {fb : Nat} {ov ov' : Value} (h : KpF W V fb ov ov') {b o : Nat} {v : Value} (hc : W.cell? ⟨b, o, none⟩ = some v) (h1 : b ≠ fb) (h2 : ov.ownBlock ≠ some b) : V.cell? ⟨b, o, none⟩ = some v := by
  obtain ⟨c, ty, fr, hb⟩ := cell_obj hc
  rw [World.cell?_of_block (w := W) (h.block b c ty fr hb h1 h2)]
  exact hc
end

end Go.Proofs.YtkailbdjilkneaaDoor
