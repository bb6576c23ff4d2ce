/-
  What an order that reckons makes, by the document.
  What is known of a thread, in the program's memory: a map of values for each order, a list of what is still to be handed on.
-/
import Derived.Test.YtkailbdjilkneaaDoorOptA
import Derived.Test.YtkailbdjilkneaaDoorIntsS
import Derived.Lib.SmallJoins
import Derived.Maps.Own
import Derived.Maps.OwnSet
namespace Go.Proofs.YtkailbdjilkneaaDoor
section
open Go.RowKit

theorem low2 (w : World) (o1 o2 : Obj) : Below w.heap.size w ((w.alloc o1).alloc o2) := ((Below.refl _ _).alloc (Nat.le_refl _) _).alloc (by simp) _
theorem low4 (w : World) (o1 o2 o3 o4 : Obj) : Below w.heap.size w ((((w.alloc o1).alloc o2).alloc o3).alloc o4) := ((low2 w o1 o2).alloc (by simp; omega) _).alloc (by simp; omega) _
set_option maxRecDepth 100000 in
set_option maxHeartbeats 6400000 in
theorem rresult_any (w : World) (op a b c : Int) (g n cap : Nat) (e : Nat → Vl) {rg m lk sz : Nat} (ho : ordE rg m lk sz op a b c = 0) (h17 : 1 ≤ op ∧ op ≤ 7) (hr : VR w g e rg) (hn : n = rg) :
    Calls Tryd.prog 39 #[.agg #[.int .i64 op, .int .i64 a, .int .i64 b, .int .i64 c], .slice (some ⟨g, 0, none⟩) n cap] w fun r w' => r = .returned (vlV (mkV op b c e)) ∧ Below w.heap.size w w' := by
  subst hn
  have low3 : ∀ o1 o2 o3, Below w.heap.size w (((w.alloc o1).alloc o2).alloc o3) := fun o1 o2 o3 => (low2 w o1 o2).alloc (by simp; omega) _
  by_cases h1 : op = 1
  · subst h1
    unfold mkV vlV
    rw [if_pos rfl]
    unfold Vl.st Vl.nb
    clear hr ho
    go_enter Tryd.func39, Tryd.ntmps39
    go_wp2
    refine bodyPost_ret (by simp [results, Tryd.results39, go_sem] <;> rfl) rfl ⟨rfl, low2 _ _ _⟩
  · have h1' : (op == 1) = false := by simpa using h1
    by_cases h2 : op = 2
    · subst h2
      obtain ⟨hb0, hb1⟩ := (ok_rr (by omega) ho).2
      obtain ⟨k, rfl⟩ : ∃ k : Nat, b = k := ⟨b.toNat, by omega⟩
      have hk : k < n := by omega
      have c0 := cell_up (hr.st hk)
      have c1 := cell_up (hr.nb hk)
      unfold mkV
      rw [if_neg (by decide), if_pos rfl, Int.toNat_natCast]
      obtain ⟨x, hx⟩ : ∃ x, e k = x := ⟨_, rfl⟩
      rw [hx] at c0 c1 ⊢
      have d0 := fun o o' => cell_up (c0 o) o'
      have d1 := fun o o' => cell_up (c1 o) o'
      clear hr ho hx
      unfold vlV
      go_enter Tryd.func39, Tryd.ntmps39
      go_wp2
      refine bodyPost_ret (by simp [results, Tryd.results39, go_sem] <;> rfl) rfl ⟨rfl, low3 _ _ _⟩
    · have h2' : (op == 2) = false := by simpa using h2
      have h37 : op = 3 ∨ op = 4 ∨ op = 5 ∨ op = 6 ∨ op = 7 := by omega
      obtain ⟨_, ⟨hb0, hb1⟩, hc0, hc1⟩ := ok_rrr h37 ho
      obtain ⟨k, rfl⟩ : ∃ k : Nat, b = k := ⟨b.toNat, by omega⟩
      obtain ⟨q, rfl⟩ : ∃ q : Nat, c = q := ⟨c.toNat, by omega⟩
      have hk : k < n := by omega
      have hq : q < n := by omega
      have c0 := cell_up (hr.st hk)
      have c1 := cell_up (hr.nb hk)
      have d0 := cell_up (hr.st hq)
      have d1 := cell_up (hr.nb hq)
      unfold mkV
      rw [if_neg h1, if_neg h2, if_pos h37, Int.toNat_natCast, Int.toNat_natCast]
      obtain ⟨x, hx⟩ : ∃ x, e k = x := ⟨_, rfl⟩
      obtain ⟨y, hy⟩ : ∃ y, e q = y := ⟨_, rfl⟩
      rw [hx] at c0 c1 ⊢
      rw [hy] at d0 d1 ⊢
      have c0' := fun o o' => cell_up (c0 o) o'
      have c1' := fun o o' => cell_up (c1 o) o'
      have d0' := fun o o' => cell_up (d0 o) o'
      have d1' := fun o o' => cell_up (d1 o) o'
      have d0'' := fun o o' o2 => cell_up (d0' o o') o2
      have d1'' := fun o o' o2 => cell_up (d1' o o') o2
      clear hr ho hx hy
      cases x with
      | no =>
        have er : rcV op .no y = .no := by cases y <;> rfl
        rw [er]
        unfold vlV
        simp only [Vl.st, Vl.nb] at c0 c1 c0' c1' ⊢
        go_enter Tryd.func39, Tryd.ntmps39
        go_wp2
        refine bodyPost_ret (by simp [results, Tryd.results39, go_sem] <;> rfl) rfl ⟨rfl, low4 _ _ _ _ _⟩
      | any =>
        cases y with
        | no =>
          unfold rcV vlV
          simp only [Vl.st, Vl.nb] at c0 c1 c0' c1' d0 d1 d0' d1' d0'' d1'' ⊢
          go_enter Tryd.func39, Tryd.ntmps39
          go_wp2
          refine bodyPost_ret (by simp [results, Tryd.results39, go_sem] <;> rfl) rfl ⟨rfl, low4 _ _ _ _ _⟩
        | num n2 =>
          unfold rcV vlV
          simp only [Vl.st, Vl.nb] at c0 c1 c0' c1' d0 d1 d0' d1' d0'' d1'' ⊢
          go_enter Tryd.func39, Tryd.ntmps39
          go_wp2
          refine bodyPost_ret (by simp [results, Tryd.results39, go_sem] <;> rfl) rfl ⟨rfl, low4 _ _ _ _ _⟩
        | any =>
          unfold rcV vlV
          simp only [Vl.st, Vl.nb] at c0 c1 c0' c1' d0 d1 d0' d1' d0'' d1'' ⊢
          go_enter Tryd.func39, Tryd.ntmps39
          go_wp2
          refine bodyPost_ret (by simp [results, Tryd.results39, go_sem] <;> rfl) rfl ⟨rfl, low4 _ _ _ _ _⟩
      | num n1 =>
        cases y with
        | no =>
          unfold rcV vlV
          simp only [Vl.st, Vl.nb] at c0 c1 c0' c1' d0 d1 d0' d1' d0'' d1'' ⊢
          go_enter Tryd.func39, Tryd.ntmps39
          go_wp2
          refine bodyPost_ret (by simp [results, Tryd.results39, go_sem] <;> rfl) rfl ⟨rfl, low4 _ _ _ _ _⟩
        | any =>
          unfold rcV vlV
          simp only [Vl.st, Vl.nb] at c0 c1 c0' c1' d0 d1 d0' d1' d0'' d1'' ⊢
          go_enter Tryd.func39, Tryd.ntmps39
          go_wp2
          refine bodyPost_ret (by simp [results, Tryd.results39, go_sem] <;> rfl) rfl ⟨rfl, low4 _ _ _ _ _⟩
        | num n2 =>
          have HB : Hid (∀ b V, Calls Tryd.prog 73 #[.bool b] V fun e w' => e = .returned (.int .i64 (bitI b)) ∧ w' = V) := fun b V => rbit_any b V
          unfold rcV vlV
          simp only [Vl.st, Vl.nb] at c0 c1 c0' c1' d0 d1 d0' d1' d0'' d1'' ⊢
          rcases h37 with rfl | rfl | rfl | rfl | rfl
          · rw [show rcI 3 n1 n2 = wrap64 (n1 + n2) by show IntKind.i64.wrap _ = _; rw [IntKind.wrap_i64]; unfold wrap64; rfl]
            go_enter Tryd.func39, Tryd.ntmps39
            go_wp2
            refine bodyPost_ret (by simp [results, Tryd.results39, go_sem] <;> rfl) rfl ⟨rfl, low4 _ _ _ _ _⟩
          · rw [show rcI 4 n1 n2 = wrap64 (n1 - n2) by show IntKind.i64.wrap _ = _; rw [IntKind.wrap_i64]; unfold wrap64; rfl]
            go_enter Tryd.func39, Tryd.ntmps39
            go_wp2
            refine bodyPost_ret (by simp [results, Tryd.results39, go_sem] <;> rfl) rfl ⟨rfl, low4 _ _ _ _ _⟩
          · rw [show rcI 5 n1 n2 = wrap64 (n1 * n2) by show IntKind.i64.wrap _ = _; rw [IntKind.wrap_i64]; unfold wrap64; rfl]
            go_enter Tryd.func39, Tryd.ntmps39
            go_wp2
            refine bodyPost_ret (by simp [results, Tryd.results39, go_sem] <;> rfl) rfl ⟨rfl, low4 _ _ _ _ _⟩
          · go_enter Tryd.func39, Tryd.ntmps39
            go_wp2_with fail
            refine Calls.mono (HB.out _ _) ?_
            rintro e w' ⟨rfl, rfl⟩
            go_wp2
            refine bodyPost_ret (by simp [results, Tryd.results39, go_sem] <;> rfl) rfl ⟨rfl, low4 _ _ _ _ _⟩
          · go_enter Tryd.func39, Tryd.ntmps39
            go_wp2_with fail
            refine Calls.mono (HB.out _ _) ?_
            rintro e w' ⟨rfl, rfl⟩
            go_wp2
            refine bodyPost_ret (by simp [results, Tryd.results39, go_sem] <;> rfl) rfl ⟨rfl, low4 _ _ _ _ _⟩
end

section
open Go.RowKit

/-- Values as data. -/
def encV : Vl → DataW Unit
  | .no => .lit (.bool false)
  | .num n => .lit (.int .i64 n)
  | .any => .lit (.bool true)
theorem vlV_inj {x y : Vl} (h : vlV x = vlV y) : x = y := by
  cases x <;> cases y <;> simp [vlV, Vl.st, Vl.nb] at h <;> first | rfl | (rw [h])
open Classical in
noncomputable def rdV (v : Value) : Option (DataW Unit × List MemPlace) := if h : ∃ x, v = vlV x then some (encV (Classical.choose h), []) else none
theorem rdV_vl (x : Vl) : rdV (vlV x) = some (encV x, []) := by
  have h : ∃ y, vlV x = vlV y := ⟨x, rfl⟩
  unfold rdV
  rw [dif_pos h, ← vlV_inj (Classical.choose_spec h)]
theorem encV_inj {x y : Vl} (h : encV x = encV y) : x = y := by
  cases x <;> cases y <;> simp [encV] at h <;> first | rfl | (rw [h])
theorem rdV_inv {v : Value} {x : Vl} {ps : List MemPlace} (h : rdV v = some (encV x, ps)) : v = vlV x := by
  unfold rdV at h
  split at h
  · rename_i hx
    simp only [Option.some.injEq, Prod.mk.injEq] at h
    rw [← encV_inj h.1]
    exact Classical.choose_spec hx
  · cases h
theorem keyInt : Maps.Keyed Tryd.prog 3 := Maps.int_keyed Tryd.underlying3
/-- A map that holds what f says of rg registers; at most n were put. -/
def MpV (w : World) (b : Nat) (f : Nat → Vl) (rg n : Nat) : Prop := ∃ D, w.ownsMap Tryd.prog 3 rdV b n D ∧ (∀ r : Nat, r < rg → D.atKey (.int .i64 (r : Int)) (.lit (.bool false)) = encV (f r)) ∧ (D = .map [] ∨ ∃ r, r < rg ∧ f r ≠ .no)
theorem mapKeep {w w' : World} {b n : Nat} {D : DataW Unit} (h : w.ownsMap Tryd.prog 3 rdV b n D) (hb : w'.heap[b]? = w.heap[b]?) : w'.ownsMap Tryd.prog 3 rdV b n D := by
  obtain ⟨es, clock, h1, h2⟩ := h
  exact ⟨es, clock, hb.trans h1, h2⟩
theorem keyR {r : Nat} (h : r < 1000000) : keyOf Tryd.prog 3 (.int .i64 (r : Int)) = some (.int .i64 (r : Int)) := Maps.keyOf_int_mk Tryd.underlying3 (by
  have h1 : -9223372036854775808 ≤ (r : Int) ∧ (r : Int) ≤ 9223372036854775807 := ⟨by omega, by omega⟩
  have e : IntKind.i64.min = -9223372036854775808 := rfl
  simpa [Lit.wf, e] using h1)
theorem zeroVl (w : World) : (zeroValue 116).run Tryd.prog w = .ok (vlV .no) w := by kernel_rfl
section
variable {w w' : World} {b rg n r : Nat} {f : Nat → Vl}
theorem MpV.keep (h : MpV w b f rg n) (hb : w'.heap[b]? = w.heap[b]?) : MpV w' b f rg n := by
  obtain ⟨D, h1, h2⟩ := h
  exact ⟨D, mapKeep h1 hb, h2⟩
theorem MpV.obj (h : MpV w b f rg n) : ∃ es cl, w.heap[b]? = some (.map es cl) := by
  obtain ⟨D, ⟨es, cl, h1, _⟩, _⟩ := h
  exact ⟨es, cl, h1⟩
theorem MpV.lt (h : MpV w b f rg n) : b < w.heap.size := by
  obtain ⟨es, cl, h1⟩ := h.obj
  exact (Array.getElem?_eq_some_iff.1 h1).1
theorem MpV.look (h : MpV w b f rg n) (hr : r < rg) (hrg : rg ≤ 1000) : (Instr.lookup 110 (.map (some b)) (.int .i64 (r : Int)) false).run Tryd.prog w = .ok (vlV (f r)) w := by
  obtain ⟨D, h1, h2, _⟩ := h
  obtain ⟨v, ps, h3, h4⟩ := h1.lookup keyInt Tryd.underlying110 (zeroVl w) (rdV_vl .no) (keyR (r := r) (by omega))
  rw [show encV .no = .lit (.bool false) from rfl, h2 r hr] at h4
  rw [h3, rdV_inv h4]
theorem MpV.put (h : MpV w b f rg n) (hr : r < rg) (hrg : rg ≤ 1000) (hn : n ≤ 2000000) {v : Vl} (hv : v ≠ .no) : ∃ w1, (Instr.mapUpdate 110 (.map (some b)) (.int .i64 (r : Int)) (vlV v)).run Tryd.prog w = .ok () w1 ∧ MpV w1 b (fun q => if q = r then v else f q) rg (n + 1) ∧ w.grownBy w1 (some b) := by
  obtain ⟨D, h1, h2, _⟩ := h
  obtain ⟨w1, h3, h4, h5⟩ := h1.update keyInt Tryd.underlying110 (by unfold maxLen; omega) (keyR (r := r) (by omega)) (rdV_vl v)
  have hkl : WideAt.IsKeyLit (.int .i64 (r : Int)) := trivial
  refine ⟨w1, h3, ⟨_, h4, fun q hq => ?_, Or.inr ⟨r, hr, by simp only [↓reduceIte]; exact hv⟩⟩, h5⟩
  by_cases e : q = r
  · subst e
    simp only [↓reduceIte]
    exact Maps.atKey_put_same h1.isMap hkl _ _
  · simp only [if_neg e]
    have hne : (Lit.int .i64 (q : Int)) ≠ .int .i64 (r : Int) := fun h => e (by simp only [Lit.int.injEq, true_and] at h; omega)
    rw [Maps.atKey_put_other hne]
    exact h2 q hq
/-- Is there nothing in it? -/
theorem MpV.len (h : MpV w b f rg n) (ty : TypeId) : ∃ z : Nat, (Builtin.len_ #[110] ty #[.map (some b)]).run Tryd.prog w = .ok (.int .i64 (z : Int)) w ∧ (z = 0 ↔ ∀ r, r < rg → f r = .no) := by
  obtain ⟨D, h1, h2, h3⟩ := h
  have hm := h1.isMap
  refine ⟨_, h1.len Tryd.underlying110 ty, ?_⟩
  constructor
  · intro hz r hr
    obtain ⟨es, cl, g1, g2, g3, rfl⟩ := h1
    have hl := List.eq_nil_of_length_eq_zero hz
    rw [hl] at h2
    exact encV_inj (h2 r hr).symm
  · intro ha
    rcases h3 with h3 | ⟨r, hr, hne⟩
    · rw [h3]
      rfl
    · exact absurd (ha r hr) hne
theorem mpV_new (w : World) (rg : Nat) : MpV (w.alloc (.map #[] 0)) w.heap.size (fun _ => .no) rg 0 :=
  ⟨.map [], World.ownsMap_made _ _ _ _, fun _ _ => rfl, Or.inl rfl⟩
end
/-- What is still to be handed on, in memory. -/
def spL (O : List (Nat × Nat)) : List Value := O.flatMap fun p => [.int .i64 (p.1 : Int), .int .i64 (p.2 : Int)]
theorem spL_len (O : List (Nat × Nat)) : (spL O).length = 2 * O.length := by
  induction O with
  | nil => rfl
  | cons x r ih =>
    have : spL (x :: r) = [.int .i64 (x.1 : Int), .int .i64 (x.2 : Int)] ++ spL r := rfl
    rw [this, List.length_append, ih]
    simp
    omega
theorem spL_snoc (O : List (Nat × Nat)) (i s : Nat) : spL (O ++ [(i, s)]) = spL O ++ [.int .i64 (i : Int), .int .i64 (s : Int)] := by simp [spL]
/-- What is known, as it lies there: fb: the flow's box. -/
structure FlV (w W : World) (fb ga ac l cc rg : Nat) (ca : Option Addr) (MB : Nat → Nat) (ov : Value) (E : Nat → Nat → Vl) (O : List (Nat × Nat)) : Prop where
  low : Below w.heap.size w W
  lo : w.heap.size ≤ fb ∧ w.heap.size ≤ ga ∧ ∀ i, i ≤ l → w.heap.size ≤ MB i
  box : W.heap[fb]? = some (.cells #[.slice ca l cc, .int .i64 (rg : Int), .slice (some ⟨ga, 0, none⟩) (l + 1) ac, ov] 109)
  out : ∃ c, W.heap[ga]? = some (.cells c 110) ∧ ∀ i, i ≤ l → c[i]? = some (.map (some (MB i)))
  op : W.ownsRow w.heap.size 113 2 ov O.length (spL O)
  mp : ∀ i, i ≤ l → ∃ n, MpV W (MB i) (E i) rg n ∧ n + meas l rg E ≤ 1000000
  inj : ∀ i j, i ≤ l → j ≤ l → MB i = MB j → i = j
  olen : O.length + meas l rg E ≤ 1000000
/-- What stands through a call: all rows but the flow's box and its list. -/
structure KpF (W W' : World) (fb : Nat) (ov ov' : Value) : Prop where
  size : W.heap.size ≤ W'.heap.size
  block : ∀ b c ty fr, W.heap[b]? = some (.cells c ty fr) → b ≠ fb → ov.ownBlock ≠ some b → W'.heap[b]? = W.heap[b]?
  own : ∀ g, ov'.ownBlock = some g → ov.ownBlock = some g ∨ W.heap.size ≤ g
section
variable {w W W' V : World} {fb ga ac l cc rg : Nat} {ca : Option Addr} {MB : Nat → Nat} {ov ov1 ov2 : Value} {E : Nat → Nat → Vl} {O : List (Nat × Nat)}
theorem KpF.refl (W : World) (fb : Nat) (ov : Value) : KpF W W fb ov ov := ⟨Nat.le_refl _, fun _ _ _ _ _ _ _ => rfl, fun _ h => Or.inl h⟩
theorem KpF.trans (h1 : KpF W V fb ov ov1) (h2 : KpF V W' fb ov1 ov2) : KpF W W' fb ov ov2 := by
  refine ⟨Nat.le_trans h1.size h2.size, fun b c ty fr hb hf ho => ?_, fun g hg => ?_⟩
  · have e := h1.block b c ty fr hb hf ho
    refine (h2.block b c ty fr (e.trans hb) hf fun e2 => ?_).trans e
    rcases h1.own b e2 with h | h
    · exact ho h
    · have := (Array.getElem?_eq_some_iff.1 hb).1
      omega
  · rcases h2.own g hg with h | h
    · exact h1.own g h
    · exact Or.inr (Nat.le_trans h1.size h)
theorem KpF.low (hb : Below W.heap.size W W') : KpF W W' fb ov ov := ⟨hb.size, fun b _ _ _ h _ _ => hb.block b (Array.getElem?_eq_some_iff.1 h).1, fun _ h => Or.inl h⟩
theorem FlV.below (h : FlV w W fb ga ac l cc rg ca MB ov E O) (hb : Below W.heap.size W W') : FlV w W' fb ga ac l cc rg ca MB ov E O := by
  obtain ⟨c, h1, h2⟩ := h.out
  exact ⟨h.low.trans (hb.mono h.low.size), h.lo, (hb.block _ (box_lt h.box)).trans h.box, ⟨c, (hb.block _ (box_lt h1)).trans h1, h2⟩, owns_below2 h.op hb, fun i hi => by
    obtain ⟨n, h3, h4⟩ := h.mp i hi
    exact ⟨n, h3.keep (hb.block _ h3.lt), h4⟩, h.inj, h.olen⟩
theorem FlV.at (h : FlV w W fb ga ac l cc rg ca MB ov E O) {i : Nat} (hi : i ≤ l) : W.cell? ⟨ga, i, none⟩ = some (.map (some (MB i))) := by
  obtain ⟨c, h1, h2⟩ := h.out
  exact box_cell h1 (h2 i hi)
theorem FlV.mapNe (h : FlV w W fb ga ac l cc rg ca MB ov E O) {i : Nat} (hi : i ≤ l) {b : Nat} {c : Array Value} {ty : TypeId} {fr : Nat × Nat} (hb : W.heap[b]? = some (.cells c ty fr)) : b ≠ MB i := fun e => by
  obtain ⟨n, h3, _⟩ := h.mp i hi
  obtain ⟨es, cl, h4⟩ := h3.obj
  rw [e, h4] at hb
  cases hb
theorem FlV.opNe (h : FlV w W fb ga ac l cc rg ca MB ov E O) : ov.ownBlock ≠ some fb := fun e => own_type h.op h.box (by decide) e
end

/-- A cell lies in a row. -/
theorem cell_obj {w : World} {b o : Nat} {v : Value} (h : w.cell? ⟨b, o, none⟩ = some v) : ∃ c ty fr, w.heap[b]? = some (.cells c ty fr) := by
  unfold World.cell? at h
  cases e : w.heap[b]? with
  | none => simp [e] at h
  | some x =>
    cases x with
    | cells c ty fr => exact ⟨c, ty, fr, rfl⟩
    | _ => simp [e] at h
theorem KpF.cell {W V : World} {fb : Nat} {ov ov' : Value} (h : KpF W V fb ov ov') {b o : Nat} {v : Value} (hc : W.cell? ⟨b, o, none⟩ = some v) (h1 : b ≠ fb) (h2 : ov.ownBlock ≠ some b) : V.cell? ⟨b, o, none⟩ = some v := by
  obtain ⟨c, ty, fr, hb⟩ := cell_obj hc
  rw [World.cell?_of_block (w := W) (h.block b c ty fr hb h1 h2)]
  exact hc
end

end Go.Proofs.YtkailbdjilkneaaDoor
