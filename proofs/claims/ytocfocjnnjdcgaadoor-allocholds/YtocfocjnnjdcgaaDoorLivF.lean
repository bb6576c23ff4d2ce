/-
  Which registers are live ahead of each order, by the program: the walk.
-/
import Derived.Test.YtocfocjnnjdcgaaDoorLivD
import Derived.Test.YtocfocjnnjdcgaaDoorBase
import Derived.Sort.LoopGhostIn
namespace Go.Proofs.YtocfocjnnjdcgaaDoor
open Go.RowKit Go.Shelf

attribute [local go_sem] Oper.semAt_some

/-- What holds in the rounds of a pass. -/
structure LvJ (w W0 : World) (ab mb l rg m lk : Nat) (X : Nat → Nat → Int) (R : Nat → Nat → Nat) (pre : List (Fin l)) (W : World) (S : Nat → Nat → Nat) (b : Bool) : Prop where
  row : RowZ W w.heap.size ab (l + 1) S
  mor : W.heap[mb]? = some (.cells #[.bool b] 4)
  w64 : ∀ j, W64 (S j)
  low : Below w.heap.size w W
  kp : KpL W0.heap.size ab mb W0 W
  pas : pre = bckF l pre.length → pre.length ≤ l → PasS X l rg m lk R S (l - pre.length) b
theorem lvJ_own {w W0 : World} {ab mb l rg m lk : Nat} {X : Nat → Nat → Int} {R : Nat → Nat → Nat} (hw : w.heap.size ≤ W0.heap.size) : OwnFrom W0.heap.size (fun (pre : List (Fin l)) W => ∃ S b, LvJ w W0 ab mb l rg m lk X R pre W S b) := by
  rintro pre A C row ⟨S, b, h⟩ hg hr
  have hr2 : ∀ r, row = some r → ∃ o : Obj, A.heap[r]? = some o ∧ o.isCells = false := fun r e => (hr r e).2
  have hrow : ∀ k, k < W0.heap.size → row ≠ some k := fun k hk e => by have := (hr k e).1; omega
  have hab : C.heap[ab]? = A.heap[ab]? := by
    obtain ⟨o, ho, hc⟩ := cells_of_cell (h.row.sets 0 (by omega)).1
    exact grownBy_keeps_cells hg hr2 ho hc
  refine ⟨S, b, ⟨h.row.keep hab, (grownBy_keeps_cells hg hr2 h.mor rfl).trans h.mor, h.w64, ?_, ?_, h.pas⟩⟩
  · exact h.low.trans ⟨hg.os, hg.tape, hg.output, hg.size, fun k hk => hg.block k (Nat.lt_of_lt_of_le hk h.low.size) (fun e => hrow k (by omega) e.symm)⟩
  · exact kpL_t h.kp ⟨hg.size, fun k hk _ _ => hg.block k (Nat.lt_of_lt_of_le hk h.kp.size) (fun e => hrow k hk e.symm)⟩
theorem sumS_zero : ∀ n, sumB (fun _ => noS) n = 0
  | 0 => rfl
  | n + 1 => by
    show sumB (fun _ => noS) n + _ = 0
    rw [sumS_zero n]
    rfl
theorem LvJ.below {w W0 : World} {ab mb l rg m lk : Nat} {X : Nat → Nat → Int} {R : Nat → Nat → Nat} {pre : List (Fin l)} {W W' : World} {S : Nat → Nat → Nat} {b : Bool} (h : LvJ w W0 ab mb l rg m lk X R pre W S b) (hb : Below W.heap.size W W') : LvJ w W0 ab mb l rg m lk X R pre W' S b :=
  ⟨h.row.below hb, (hb.block _ (Array.getElem?_eq_some_iff.1 h.mor).1).trans h.mor, h.w64, h.low.trans (hb.mono h.low.size), kpL_t h.kp (KpL.of_below hb h.kp.size), h.pas⟩
/-- What holds between the passes. -/
structure LvO (w : World) (ab b3 lo l rg m lk : Nat) (X : Nat → Nat → Int) (mb : Nat) (b : Bool) (S : Nat → Nat → Nat) (Ds : List Nat) (W : World) : Prop where
  row : RowZ W w.heap.size ab (l + 1) S
  box : W.heap[b3]? = some (.cells #[.slice (some ⟨ab, 0, none⟩) (l + 1) (l + 1)] 62)
  mor : W.heap[mb]? = some (.cells #[.bool b] 4)
  mbn : w.heap.size ≤ mb ∧ mb ≠ ab ∧ mb ≠ b3 ∧ b3 ≠ ab
  low : Below w.heap.size w W
  pas : PasS X l rg m lk S S l false
  fin : b = false → ∀ i r, has (S i) r = true ↔ Lv X l r i
  nod : Ds.Nodup
  dfr : ∀ D, D ∈ Ds → lo ≤ D ∧ W.heap[D]? = some (.deferred (some []))
  abl : ab < lo
  lol : lo ≤ W.heap.size
theorem lvJ_begin {w wr : World} {ab b3 lo l rg m lk mb : Nat} {X : Nat → Nat → Int} {S : Nat → Nat → Nat} {b : Bool} {Ds : List Nat} (h : LvO w ab b3 lo l rg m lk X mb b S Ds wr) (o : Obj) {W0 : World} (hW : (wr.setCell ⟨mb, 0, none⟩ (.bool false)).alloc o = W0) :
    W0.heap.size = wr.heap.size + 1 ∧ W0.heap[wr.heap.size]? = some o ∧ W0.heap[b3]? = some (.cells #[.slice (some ⟨ab, 0, none⟩) (l + 1) (l + 1)] 62) ∧ LvJ w W0 ab mb l rg m lk X S [] W0 S false := by
  obtain ⟨m1, m2, m3, m4⟩ := h.mbn
  have hs : (wr.setCell ⟨mb, 0, none⟩ (.bool false)).heap.size = wr.heap.size := by simp
  have hset : ∀ k, k ≠ mb → (wr.setCell ⟨mb, 0, none⟩ (.bool false)).heap[k]? = wr.heap[k]? := fun k hk => Below.heap_setCell _ _ _ _ (fun x => hk (by simpa using x))
  have hlt : ∀ k o', wr.heap[k]? = some o' → k < wr.heap.size := fun k o' hk => (Array.getElem?_eq_some_iff.1 hk).1
  have hup : ∀ k, k < wr.heap.size → W0.heap[k]? = (wr.setCell ⟨mb, 0, none⟩ (.bool false)).heap[k]? := fun k hk => by
    rw [← hW]
    exact Below.heap_alloc _ _ _ (by rw [hs]; exact hk)
  refine ⟨by rw [← hW]; simp, ?_, ?_, ⟨?_, ?_, h.pas.w64, ?_, KpL.refl _ _ _ _, fun _ _ => h.pas⟩⟩
  · rw [← hW]
    have := heap_alloc_new (wr.setCell ⟨mb, 0, none⟩ (.bool false)) o
    rwa [hs] at this
  · rw [hup b3 (hlt _ _ h.box), hset b3 (fun e => m3 e.symm)]
    exact h.box
  · exact h.row.keep (by rw [hup ab h.row.lt.2, hset ab (fun e => m2 e.symm)])
  · rw [hup mb (hlt _ _ h.mor)]
    exact heap_set_same h.mor
  · rw [← hW]
    exact (h.low.setCell m1 _).alloc (by rw [hs]; exact h.low.size) _
theorem lvO_next {w wr W0 W : World} {ab b3 lo l rg m lk mb D : Nat} {X : Nat → Nat → Int} {S S' : Nat → Nat → Nat} {b' : Bool} {Ds : List Nat} (h : LvO w ab b3 lo l rg m lk X mb true S Ds wr) {o : Obj} (hW : (wr.setCell ⟨mb, 0, none⟩ (.bool false)).alloc o = W0) (hJ : LvJ w W0 ab mb l rg m lk X S (bckF l l) W S' b') (hD : W0.heap.size ≤ D) (hDD : W.heap[D]? = some (.deferred (some []))) (hrg : rg ≤ 200) (hok : ∀ i, i < l → ordE rg m lk l (X i 0) (X i 1) (X i 2) (X i 3) = 0) :
    LvO w ab b3 lo l rg m lk X W.heap.size b' S' (D :: Ds) (W.alloc (.cells #[.bool b'] 4)) ∧ (b' = true → sumB S l < sumB S' l) := by
  obtain ⟨hs0, _, hB3, _⟩ := lvJ_begin h o hW
  obtain ⟨m1, m2, m3, m4⟩ := h.mbn
  have hlen := bckF_length l l (Nat.le_refl _)
  have hp := hJ.pas (by rw [hlen]) (by rw [hlen]; exact Nat.le_refl _)
  rw [hlen, Nat.sub_self] at hp
  have hbA : Below W.heap.size W (W.alloc (.cells #[.bool b'] 4)) := (Below.refl _ _).alloc (Nat.le_refl _) _
  have hb3l : b3 < W0.heap.size := (Array.getElem?_eq_some_iff.1 hB3).1
  have hB3W : W.heap[b3]? = some (.cells #[.slice (some ⟨ab, 0, none⟩) (l + 1) (l + 1)] 62) := (hJ.kp.block b3 hb3l m4 (fun e => m3 e.symm)).trans hB3
  have hsz := hJ.kp.size
  have hlol := h.lol
  have hold : ∀ E, E ∈ Ds → E < wr.heap.size ∧ W.heap[E]? = some (.deferred (some [])) := fun E hE => by
    obtain ⟨_, hEd⟩ := h.dfr E hE
    have hlt : E < wr.heap.size := (Array.getElem?_eq_some_iff.1 hEd).1
    have hem : E ≠ mb := fun e => by rw [e, h.mor] at hEd; cases hEd
    have hea : E ≠ ab := fun e => by
      obtain ⟨o', ho, hc⟩ := cells_of_cell (h.row.sets 0 (by omega)).1
      rw [e] at hEd
      have ho' : wr.heap[ab]? = some o' := ho
      rw [ho'] at hEd
      cases hEd
      cases hc
    refine ⟨hlt, (hJ.kp.block E (by omega) hea hem).trans ?_⟩
    rw [← hW]
    refine (Below.heap_alloc _ _ _ (by simp; omega)).trans ?_
    exact (Below.heap_setCell _ _ _ _ (fun x => hem (by simpa using x))).trans hEd
  refine ⟨⟨hJ.row.below hbA, (hbA.block _ (Array.getElem?_eq_some_iff.1 hB3W).1).trans hB3W, heap_alloc_new W _, ⟨hJ.low.size, by have := hJ.row.lt.2; omega, by omega, m4⟩, hJ.low.trans (hbA.mono hJ.low.size), hp.begin, fun e => ?_, ?_, fun E hE => ?_, h.abl, by simp; omega⟩, hp.less⟩
  · subst e
    exact hp.done hrg hok
  · rw [List.nodup_cons]
    exact ⟨fun hE => by have := (hold D hE).1; omega, h.nod⟩
  · rcases List.mem_cons.1 hE with rfl | hE
    · exact ⟨by omega, (hbA.block _ (Array.getElem?_eq_some_iff.1 hDD).1).trans hDD⟩
    · obtain ⟨h1, h2⟩ := hold E hE
      exact ⟨(h.dfr E hE).1, (hbA.block _ (Array.getElem?_eq_some_iff.1 h2).1).trans h2⟩
/-- A mark of a range over a function, as it is left. -/
def mkD (D : Nat) : Deferred := { target := .collected D, args := #[] }
theorem leaves_marks {F : Fence} {n : Nat} {fn : Func} {tmps : Array Value} {R : Ending → World → Prop} {lo : Nat} : ∀ (Ds : List Nat) (W : World), Ds.Nodup → (∀ D, D ∈ Ds → lo ≤ D ∧ W.heap[D]? = some (.deferred (some []))) →
    (∀ W', Below lo W W' → LeavesIn F n Tryd.prog fn tmps R [] .returning W') → LeavesInM F n Tryd.prog fn tmps R (Ds.map mkD) .returning W
  | [], W, _, _, h => h W (Below.refl _ _)
  | D :: Ds, W, hn, hd, h => by
    obtain ⟨hlo, hD⟩ := hd D List.mem_cons_self
    rw [List.nodup_cons] at hn
    have hb : Below lo W (W.putObj D (.deferred none)) := (Below.refl lo W).grown (grownBy_putObj' W D (.deferred none)) (Nat.le_of_lt (Nat.lt_of_le_of_lt hlo (Array.getElem?_eq_some_iff.1 hD).1)) (fun k e => by cases e; exact hlo)
    refine ⟨by simp, .inl ⟨D, _, rfl, run_takeDeferred hD, leaves_marks Ds _ hn.2 (fun E hE => ⟨(hd E (List.mem_cons_of_mem _ hE)).1, ?_⟩) fun W' hW' => h W' (hb.trans hW')⟩⟩
    have hne : E ≠ D := fun e => hn.1 (e ▸ hE)
    have h1 := (hd E (List.mem_cons_of_mem _ hE)).2
    have h2 := (grownBy_putObj' W D (.deferred none)).block E (Array.getElem?_eq_some_iff.1 h1).1 (fun e => hne (by simpa using e))
    exact h2.trans h1

theorem KpL.put {n₀ x : Nat} {A B : World} (h : KpL n₀ x x A B) {i : Nat} (v : Value) : KpL n₀ x x A (B.setCell ⟨x, i, none⟩ v) := ⟨by simpa using h.size, fun k h1 h2 h3 => (Below.heap_setCell _ _ _ _ (fun e => h2 (by simpa using e))).trans (h.block k h1 h2 h3)⟩
/-- Two sets are not the same four words. -/
def neS (f g : Nat → Nat) : Bool := !(f 0 == g 0 && f 1 == g 1 && f 2 == g 2 && f 3 == g 3)
theorem neS_true {f g : Nat → Nat} : neS f g = true ↔ ¬ eqS f g := by
  unfold neS eqS
  simp only [Bool.not_eq_true', Bool.and_eq_false_iff, beq_eq_false_iff_ne]
  omega
theorem eqSt (f g : Nat → Nat) (w : World) : (Op.equalIn 10000 88 (setV f) (setV g)).run Tryd.prog w = .ok (!neS f g) w := by
  have u3 := Tryd.underlying86
  have a3 := Tryd.isAgg86
  have z3 := Tryd.sizeOf86
  rw [show (10000 : Nat) = 9999 + 1 from rfl, Op.equalIn]
  simp only [Sem.run_bind, run_underlying Tryd.underlying88, Result.andThen_ok]
  simp only [Std.Legacy.Range.forIn_eq_forIn_range', Std.Legacy.Range.size, Nat.sub_zero, Nat.add_sub_cancel, Nat.div_one, List.range'_succ, List.range'_zero, List.forIn_cons, List.forIn_nil]
  go_simp
  unfold neS
  by_cases h0 : f 0 = g 0 <;> by_cases h1 : f 1 = g 1 <;> by_cases h2 : f 2 = g 2 <;> by_cases h3 : f 3 = g 3 <;> simp [h0, h1, h2, h3]
  all_goals simp_all [Int.natCast_inj]
theorem rowZ_same {W : World} {B ab n p : Nat} {S : Nat → Nat → Nat} {f : Nat → Nat} (h : RowZ W B ab n (putS S p f)) (he : eqS f (S p)) : RowZ W B ab n S := by
  have e : rows4 n (u4 (putS S p f)) = rows4 n (u4 S) := by
    refine List.ext_getElem? fun i => ?_
    rw [rows4_at, rows4_at]
    split
    · unfold u4 putS
      by_cases hi : i / 4 = p
      · rw [if_pos hi, hi]
        have : i % 4 = 0 ∨ i % 4 = 1 ∨ i % 4 = 2 ∨ i % 4 = 3 := by omega
        rcases this with q | q | q | q <;> rw [q]
        · rw [he.1]
        · rw [he.2.1]
        · rw [he.2.2.1]
        · rw [he.2.2.2]
      · rw [if_neg hi]
    · rfl
  unfold RowZ at h ⊢
  rwa [e] at h
theorem keepsFrom_below {B : Nat} {W V : World} (h : Below W.heap.size W V) : KeepsFrom B W V := ⟨h.size, fun _ _ _ hk _ => (h.block _ (Array.getElem?_eq_some_iff.1 hk).1).trans hk⟩
section
variable {w W0 W : World} {ab b3 mb l rg m lk : Nat} {X : Nat → Nat → Int} {R S : Nat → Nat → Nat} {pre : List (Fin l)} {b : Bool}
/-- What is known behind the second store of a round. -/
structure LvN (w W0 W : World) (ab b3 mb l Bn : Nat) (S : Nat → Nat → Nat) (f : Nat → Nat) (v : Bool) (V : World) : Prop where
  box : V.cell? ⟨b3, 0, none⟩ = some (.slice (some ⟨ab, 0, none⟩) (l + 1) (l + 1))
  new : V.heap[Bn]? = some (setO f)
  row : RowZ V w.heap.size ab (l + 1) S
  mor : V.heap[mb]? = some (.cells #[.bool v] 4)
  low : Below w.heap.size w V
  kp : KpL W0.heap.size ab mb W V
  kf : KeepsFrom W0.heap.size W V
theorem lvN_of (hJ : LvJ w W0 ab mb l rg m lk X R pre W S b) (hm : w.heap.size ≤ mb ∧ mb ≠ ab ∧ mb ≠ b3) (hb3 : W.cell? ⟨b3, 0, none⟩ = some (.slice (some ⟨ab, 0, none⟩) (l + 1) (l + 1))) {V8 : World} {Bn : Nat} {f : Nat → Nat} (hS : Below W.heap.size W V8) (hn : V8.heap[Bn]? = some (setO f)) (hBn : W.heap.size ≤ Bn) (v : Bool) : LvN w W0 W ab b3 mb l Bn S f v (V8.drew.setCell ⟨mb, 0, none⟩ (.bool v)) := by
  have hml : mb < W.heap.size := (Array.getElem?_eq_some_iff.1 hJ.mor).1
  have hal := hJ.row.lt.2
  have hbl : b3 < W.heap.size := lt_of_cell hb3
  have hset : ∀ k, k ≠ mb → (V8.drew.setCell ⟨mb, 0, none⟩ (.bool v)).heap[k]? = V8.heap[k]? := fun k hk => Below.heap_setCell _ _ _ _ (fun x => hk (by simpa using x))
  refine ⟨?_, ?_, hJ.row.keep ?_, ?_, ?_, ⟨by simpa using hS.size, fun k hk h1 h2 => ?_⟩, ?_⟩
  · rw [World.cell?_of_block (w := V8) (hset b3 (fun e => hm.2.2 e.symm))]
    exact (hS.cell (p := ⟨b3, 0, none⟩) hbl).trans hb3
  · rw [hset Bn (by omega)]
    exact hn
  · rw [hset ab (fun e => hm.2.1 e.symm), hS.block ab hal]
  · have h8 : V8.drew.heap[mb]? = some (.cells #[.bool b] 4) := (hS.block mb hml).trans hJ.mor
    exact heap_set_same h8
  · exact ((hJ.low.trans (hS.mono hJ.low.size)).drew).setCell hm.1 _
  · have := hJ.kp.size
    rw [hset k h2, hS.block k (by omega)]
  · exact (keepsFrom_below (hS.drew)).trans ((KeepsOthers.setCell V8.drew _ _).from _)
theorem lvJ_step (hok : ∀ i, i < l → ordE rg m lk l (X i 0) (X i 1) (X i 2) (X i 3) = 0) (hJ : LvJ w W0 ab mb l rg m lk X R pre W S b) (hm : mb ≠ ab) {y : Fin l} {f : Nat → Nat} (hf : nF X S y.1 = f) {v : Bool} (hv : v = (b || neS f (S y.1))) {V : World} {Bn : Nat} (hN : LvN w W0 W ab b3 mb l Bn S f v V) {p : Nat} (hp : y.1 = p) :
    KeepsFrom W0.heap.size W ((((V.setCell ⟨ab, p * 4, none⟩ (.int .u64 (f 0))).setCell ⟨ab, p * 4 + 1, none⟩ (.int .u64 (f 1))).setCell ⟨ab, p * 4 + 2, none⟩ (.int .u64 (f 2))).setCell ⟨ab, p * 4 + 3, none⟩ (.int .u64 (f 3))) ∧
    KpL W0.heap.size ab mb W ((((V.setCell ⟨ab, p * 4, none⟩ (.int .u64 (f 0))).setCell ⟨ab, p * 4 + 1, none⟩ (.int .u64 (f 1))).setCell ⟨ab, p * 4 + 2, none⟩ (.int .u64 (f 2))).setCell ⟨ab, p * 4 + 3, none⟩ (.int .u64 (f 3))) ∧
    ∃ S' b', LvJ w W0 ab mb l rg m lk X R (pre ++ [y]) ((((V.setCell ⟨ab, p * 4, none⟩ (.int .u64 (f 0))).setCell ⟨ab, p * 4 + 1, none⟩ (.int .u64 (f 1))).setCell ⟨ab, p * 4 + 2, none⟩ (.int .u64 (f 2))).setCell ⟨ab, p * 4 + 3, none⟩ (.int .u64 (f 3))) S' b' := by
  subst hp
  have hput := hN.row.put y.1 f
  have hoth : ∀ k, k ≠ ab → ((((V.setCell ⟨ab, y.1 * 4, none⟩ (.int .u64 (f 0))).setCell ⟨ab, y.1 * 4 + 1, none⟩ (.int .u64 (f 1))).setCell ⟨ab, y.1 * 4 + 2, none⟩ (.int .u64 (f 2))).setCell ⟨ab, y.1 * 4 + 3, none⟩ (.int .u64 (f 3))).heap[k]? = V.heap[k]? := fun k hk => by
    have e : ∀ (Z : World) (q : Nat) (u : Value), (Z.setCell ⟨ab, q, none⟩ u).heap[k]? = Z.heap[k]? := fun Z q u => Below.heap_setCell _ _ _ _ (fun x => hk (by simpa using x))
    rw [e, e, e, e]
  have hko : KeepsOthers V ((((V.setCell ⟨ab, y.1 * 4, none⟩ (.int .u64 (f 0))).setCell ⟨ab, y.1 * 4 + 1, none⟩ (.int .u64 (f 1))).setCell ⟨ab, y.1 * 4 + 2, none⟩ (.int .u64 (f 2))).setCell ⟨ab, y.1 * 4 + 3, none⟩ (.int .u64 (f 3))) := (((KeepsOthers.setCell V _ _).trans (KeepsOthers.setCell _ _ _)).trans (KeepsOthers.setCell _ _ _)).trans (KeepsOthers.setCell _ _ _)
  have hlow := (((hN.low.setCell (p := ⟨ab, y.1 * 4, none⟩) hN.row.lt.1 (.int .u64 (f 0))).setCell (p := ⟨ab, y.1 * 4 + 1, none⟩) hN.row.lt.1 (.int .u64 (f 1))).setCell (p := ⟨ab, y.1 * 4 + 2, none⟩) hN.row.lt.1 (.int .u64 (f 2))).setCell (p := ⟨ab, y.1 * 4 + 3, none⟩) hN.row.lt.1 (.int .u64 (f 3))
  have hkp : KpL W0.heap.size ab mb V ((((V.setCell ⟨ab, y.1 * 4, none⟩ (.int .u64 (f 0))).setCell ⟨ab, y.1 * 4 + 1, none⟩ (.int .u64 (f 1))).setCell ⟨ab, y.1 * 4 + 2, none⟩ (.int .u64 (f 2))).setCell ⟨ab, y.1 * 4 + 3, none⟩ (.int .u64 (f 3))) := ⟨hko.size, fun k _ h1 _ => hoth k h1⟩
  have hmor := (hoth mb hm).trans hN.mor
  have key : pre ++ [y] = bckF l (pre ++ [y]).length → (pre ++ [y]).length ≤ l → PasS X l rg m lk R S (l - pre.length) b ∧ l - pre.length = y.1 + 1 ∧ l - (pre ++ [y]).length = y.1 := fun e hle => by
    rw [List.length_append, List.length_singleton] at e hle ⊢
    have hb := bckF_succ (l := l) (k := pre.length) (p := ⟨l - 1 - pre.length, by omega⟩) (by omega) rfl
    rw [hb] at e
    obtain ⟨e1, e2⟩ := List.append_inj' e rfl
    simp only [List.cons.injEq, and_true] at e2
    have hy : y.1 = l - 1 - pre.length := by rw [e2]
    exact ⟨hJ.pas e1 (by omega), by omega, by omega⟩
  refine ⟨hN.kf.trans (hko.from _), kpL_t hN.kp hkp, ?_⟩
  by_cases he : eqS f (S y.1)
  · have hvb : v = b := by
      rw [hv]
      have : neS f (S y.1) = false := by
        cases hn : neS f (S y.1) with
        | false => rfl
        | true => exact absurd he (neS_true.1 hn)
      rw [this, Bool.or_false]
    rw [hvb] at hmor
    refine ⟨S, b, rowZ_same hput he, hmor, hJ.w64, hlow, kpL_t hJ.kp (kpL_t hN.kp hkp), fun e hle => ?_⟩
    obtain ⟨h1, h2, h3⟩ := key e hle
    rw [h3]
    rw [h2] at h1
    exact h1.stay (by rw [hf]; exact he)
  · have hvb : v = true := by
      rw [hv, neS_true.2 he, Bool.or_true]
    rw [hvb] at hmor
    refine ⟨putS S y.1 f, true, hput, hmor, fun j => ?_, hlow, kpL_t hJ.kp (kpL_t hN.kp hkp), fun e hle => ?_⟩
    · unfold putS
      split
      · rw [← hf]; exact W64.nF hJ.w64
      · exact hJ.w64 j
    · obtain ⟨h1, h2, h3⟩ := key e hle
      rw [h3]
      rw [h2] at h1
      rw [← hf]
      exact h1.turn hok (by rw [hf]; exact he)
end
attribute [local go_sem] eqSt
set_option maxRecDepth 100000 in
set_option maxHeartbeats 6400000 in
theorem liveAhead_any (w : World) (ca : Option Addr) (l cc : Nat) (X : Nat → Nat → Int) (rg m lk : Nat) (hl : l ≤ 1000) (hrg : rg ≤ 200) (hord : ∀ i, i < l → OrdAt w ca i (X i 0) (X i 1) (X i 2) (X i 3)) (hok : ∀ i, i < l → ordE rg m lk l (X i 0) (X i 1) (X i 2) (X i 3) = 0) :
    Calls Tryd.prog 28 #[.slice ca l cc] w fun e w' => ∃ ab S, e = .returned (.slice (some ⟨ab, 0, none⟩) (l + 1) (l + 1)) ∧ RowZ w' w.heap.size ab (l + 1) S ∧ (∀ j, W64 (S j)) ∧ (∀ i r, has (S i) r = true ↔ Lv X l r i) ∧ Below w.heap.size w w' := by
  obtain ⟨w1, hrun1, hR1, hB1⟩ := sets_start w (l + 1) (by omega)
  have hlx : ((l : Int) + 1) = ((l + 1 : Nat) : Int) := by omega
  rw [← hlx] at hrun1
  have HORD := Hid.out (p := Hid _) hord
  have HOK := Hid.out (p := Hid _) hok
  obtain ⟨BIG, hBIG⟩ : ∃ B, B = l * 73786976294838206464 := ⟨_, rfl⟩
  have HBG : Hid (∀ S, (∀ j, W64 (S j)) → sumB S l ≤ BIG) := fun S hS => by rw [hBIG]; exact sumS_le hS l
  obtain ⟨lo, hlo⟩ : ∃ b, w1.heap.size + 2 = b := ⟨_, rfl⟩
  have HIN : Hid (LvO w w.heap.size w1.heap.size lo l rg m lk X (w1.heap.size + 1) true (fun _ => noS) [] ((w1.alloc (.cells #[.slice (some ⟨w.heap.size, 0, none⟩) (l + 1) (l + 1)] 62)).alloc (.cells #[.bool true] 4))) := by
    have hlt := hR1.lt.2
    have h2 := heap_alloc_new (w1.alloc (.cells #[.slice (some ⟨w.heap.size, 0, none⟩) (l + 1) (l + 1)] 62)) (.cells #[.bool true] 4)
    rw [World.size_alloc] at h2
    refine ⟨?_, box_later (heap_alloc_new w1 _) _, h2, ⟨by omega, by omega, by omega, by omega⟩, (hB1.alloc hB1.size _).alloc (by have := hB1.size; simp; omega) _, PasS.zero, (fun e => by cases e), List.nodup_nil, (fun D h => by cases h), by omega, by simp; omega⟩
    exact hR1.below ((((Below.refl _ w1).alloc (Nat.le_refl _) _).alloc (by simp) _))
  clear hord hok hR1 hB1 hlx hBIG hlo
  refine (callsIn_wide (n := 5)).1 ?_
  refine callsIn_of_wp_marks Tryd.func28 rfl trivial ?_ rfl
  simp only [Tryd.ntmps28, List.size_toArray, List.length_cons, List.length_nil, Nat.reduceAdd, Nat.reduceSub, Array.replicate_succ, Array.replicate_zero, List.push_toArray, List.append_toArray, List.nil_append, List.cons_append]
  gi_wp2
  obtain ⟨V0, hV0⟩ : ∃ V, ((w1.alloc (.cells #[.slice (some ⟨w.heap.size, 0, none⟩) (l + 1) (l + 1)] 62)).alloc (.cells #[.bool true] 4)) = V := ⟨_, rfl⟩
  obtain ⟨b3, hb3⟩ : ∃ b, w1.heap.size = b := ⟨_, rfl⟩
  rw [hV0, hb3] at HIN
  rw [hV0, hb3]
  clear hV0 hrun1 hb3
  refine wpIn_loop_ghost_k (fun gk a' wr => ∃ (mb : Nat) (b : Bool) (S : Nat → Nat → Nat) (Ds : List Nat), ∃ u5 u6 u7 u12 u13 u14 u17 u18 u19 u20 u21 u22 u23 u24 u25 u26 u27 u28 u29 u30 u31 u32 u33 u34 u35 u36 : Value, a' = { tmps := #[.slice ca l cc, undef, .slice none 0 0, .pointer (some ⟨b3, 0, none⟩), .pointer (some ⟨mb, 0, none⟩), u5, u6, u7, .slice ca l cc, .int .i64 (l : Int), .int .i64 ((l : Int) + 1), .slice (some ⟨w.heap.size, 0, none⟩) (l + 1) (l + 1), u12, u13, u14, undef, undef, u17, u18, u19, u20, u21, u22, u23, u24, u25, u26, u27, u28, u29, u30, u31, u32, u33, u34, u35, u36, undef], defers := Ds.map mkD } ∧ Hid (LvO w w.heap.size b3 lo l rg m lk X mb b S Ds wr ∧ gk = if b then 1 + (BIG - sumB S l) else 0)) (1 + BIG) ?_ ?_
  · refine ⟨b3 + 1, true, fun _ => noS, [], _, _, _, _, _, _, _, _, _, _, _, _, _, _, _, _, _, _, _, _, _, _, _, _, _, _, rfl, HIN.out, ?_⟩
    rw [sumS_zero l]
    rfl
  · rintro gk a wr ⟨mb, b, S, Ds, u5, u6, u7, u12, u13, u14, u17, u18, u19, u20, u21, u22, u23, u24, u25, u26, u27, u28, u29, u30, u31, u32, u33, u34, u35, u36, rfl, HI⟩ J K hJ hK
    have HJ := Hid.out (p := Hid _) hJ
    clear HIN hJ
    have hmor := HI.out.1.mor
    have hm0 := (box_cell (i := 0) hmor rfl)
    have hmf := box_free (i := 0) hmor
    clear hmor
    cases b with
    | true =>
      gi_wp2
      refine ⟨trivial, (bckF_in Fence.wide 4 trivial rfl ca l cc _).mono ?_⟩
      rintro e w' ⟨rfl, rfl⟩
      gi_wp2
      obtain ⟨W0, hW0⟩ : ∃ W0, (wr.setCell ⟨mb, 0, none⟩ (.bool false)).alloc (.cells #[.slice ca l cc] 36) = W0 := ⟨_, rfl⟩
      obtain ⟨hs0, hBs, hB3, hJ0⟩ := lvJ_begin HI.out.1 _ hW0
      have hbw : Below w.heap.size w W0 := hJ0.low
      have hBc := box_cell (i := 0) hBs rfl
      have hlo := HI.out.1.low.size
      obtain ⟨m1, m2, m3, m4⟩ := HI.out.1.mbn
      have hmlt : mb < wr.heap.size := lt_of_cell hm0
      rw [hW0]
      have HB3 := Hid.out (p := Hid _) hB3
      have HMB := Hid.out (p := Hid _) (And.intro m1 (And.intro m2 (And.intro m3 m4)))
      have HS0 := Hid.out (p := Hid _) hs0
      have HLT := Hid.out (p := Hid _) (And.intro hlo hmlt)
      clear hm0 hmf
      refine wpIn_rangeFunc_ownH (F := Fence.wide) (n := 5) rfl (by omega) (gf := 83) (lb := #[.pointer (some ⟨wr.heap.size, 0, none⟩)]) rfl trivial (enters_of Tryd.func83 (by kernel_rfl) rfl)
        (bckF_stops Fence.wide 4 trivial rfl (by omega) wr.heap.size W0.heap.size w.heap.size mb ca cc X l hl W0 hBc ⟨by omega, by have := HI.out.1.row.lt.2; omega, by omega⟩ (Nat.le_refl _) (fun p hp => (HORD.out p hp).below hbw) (fun b o e h0 => by
          obtain ⟨b', o', e', c0, _⟩ := HORD.out 0 h0
          rw [e] at e'
          simp only [Option.some.injEq, Addr.mk.injEq, and_true] at e'
          have := lt_of_cell c0
          simp only at this
          omega))
        kpL_t (kpL_b (Nat.le_refl _)) (Below.refl _ _) (fun _ => rfl)
        (fun pre W => ∃ S' b', LvJ w W0 w.heap.size mb l rg m lk X S pre W S' b')
        (fun _ _ _ => False)
        (lvJ_own (by omega))
        (fun c s A B row hs _ _ => hs)
        ⟨S, false, hJ0⟩
        (fun y a' W => ∃ Bx : Nat, (W.cell? ⟨Bx, 0, none⟩ = some (.int .i64 (X y.1 0)) ∧ W.cell? ⟨Bx, 1, none⟩ = some (.int .i64 (X y.1 1)) ∧ W.cell? ⟨Bx, 2, none⟩ = some (.int .i64 (X y.1 2)) ∧ W.cell? ⟨Bx, 3, none⟩ = some (.int .i64 (X y.1 3))) ∧ a' = { tmps := #[.slice ca l cc, undef, .slice none 0 0, .pointer (some ⟨b3, 0, none⟩), .pointer (some ⟨mb, 0, none⟩), .int .i64 (y.1 : Int), .pointer (some ⟨Bx, 0, none⟩), u7, .slice ca l cc, .int .i64 (l : Int), .int .i64 ((l : Int) + 1), .slice (some ⟨w.heap.size, 0, none⟩) (l + 1) (l + 1), .bool true, .slice ca l cc, .func (.func 83) #[] #[.pointer (some ⟨wr.heap.size, 0, none⟩)], .int .i64 (y.1 : Int), ints4 (X y.1 0) (X y.1 1) (X y.1 2) (X y.1 3), u17, u18, u19, u20, u21, u22, u23, u24, u25, u26, u27, u28, u29, u30, u31, u32, u33, u34, u35, u36, undef], defers := [] })
        (fun y a' => Own.from (fun s A B row hs hg hr => by obtain ⟨Bx, ⟨h1, h2, h3, h4⟩, h5⟩ := hs; exact ⟨Bx, ⟨cell_kept h1 hg hr, cell_kept h2 hg hr, cell_kept h3 hg hr, cell_kept h4 hg hr⟩, h5⟩) _) ?assign ?body ?done ?stop
      case assign =>
        rintro lp pre y W K' hJW hK'
        clear hBs hBc hW0 hJ0 hs0 hB3
        simp only [orV] at hK' ⊢
        gi_wp2
        have hbA : Below W.heap.size W (W.alloc (.cells #[.int .i64 (X y.1 0), .int .i64 (X y.1 1), .int .i64 (X y.1 2), .int .i64 (X y.1 3)] 55)) := (Below.refl _ _).alloc (Nat.le_refl _) _
        have hn := heap_alloc_new W (.cells #[.int .i64 (X y.1 0), .int .i64 (X y.1 1), .int .i64 (X y.1 2), .int .i64 (X y.1 3)] 55)
        obtain ⟨S', b', hJ'⟩ := hJW
        exact hK' _ _ ((KeepsOthers.alloc W _).from _) (KpL.of_below hbA hJ'.kp.size) ⟨S', b', hJ'.below hbA⟩ ⟨W.heap.size, ⟨box_cell hn rfl, box_cell hn rfl, box_cell hn rfl, box_cell hn rfl⟩, rfl⟩
      case body =>
        rintro lp pre y a' W hlp hlr ⟨S', b', hJW⟩ ⟨Bx, ⟨o0, o1, o2, o3⟩, rfl⟩ hN
        have hpl := y.2
        obtain ⟨p, hp⟩ : ∃ p, y.1 = p := ⟨_, rfl⟩
        rw [hp] at o0 o1 o2 o3 hpl
        rw [hp]
        have hok := HOK.out p hpl
        have HPY := Hid.out (p := Hid _) hp
        have HBH : Hid (∀ V, Below W.heap.size W V → Calls Tryd.prog 51 #[ints4 (X p 0) (X p 1) (X p 2) (X p 3), .int .i64 p, .slice (some ⟨w.heap.size, 0, none⟩) (l + 1) (l + 1)] V fun e w' => e = .returned (setV (bhF X S' p)) ∧ Below V.heap.size V w') := fun V hV => behind_any V _ _ _ _ p w.heap.size (l + 1) (l + 1) S' (hJW.row.sets.below hV) hJW.w64 (fun j hj => Nat.lt_succ_of_le (ok_nx hpl hok j hj)) (by omega) (fun e => ((ok_lead hok).1 e).1) (fun e => ((ok_lead hok).2 e).1)
        have HND : Hid (∀ V, Calls Tryd.prog 50 #[ints4 (X p 0) (X p 1) (X p 2) (X p 3), setV (bhF X S' p)] V fun e w' => e = .returned (setV (nF X S' p)) ∧ Below V.heap.size V w') := fun V => needed_any V _ _ _ _ rg m lk l (bhF X S' p) (W64.bhF hJW.w64) hok hrg
        obtain ⟨g8, hg8⟩ : ∃ g, bhF X S' p = g := ⟨_, rfl⟩
        obtain ⟨f, hf⟩ : ∃ g, nF X S' p = g := ⟨_, rfl⟩
        have HF := Hid.out (p := Hid _) hf
        rw [hg8] at HBH HND
        rw [hf] at HND
        obtain ⟨x0, hx0⟩ : ∃ v, X p 0 = v := ⟨_, rfl⟩
        obtain ⟨x1, hx1⟩ : ∃ v, X p 1 = v := ⟨_, rfl⟩
        obtain ⟨x2, hx2⟩ : ∃ v, X p 2 = v := ⟨_, rfl⟩
        obtain ⟨x3, hx3⟩ : ∃ v, X p 3 = v := ⟨_, rfl⟩
        rw [hx0, hx1, hx2, hx3] at HBH HND
        rw [hx0, hx1, hx2, hx3]
        rw [hx0] at o0
        rw [hx1] at o1
        rw [hx2] at o2
        rw [hx3] at o3
        have hb3c : W.cell? ⟨b3, 0, none⟩ = some (.slice (some ⟨w.heap.size, 0, none⟩) (l + 1) (l + 1)) := by
          have h1 := HB3.out
          have hlt : b3 < W0.heap.size := (Array.getElem?_eq_some_iff.1 h1).1
          exact box_cell (i := 0) ((hJW.kp.block b3 hlt HMB.out.2.2.2 (fun e => HMB.out.2.2.1 e.symm)).trans h1) rfl
        have HBX : Hid (Bx < W.heap.size) := lt_of_cell o0
        have HB3L : Hid (b3 < W.heap.size) := lt_of_cell hb3c
        have HJW := Hid.out (p := Hid _) hJW
        have hmor := hJW.mor
        have hm0 := box_cell (i := 0) hmor rfl
        have HPL := Hid.out (p := Hid _) hpl
        clear hok hp hg8 hf hx0 hx1 hx2 hx3 hJW hmor hlr hN hlp hBs hBc hW0 hJ0 hs0 hB3 hpl
        gi_wp2
        refine region_held_round (S := fun w' : World => Below W.heap.size W w') (by kernel_rfl) (by kernel_rfl) (fun ⟨_, _, h⟩ => h) ((Below.refl _ _).drew) (fun hHeld => ?_)
        try simp only [Act.put, List.setIfInBounds_toArray, List.set_cons_zero, List.set_cons_succ, List.getElem_toArray, List.getElem_cons_succ, List.getElem_cons_zero]
        refine wpAnyH_take (i := 0) (v := ints4 x0 x1 x2 x3) rfl (by kernel_rfl) (by kernel_rfl) (by kernel_rfl) (fun _ _ _ h => h) (Or.inl ⟨by rfl, by intro w' hSw; have e0 := (hSw.cell (p := ⟨Bx, 0, none⟩) HBX.out).trans o0; have e1 := (hSw.cell (p := ⟨Bx, 1, none⟩) HBX.out).trans o1; have e2 := (hSw.cell (p := ⟨Bx, 2, none⟩) HBX.out).trans o2; have e3 := (hSw.cell (p := ⟨Bx, 3, none⟩) HBX.out).trans o3; first | (go_simp; done) | (go_simp; with_reducible rfl)⟩) (by assumption) ?_
        try simp only [Act.put, List.setIfInBounds_toArray, List.set_cons_zero, List.set_cons_succ, List.getElem_toArray, List.getElem_cons_zero]
        refine wpAnyH_take (i := 1) (v := ints4 x0 x1 x2 x3) rfl (by kernel_rfl) (by kernel_rfl) (by kernel_rfl) (fun _ _ _ h => h) (Or.inl ⟨by rfl, by intro w' hSw; have e0 := (hSw.cell (p := ⟨Bx, 0, none⟩) HBX.out).trans o0; have e1 := (hSw.cell (p := ⟨Bx, 1, none⟩) HBX.out).trans o1; have e2 := (hSw.cell (p := ⟨Bx, 2, none⟩) HBX.out).trans o2; have e3 := (hSw.cell (p := ⟨Bx, 3, none⟩) HBX.out).trans o3; first | (go_simp; done) | (go_simp; with_reducible rfl)⟩) (by assumption) ?_
        try simp only [Act.put, List.setIfInBounds_toArray, List.set_cons_zero, List.set_cons_succ, List.getElem_toArray, List.getElem_cons_succ, List.getElem_cons_zero]
        refine wpAnyH_take (i := 2) (v := .int .i64 (p : Int)) rfl (by kernel_rfl) (by kernel_rfl) (by kernel_rfl) (fun _ _ _ h => h) (Or.inl ⟨by rfl, by intro w' hSw; first | (go_simp; done) | (go_simp; with_reducible rfl)⟩) (by assumption) ?_
        try simp only [Act.put, List.setIfInBounds_toArray, List.set_cons_zero, List.set_cons_succ, List.getElem_toArray, List.getElem_cons_succ, List.getElem_cons_zero]
        refine wpAnyH_take (i := 3) (v := .slice (some ⟨w.heap.size, 0, none⟩) (l + 1) (l + 1)) rfl (by kernel_rfl) (by kernel_rfl) (by kernel_rfl) (fun _ _ _ h => h) (Or.inl ⟨by rfl, by intro w' hSw; have e0 := (hSw.cell (p := ⟨b3, 0, none⟩) HB3L.out).trans hb3c; first | (go_simp; done) | (go_simp; with_reducible rfl)⟩) (by assumption) ?_
        try simp only [Act.put, List.setIfInBounds_toArray, List.set_cons_zero, List.set_cons_succ, List.getElem_toArray, List.getElem_cons_succ, List.getElem_cons_zero]
        refine wpAnyH_ready (rs := [4, 6]) (by kernel_rfl) (by simp) (AllReadyH.cons rfl (fun K hK => ?_) (AllReadyH.cons rfl (fun K hK => ?_) AllReadyH.nil))
        · go_simp
          refine Calls.mono (HBH.out _ hHeld) ?_
          rintro e w2 ⟨rfl, hb2⟩
          have hS2 : Below W.heap.size W w2 := hHeld.trans (hb2.mono hHeld.size)
          clear hb2
          go_wp2_with fail
          refine hK.out _ _ hS2 (fun _ => ?_)
          clear hK K
          try simp only [Act.put, List.setIfInBounds_toArray, List.set_cons_zero, List.set_cons_succ, List.getElem_toArray, List.getElem_cons_succ, List.getElem_cons_zero]
          refine wpAnyH_ready (rs := [5, 6]) (by kernel_rfl) (by simp) (AllReadyH.cons rfl (fun K hK => ?_) (AllReadyH.cons rfl (fun K hK => ?_) AllReadyH.nil))
          · go_simp
            refine Calls.mono (HND.out _) ?_
            rintro e w3 ⟨rfl, hb3⟩
            have hS3 : Below W.heap.size W w3 := hS2.trans (hb3.mono hS2.size)
            clear hb3
            go_wp2_with fail
            refine hK.out _ _ hS3 (fun _ => ?_)
            clear hK K
            try simp only [Act.put, List.setIfInBounds_toArray, List.set_cons_zero, List.set_cons_succ, List.getElem_toArray, List.getElem_cons_succ, List.getElem_cons_zero]
            refine wpAnyH_ready (rs := [6]) (by kernel_rfl) (by simp) (AllReadyH.cons rfl (fun K hK => ?_) AllReadyH.nil)
            go_simp
            have hS4 := Below.alloc hS3 hS3.size (setO noS)
            have hz := heap_alloc_new w3 (setO noS)
            refine hK.out _ _ hS4 (fun _ => ?_)
            clear hK K
            try simp only [Act.put, List.setIfInBounds_toArray, List.set_cons_zero, List.set_cons_succ, List.getElem_toArray, List.getElem_cons_succ, List.getElem_cons_zero]
            refine wpAnyH_ready (rs := [7]) (by kernel_rfl) (by simp) (AllReadyH.cons rfl (fun K hK => ?_) AllReadyH.nil)
            go_simp
            have hn8 : (w3.alloc (setO f)).heap[w3.heap.size]? = some (setO f) := heap_alloc_new w3 (setO f)
            have hS8 : Below W.heap.size W (w3.alloc (setO f)) := Below.alloc hS3 hS3.size (setO f)
            have hBn0 : W.heap.size ≤ w3.heap.size := hS3.size
            refine hK.out _ _ hS8 (fun _ => ?_)
            clear hK K
            try simp only [Act.put, List.setIfInBounds_toArray, List.set_cons_zero, List.set_cons_succ, List.getElem_toArray, List.getElem_cons_succ, List.getElem_cons_zero]
            refine wpAnyH_done (by kernel_rfl) ?_ _
            obtain ⟨V8, hV8⟩ : ∃ V, w3.alloc (setO f) = V := ⟨_, rfl⟩
            obtain ⟨Bn, hBn'⟩ : ∃ B, w3.heap.size = B := ⟨_, rfl⟩
            rw [hV8] at hn8 hS8
            have hBn : W.heap.size ≤ Bn := by rw [← hBn']; exact hBn0
            clear hBn0
            rw [hBn'] at hn8
            rw [hV8, hBn']
            clear hV8 hBn'
            have HV8 : Hid (V8.heap[Bn]? = some (setO f) ∧ Below W.heap.size W V8 ∧ Bn < V8.heap.size ∧ mb < V8.heap.size ∧ W.heap.size ≤ Bn) := ⟨hn8, hS8, (Array.getElem?_eq_some_iff.1 hn8).1, Nat.lt_of_lt_of_le (lt_of_cell hm0) hS8.size, hBn⟩
            have hm8 := (hS8.cell (p := ⟨mb, 0, none⟩) (lt_of_cell hm0)).trans hm0
            have hb8 := (hS8.cell (p := ⟨b3, 0, none⟩) HB3L.out).trans hb3c
            have HB8 : Hid (b3 < V8.heap.size) := lt_of_cell hb8
            obtain ⟨n0, n1, n2, n3⟩ := set_lay hn8
            obtain ⟨r0, r1, r2, r3⟩ := HJW.out.row.below hS8 |>.sets p (by have := HPL.out; omega)
            have HR8 : Hid (w.heap.size < V8.heap.size) := lt_of_cell r0
            have HNE : Hid (Bn ≠ mb ∧ b3 ≠ mb ∧ w.heap.size ≠ mb) := ⟨fun e => by have h1 := HV8.out.2.2.2.2; have h2 := lt_of_cell hm0; simp only at h2; omega, fun e => HMB.out.2.2.1 e.symm, fun e => HMB.out.2.1 e.symm⟩
            have hpi : (p : Int) < (l : Int) + 1 := by have := HPL.out; omega
            have hm8f : V8.drew.frozen? ⟨mb, 0, none⟩ = false := by
              have h1 : V8.heap[mb]? = _ := (hS8.block mb (lt_of_cell hm0)).trans HJW.out.mor
              exact box_free (w := V8.drew) (i := 0) h1
            clear hn8 hS8 hBn
            gi_wp2
            cases b' with
            | true =>
              refine region_held_round (S := fun w' : World => KpL V8.heap.size mb mb V8 w') (by kernel_rfl) (by kernel_rfl) (fun ⟨_, _, h⟩ => h) (KpL.of_below ((Below.refl V8.heap.size V8).drew) (Nat.le_refl _)) (fun hHeld9 => ?_)
              try simp only [Act.put, List.setIfInBounds_toArray, List.set_cons_zero, List.set_cons_succ, List.getElem_toArray, List.getElem_cons_succ, List.getElem_cons_zero]
              refine wpAnyH_ready (rs := [0]) (by kernel_rfl) (by simp) (AllReadyH.cons rfl (fun K hK => ?_) AllReadyH.nil)
              go_simp
              refine hK.out _ _ hHeld9 (fun _ => ?_)
              clear hK K
              try simp only [Act.put, List.setIfInBounds_toArray, List.set_cons_zero, List.set_cons_succ, List.getElem_toArray, List.getElem_cons_succ, List.getElem_cons_zero]
              refine wpAnyH_take (i := 1) (v := .bool true) rfl (by kernel_rfl) (by kernel_rfl) (by kernel_rfl) (fun _ _ _ h => h) (Or.inl ⟨by rfl, by intro w' hSw; first | (go_simp; done) | (go_simp; with_reducible rfl)⟩) (by assumption) ?_
              try simp only [Act.put, List.setIfInBounds_toArray, List.set_cons_zero, List.set_cons_succ, List.getElem_toArray, List.getElem_cons_succ, List.getElem_cons_zero]
              refine wpAnyH_take (i := 2) (v := undef) rfl (by kernel_rfl) (by kernel_rfl) (by kernel_rfl) (fun _ _ _ h => h) (Or.inr ⟨by rfl, rfl⟩) (by assumption) ?_
              try simp only [Act.put, List.setIfInBounds_toArray, List.set_cons_zero, List.set_cons_succ, List.getElem_toArray, List.getElem_cons_succ, List.getElem_cons_zero]
              refine wpAnyH_take (i := 3) (v := undef) rfl (by kernel_rfl) (by kernel_rfl) (by kernel_rfl) (fun _ _ _ h => h) (Or.inr ⟨by rfl, rfl⟩) (by assumption) ?_
              try simp only [Act.put, List.setIfInBounds_toArray, List.set_cons_zero, List.set_cons_succ, List.getElem_toArray, List.getElem_cons_succ, List.getElem_cons_zero]
              refine wpAnyH_take (i := 4) (v := undef) rfl (by kernel_rfl) (by kernel_rfl) (by kernel_rfl) (fun _ _ _ h => h) (Or.inr ⟨by rfl, rfl⟩) (by assumption) ?_
              try simp only [Act.put, List.setIfInBounds_toArray, List.set_cons_zero, List.set_cons_succ, List.getElem_toArray, List.getElem_cons_succ, List.getElem_cons_zero]
              refine wpAnyH_take (i := 5) (v := undef) rfl (by kernel_rfl) (by kernel_rfl) (by kernel_rfl) (fun _ _ _ h => h) (Or.inr ⟨by rfl, rfl⟩) (by assumption) ?_
              try simp only [Act.put, List.setIfInBounds_toArray, List.set_cons_zero, List.set_cons_succ, List.getElem_toArray, List.getElem_cons_succ, List.getElem_cons_zero]
              refine wpAnyH_take (i := 6) (v := undef) rfl (by kernel_rfl) (by kernel_rfl) (by kernel_rfl) (fun _ _ _ h => h) (Or.inr ⟨by rfl, rfl⟩) (by assumption) ?_
              try simp only [Act.put, List.setIfInBounds_toArray, List.set_cons_zero, List.set_cons_succ, List.getElem_toArray, List.getElem_cons_succ, List.getElem_cons_zero]
              refine wpAnyH_take (i := 7) (v := undef) rfl (by kernel_rfl) (by kernel_rfl) (by kernel_rfl) (fun _ _ _ h => h) (Or.inr ⟨by rfl, rfl⟩) (by assumption) ?_
              try simp only [Act.put, List.setIfInBounds_toArray, List.set_cons_zero, List.set_cons_succ, List.getElem_toArray, List.getElem_cons_succ, List.getElem_cons_zero]
              refine wpAnyH_take (i := 8) (v := .bool true) rfl (by kernel_rfl) (by kernel_rfl) (by kernel_rfl) (fun _ _ _ h => h) (Or.inl ⟨by rfl, by intro w' hSw; first | (go_simp; done) | (go_simp; with_reducible rfl)⟩) (by assumption) ?_
              try simp only [Act.put, List.setIfInBounds_toArray, List.set_cons_zero, List.set_cons_succ, List.getElem_toArray, List.getElem_cons_succ, List.getElem_cons_zero]
              refine wpAnyH_ready (rs := [9]) (by kernel_rfl) (by simp) (AllReadyH.cons rfl (fun K hK => ?_) AllReadyH.nil)
              go_simp
              have hN9 : LvN w W0 W w.heap.size b3 mb l Bn S' f true (V8.setCell ⟨mb, 0, none⟩ (.bool true)).drew := lvN_of HJW.out ⟨HMB.out.1, HMB.out.2.1, HMB.out.2.2.1⟩ hb3c HV8.out.2.1 HV8.out.1 HV8.out.2.2.2.2 true
              refine hK.out _ _ (KpL.put hHeld9 _) (fun _ => ?_)
              clear hK K
              try simp only [Act.put, List.setIfInBounds_toArray, List.set_cons_zero, List.set_cons_succ, List.getElem_toArray, List.getElem_cons_succ, List.getElem_cons_zero]
              refine wpAnyH_done (by kernel_rfl) ?_ _
              obtain ⟨V9, hV9⟩ : ∃ V, (V8.setCell ⟨mb, 0, none⟩ (.bool true)).drew = V := ⟨_, rfl⟩
              rw [hV9] at hN9
              rw [hV9]
              have HN9 := Hid.out (p := Hid _) hN9
              have hb9 := hN9.box
              obtain ⟨n90, n91, n92, n93⟩ := set_lay hN9.new
              obtain ⟨r90, r91, r92, r93⟩ := hN9.row.sets p (by have := HPL.out; omega)
              have hfr := hN9.row.free
              have fr0 := hfr (p * 4)
              have fr1 := hfr (p * 4 + 1)
              have fr2 := hfr (p * 4 + 2)
              have fr3 := hfr (p * 4 + 3)
              clear hV9 hN9 hfr n0 n1 n2 n3 r0 r1 r2 r3 hm8 hb8 hm8f hHeld9
              gi_wp2
              exact lvJ_step HOK.out HJW.out HMB.out.2.1 (by rw [HPY.out]; exact HF.out) (v := true) (by rw [HPY.out]; rfl) HN9.out HPY.out
            | false =>
              refine region_held_round (S := fun w' : World => KpL V8.heap.size mb mb V8 w') (by kernel_rfl) (by kernel_rfl) (fun ⟨_, _, h⟩ => h) (KpL.of_below ((Below.refl V8.heap.size V8).drew) (Nat.le_refl _)) (fun hHeld9 => ?_)
              try simp only [Act.put, List.setIfInBounds_toArray, List.set_cons_zero, List.set_cons_succ, List.getElem_toArray, List.getElem_cons_succ, List.getElem_cons_zero]
              refine wpAnyH_ready (rs := [0]) (by kernel_rfl) (by simp) (AllReadyH.cons rfl (fun K hK => ?_) AllReadyH.nil)
              go_simp
              refine hK.out _ _ hHeld9 (fun _ => ?_)
              clear hK K
              try simp only [Act.put, List.setIfInBounds_toArray, List.set_cons_zero, List.set_cons_succ, List.getElem_toArray, List.getElem_cons_succ, List.getElem_cons_zero]
              refine wpAnyH_take (i := 1) (v := .bool false) rfl (by kernel_rfl) (by kernel_rfl) (by kernel_rfl) (fun _ _ _ h => h) (Or.inl ⟨by rfl, by intro w' hSw; first | (go_simp; done) | (go_simp; with_reducible rfl)⟩) (by assumption) ?_
              try simp only [Act.put, List.setIfInBounds_toArray, List.set_cons_zero, List.set_cons_succ, List.getElem_toArray, List.getElem_cons_succ, List.getElem_cons_zero]
              refine wpAnyH_take (i := 2) (v := setV f) rfl (by kernel_rfl) (by kernel_rfl) (by kernel_rfl) (fun _ _ _ h => h) (Or.inl ⟨by rfl, by intro w' hSw; have e0 := hSw.cell n0 HV8.out.2.2.1 HNE.out.1 HNE.out.1; have e1 := hSw.cell n1 HV8.out.2.2.1 HNE.out.1 HNE.out.1; have e2 := hSw.cell n2 HV8.out.2.2.1 HNE.out.1 HNE.out.1; have e3 := hSw.cell n3 HV8.out.2.2.1 HNE.out.1 HNE.out.1; first | (go_simp; done) | (go_simp; with_reducible rfl)⟩) (by assumption) ?_
              try simp only [Act.put, List.setIfInBounds_toArray, List.set_cons_zero, List.set_cons_succ, List.getElem_toArray, List.getElem_cons_succ, List.getElem_cons_zero]
              refine wpAnyH_take (i := 3) (v := .slice (some ⟨w.heap.size, 0, none⟩) (l + 1) (l + 1)) rfl (by kernel_rfl) (by kernel_rfl) (by kernel_rfl) (fun _ _ _ h => h) (Or.inl ⟨by rfl, by intro w' hSw; have e0 := hSw.cell hb8 HB8.out HNE.out.2.1 HNE.out.2.1; first | (go_simp; done) | (go_simp; with_reducible rfl)⟩) (by assumption) ?_
              try simp only [Act.put, List.setIfInBounds_toArray, List.set_cons_zero, List.set_cons_succ, List.getElem_toArray, List.getElem_cons_succ, List.getElem_cons_zero]
              refine wpAnyH_take (i := 4) (v := .int .i64 (p : Int)) rfl (by kernel_rfl) (by kernel_rfl) (by kernel_rfl) (fun _ _ _ h => h) (Or.inl ⟨by rfl, by intro w' hSw; first | (go_simp; done) | (go_simp; with_reducible rfl)⟩) (by assumption) ?_
              try simp only [Act.put, List.setIfInBounds_toArray, List.set_cons_zero, List.set_cons_succ, List.getElem_toArray, List.getElem_cons_succ, List.getElem_cons_zero]
              refine wpAnyH_take (i := 5) (v := .pointer (some ⟨w.heap.size, p * 4, none⟩)) rfl (by kernel_rfl) (by kernel_rfl) (by kernel_rfl) (fun _ _ _ h => h) (Or.inl ⟨by rfl, by intro w' hSw; first | (go_simp; done) | (go_simp; with_reducible rfl)⟩) (by assumption) ?_
              try simp only [Act.put, List.setIfInBounds_toArray, List.set_cons_zero, List.set_cons_succ, List.getElem_toArray, List.getElem_cons_succ, List.getElem_cons_zero]
              refine wpAnyH_take (i := 6) (v := setV (S' p)) rfl (by kernel_rfl) (by kernel_rfl) (by kernel_rfl) (fun _ _ _ h => h) (Or.inl ⟨by rfl, by intro w' hSw; have e0 := hSw.cell r0 HR8.out HNE.out.2.2 HNE.out.2.2; have e1 := hSw.cell r1 HR8.out HNE.out.2.2 HNE.out.2.2; have e2 := hSw.cell r2 HR8.out HNE.out.2.2 HNE.out.2.2; have e3 := hSw.cell r3 HR8.out HNE.out.2.2 HNE.out.2.2; first | (go_simp; done) | (go_simp; with_reducible rfl)⟩) (by assumption) ?_
              try simp only [Act.put, List.setIfInBounds_toArray, List.set_cons_zero, List.set_cons_succ, List.getElem_toArray, List.getElem_cons_succ, List.getElem_cons_zero]
              refine wpAnyH_take (i := 7) (v := (.bool (neS f (S' p)))) rfl (by kernel_rfl) (by kernel_rfl) (by kernel_rfl) (fun _ _ _ h => h) (Or.inl ⟨by rfl, by intro w' hSw; first | (go_simp; done) | (go_simp; with_reducible rfl)⟩) (by assumption) ?_
              try simp only [Act.put, List.setIfInBounds_toArray, List.set_cons_zero, List.set_cons_succ, List.getElem_toArray, List.getElem_cons_succ, List.getElem_cons_zero]
              refine wpAnyH_take (i := 8) (v := (.bool (neS f (S' p)))) rfl (by kernel_rfl) (by kernel_rfl) (by kernel_rfl) (fun _ _ _ h => h) (Or.inl ⟨by rfl, by intro w' hSw; first | (go_simp; done) | (go_simp; with_reducible rfl)⟩) (by assumption) ?_
              try simp only [Act.put, List.setIfInBounds_toArray, List.set_cons_zero, List.set_cons_succ, List.getElem_toArray, List.getElem_cons_succ, List.getElem_cons_zero]
              refine wpAnyH_ready (rs := [9]) (by kernel_rfl) (by simp) (AllReadyH.cons rfl (fun K hK => ?_) AllReadyH.nil)
              go_simp
              have hN9 : LvN w W0 W w.heap.size b3 mb l Bn S' f (neS f (S' p)) (V8.setCell ⟨mb, 0, none⟩ (.bool (neS f (S' p)))).drew := lvN_of HJW.out ⟨HMB.out.1, HMB.out.2.1, HMB.out.2.2.1⟩ hb3c HV8.out.2.1 HV8.out.1 HV8.out.2.2.2.2 (neS f (S' p))
              refine hK.out _ _ (KpL.put hHeld9 _) (fun _ => ?_)
              clear hK K
              try simp only [Act.put, List.setIfInBounds_toArray, List.set_cons_zero, List.set_cons_succ, List.getElem_toArray, List.getElem_cons_succ, List.getElem_cons_zero]
              refine wpAnyH_done (by kernel_rfl) ?_ _
              obtain ⟨V9, hV9⟩ : ∃ V, (V8.setCell ⟨mb, 0, none⟩ (.bool (neS f (S' p)))).drew = V := ⟨_, rfl⟩
              rw [hV9] at hN9
              rw [hV9]
              have HN9 := Hid.out (p := Hid _) hN9
              have hb9 := hN9.box
              obtain ⟨n90, n91, n92, n93⟩ := set_lay hN9.new
              obtain ⟨r90, r91, r92, r93⟩ := hN9.row.sets p (by have := HPL.out; omega)
              have hfr := hN9.row.free
              have fr0 := hfr (p * 4)
              have fr1 := hfr (p * 4 + 1)
              have fr2 := hfr (p * 4 + 2)
              have fr3 := hfr (p * 4 + 3)
              clear hV9 hN9 hfr n0 n1 n2 n3 r0 r1 r2 r3 hm8 hb8 hm8f hHeld9
              gi_wp2
              exact lvJ_step HOK.out HJW.out HMB.out.2.1 (by rw [HPY.out]; exact HF.out) (v := (neS f (S' p))) (by rw [HPY.out]; rfl) HN9.out HPY.out
          · go_simp
            have hS4 := Below.alloc hS2 hS2.size (setO noS)
            have hz := heap_alloc_new w2 (setO noS)
            refine hK.out _ _ hS4 (fun _ => ?_)
            clear hK K
            try simp only [Act.put, List.setIfInBounds_toArray, List.set_cons_zero, List.set_cons_succ, List.getElem_toArray, List.getElem_cons_succ, List.getElem_cons_zero]
            refine wpAnyH_ready (rs := [5]) (by kernel_rfl) (by simp) (AllReadyH.cons rfl (fun K hK => ?_) AllReadyH.nil)
            go_simp
            refine Calls.mono (HND.out _) ?_
            rintro e w3 ⟨rfl, hb3⟩
            have hS3 : Below W.heap.size W w3 := hS4.trans (hb3.mono hS4.size)
            have hz3 := (hb3.block _ (Array.getElem?_eq_some_iff.1 hz).1).trans hz
            clear hb3
            go_wp2_with fail
            refine hK.out _ _ hS3 (fun _ => ?_)
            clear hK K
            try simp only [Act.put, List.setIfInBounds_toArray, List.set_cons_zero, List.set_cons_succ, List.getElem_toArray, List.getElem_cons_succ, List.getElem_cons_zero]
            obtain ⟨z0, z1, z2, z3⟩ := set_lay hz3
            have zf0 := box_free (i := 0) hz3
            have zf1 := box_free (i := 1) hz3
            have zf2 := box_free (i := 2) hz3
            have zf3 := box_free (i := 3) hz3
            refine wpAnyH_ready (rs := [7]) (by kernel_rfl) (by simp) (AllReadyH.cons rfl (fun K hK => ?_) AllReadyH.nil)
            go_simp
            have hn8 : ((((w3.setCell ⟨w2.heap.size, 0, none⟩ (.int .u64 (f 0))).setCell ⟨w2.heap.size, 1, none⟩ (.int .u64 (f 1))).setCell ⟨w2.heap.size, 2, none⟩ (.int .u64 (f 2))).setCell ⟨w2.heap.size, 3, none⟩ (.int .u64 (f 3))).heap[w2.heap.size]? = some (setO f) := set_store hz3 f
            have hS8 : Below W.heap.size W ((((w3.setCell ⟨w2.heap.size, 0, none⟩ (.int .u64 (f 0))).setCell ⟨w2.heap.size, 1, none⟩ (.int .u64 (f 1))).setCell ⟨w2.heap.size, 2, none⟩ (.int .u64 (f 2))).setCell ⟨w2.heap.size, 3, none⟩ (.int .u64 (f 3))) := below_store hS3 hS2.size _ _ _ _
            have hBn0 : W.heap.size ≤ w2.heap.size := hS2.size
            refine hK.out _ _ hS8 (fun _ => ?_)
            clear hK K
            try simp only [Act.put, List.setIfInBounds_toArray, List.set_cons_zero, List.set_cons_succ, List.getElem_toArray, List.getElem_cons_succ, List.getElem_cons_zero]
            refine wpAnyH_done (by kernel_rfl) ?_ _
            obtain ⟨V8, hV8⟩ : ∃ V, (((w3.setCell ⟨w2.heap.size, 0, none⟩ (.int .u64 (f 0))).setCell ⟨w2.heap.size, 1, none⟩ (.int .u64 (f 1))).setCell ⟨w2.heap.size, 2, none⟩ (.int .u64 (f 2))).setCell ⟨w2.heap.size, 3, none⟩ (.int .u64 (f 3)) = V := ⟨_, rfl⟩
            obtain ⟨Bn, hBn'⟩ : ∃ B, w2.heap.size = B := ⟨_, rfl⟩
            rw [hV8] at hn8 hS8
            have hBn : W.heap.size ≤ Bn := by rw [← hBn']; exact hBn0
            clear hBn0
            rw [hBn'] at hn8
            rw [hV8, hBn']
            clear hV8 hBn'
            have HV8 : Hid (V8.heap[Bn]? = some (setO f) ∧ Below W.heap.size W V8 ∧ Bn < V8.heap.size ∧ mb < V8.heap.size ∧ W.heap.size ≤ Bn) := ⟨hn8, hS8, (Array.getElem?_eq_some_iff.1 hn8).1, Nat.lt_of_lt_of_le (lt_of_cell hm0) hS8.size, hBn⟩
            have hm8 := (hS8.cell (p := ⟨mb, 0, none⟩) (lt_of_cell hm0)).trans hm0
            have hb8 := (hS8.cell (p := ⟨b3, 0, none⟩) HB3L.out).trans hb3c
            have HB8 : Hid (b3 < V8.heap.size) := lt_of_cell hb8
            obtain ⟨n0, n1, n2, n3⟩ := set_lay hn8
            obtain ⟨r0, r1, r2, r3⟩ := HJW.out.row.below hS8 |>.sets p (by have := HPL.out; omega)
            have HR8 : Hid (w.heap.size < V8.heap.size) := lt_of_cell r0
            have HNE : Hid (Bn ≠ mb ∧ b3 ≠ mb ∧ w.heap.size ≠ mb) := ⟨fun e => by have h1 := HV8.out.2.2.2.2; have h2 := lt_of_cell hm0; simp only at h2; omega, fun e => HMB.out.2.2.1 e.symm, fun e => HMB.out.2.1 e.symm⟩
            have hpi : (p : Int) < (l : Int) + 1 := by have := HPL.out; omega
            have hm8f : V8.drew.frozen? ⟨mb, 0, none⟩ = false := by
              have h1 : V8.heap[mb]? = _ := (hS8.block mb (lt_of_cell hm0)).trans HJW.out.mor
              exact box_free (w := V8.drew) (i := 0) h1
            clear hn8 hS8 hBn
            gi_wp2
            cases b' with
            | true =>
              refine region_held_round (S := fun w' : World => KpL V8.heap.size mb mb V8 w') (by kernel_rfl) (by kernel_rfl) (fun ⟨_, _, h⟩ => h) (KpL.of_below ((Below.refl V8.heap.size V8).drew) (Nat.le_refl _)) (fun hHeld9 => ?_)
              try simp only [Act.put, List.setIfInBounds_toArray, List.set_cons_zero, List.set_cons_succ, List.getElem_toArray, List.getElem_cons_succ, List.getElem_cons_zero]
              refine wpAnyH_ready (rs := [0]) (by kernel_rfl) (by simp) (AllReadyH.cons rfl (fun K hK => ?_) AllReadyH.nil)
              go_simp
              refine hK.out _ _ hHeld9 (fun _ => ?_)
              clear hK K
              try simp only [Act.put, List.setIfInBounds_toArray, List.set_cons_zero, List.set_cons_succ, List.getElem_toArray, List.getElem_cons_succ, List.getElem_cons_zero]
              refine wpAnyH_take (i := 1) (v := .bool true) rfl (by kernel_rfl) (by kernel_rfl) (by kernel_rfl) (fun _ _ _ h => h) (Or.inl ⟨by rfl, by intro w' hSw; first | (go_simp; done) | (go_simp; with_reducible rfl)⟩) (by assumption) ?_
              try simp only [Act.put, List.setIfInBounds_toArray, List.set_cons_zero, List.set_cons_succ, List.getElem_toArray, List.getElem_cons_succ, List.getElem_cons_zero]
              refine wpAnyH_take (i := 2) (v := undef) rfl (by kernel_rfl) (by kernel_rfl) (by kernel_rfl) (fun _ _ _ h => h) (Or.inr ⟨by rfl, rfl⟩) (by assumption) ?_
              try simp only [Act.put, List.setIfInBounds_toArray, List.set_cons_zero, List.set_cons_succ, List.getElem_toArray, List.getElem_cons_succ, List.getElem_cons_zero]
              refine wpAnyH_take (i := 3) (v := undef) rfl (by kernel_rfl) (by kernel_rfl) (by kernel_rfl) (fun _ _ _ h => h) (Or.inr ⟨by rfl, rfl⟩) (by assumption) ?_
              try simp only [Act.put, List.setIfInBounds_toArray, List.set_cons_zero, List.set_cons_succ, List.getElem_toArray, List.getElem_cons_succ, List.getElem_cons_zero]
              refine wpAnyH_take (i := 4) (v := undef) rfl (by kernel_rfl) (by kernel_rfl) (by kernel_rfl) (fun _ _ _ h => h) (Or.inr ⟨by rfl, rfl⟩) (by assumption) ?_
              try simp only [Act.put, List.setIfInBounds_toArray, List.set_cons_zero, List.set_cons_succ, List.getElem_toArray, List.getElem_cons_succ, List.getElem_cons_zero]
              refine wpAnyH_take (i := 5) (v := undef) rfl (by kernel_rfl) (by kernel_rfl) (by kernel_rfl) (fun _ _ _ h => h) (Or.inr ⟨by rfl, rfl⟩) (by assumption) ?_
              try simp only [Act.put, List.setIfInBounds_toArray, List.set_cons_zero, List.set_cons_succ, List.getElem_toArray, List.getElem_cons_succ, List.getElem_cons_zero]
              refine wpAnyH_take (i := 6) (v := undef) rfl (by kernel_rfl) (by kernel_rfl) (by kernel_rfl) (fun _ _ _ h => h) (Or.inr ⟨by rfl, rfl⟩) (by assumption) ?_
              try simp only [Act.put, List.setIfInBounds_toArray, List.set_cons_zero, List.set_cons_succ, List.getElem_toArray, List.getElem_cons_succ, List.getElem_cons_zero]
              refine wpAnyH_take (i := 7) (v := undef) rfl (by kernel_rfl) (by kernel_rfl) (by kernel_rfl) (fun _ _ _ h => h) (Or.inr ⟨by rfl, rfl⟩) (by assumption) ?_
              try simp only [Act.put, List.setIfInBounds_toArray, List.set_cons_zero, List.set_cons_succ, List.getElem_toArray, List.getElem_cons_succ, List.getElem_cons_zero]
              refine wpAnyH_take (i := 8) (v := .bool true) rfl (by kernel_rfl) (by kernel_rfl) (by kernel_rfl) (fun _ _ _ h => h) (Or.inl ⟨by rfl, by intro w' hSw; first | (go_simp; done) | (go_simp; with_reducible rfl)⟩) (by assumption) ?_
              try simp only [Act.put, List.setIfInBounds_toArray, List.set_cons_zero, List.set_cons_succ, List.getElem_toArray, List.getElem_cons_succ, List.getElem_cons_zero]
              refine wpAnyH_ready (rs := [9]) (by kernel_rfl) (by simp) (AllReadyH.cons rfl (fun K hK => ?_) AllReadyH.nil)
              go_simp
              have hN9 : LvN w W0 W w.heap.size b3 mb l Bn S' f true (V8.setCell ⟨mb, 0, none⟩ (.bool true)).drew := lvN_of HJW.out ⟨HMB.out.1, HMB.out.2.1, HMB.out.2.2.1⟩ hb3c HV8.out.2.1 HV8.out.1 HV8.out.2.2.2.2 true
              refine hK.out _ _ (KpL.put hHeld9 _) (fun _ => ?_)
              clear hK K
              try simp only [Act.put, List.setIfInBounds_toArray, List.set_cons_zero, List.set_cons_succ, List.getElem_toArray, List.getElem_cons_succ, List.getElem_cons_zero]
              refine wpAnyH_done (by kernel_rfl) ?_ _
              obtain ⟨V9, hV9⟩ : ∃ V, (V8.setCell ⟨mb, 0, none⟩ (.bool true)).drew = V := ⟨_, rfl⟩
              rw [hV9] at hN9
              rw [hV9]
              have HN9 := Hid.out (p := Hid _) hN9
              have hb9 := hN9.box
              obtain ⟨n90, n91, n92, n93⟩ := set_lay hN9.new
              obtain ⟨r90, r91, r92, r93⟩ := hN9.row.sets p (by have := HPL.out; omega)
              have hfr := hN9.row.free
              have fr0 := hfr (p * 4)
              have fr1 := hfr (p * 4 + 1)
              have fr2 := hfr (p * 4 + 2)
              have fr3 := hfr (p * 4 + 3)
              clear hV9 hN9 hfr n0 n1 n2 n3 r0 r1 r2 r3 hm8 hb8 hm8f hHeld9
              gi_wp2
              exact lvJ_step HOK.out HJW.out HMB.out.2.1 (by rw [HPY.out]; exact HF.out) (v := true) (by rw [HPY.out]; rfl) HN9.out HPY.out
            | false =>
              refine region_held_round (S := fun w' : World => KpL V8.heap.size mb mb V8 w') (by kernel_rfl) (by kernel_rfl) (fun ⟨_, _, h⟩ => h) (KpL.of_below ((Below.refl V8.heap.size V8).drew) (Nat.le_refl _)) (fun hHeld9 => ?_)
              try simp only [Act.put, List.setIfInBounds_toArray, List.set_cons_zero, List.set_cons_succ, List.getElem_toArray, List.getElem_cons_succ, List.getElem_cons_zero]
              refine wpAnyH_ready (rs := [0]) (by kernel_rfl) (by simp) (AllReadyH.cons rfl (fun K hK => ?_) AllReadyH.nil)
              go_simp
              refine hK.out _ _ hHeld9 (fun _ => ?_)
              clear hK K
              try simp only [Act.put, List.setIfInBounds_toArray, List.set_cons_zero, List.set_cons_succ, List.getElem_toArray, List.getElem_cons_succ, List.getElem_cons_zero]
              refine wpAnyH_take (i := 1) (v := .bool false) rfl (by kernel_rfl) (by kernel_rfl) (by kernel_rfl) (fun _ _ _ h => h) (Or.inl ⟨by rfl, by intro w' hSw; first | (go_simp; done) | (go_simp; with_reducible rfl)⟩) (by assumption) ?_
              try simp only [Act.put, List.setIfInBounds_toArray, List.set_cons_zero, List.set_cons_succ, List.getElem_toArray, List.getElem_cons_succ, List.getElem_cons_zero]
              refine wpAnyH_take (i := 2) (v := setV f) rfl (by kernel_rfl) (by kernel_rfl) (by kernel_rfl) (fun _ _ _ h => h) (Or.inl ⟨by rfl, by intro w' hSw; have e0 := hSw.cell n0 HV8.out.2.2.1 HNE.out.1 HNE.out.1; have e1 := hSw.cell n1 HV8.out.2.2.1 HNE.out.1 HNE.out.1; have e2 := hSw.cell n2 HV8.out.2.2.1 HNE.out.1 HNE.out.1; have e3 := hSw.cell n3 HV8.out.2.2.1 HNE.out.1 HNE.out.1; first | (go_simp; done) | (go_simp; with_reducible rfl)⟩) (by assumption) ?_
              try simp only [Act.put, List.setIfInBounds_toArray, List.set_cons_zero, List.set_cons_succ, List.getElem_toArray, List.getElem_cons_succ, List.getElem_cons_zero]
              refine wpAnyH_take (i := 3) (v := .slice (some ⟨w.heap.size, 0, none⟩) (l + 1) (l + 1)) rfl (by kernel_rfl) (by kernel_rfl) (by kernel_rfl) (fun _ _ _ h => h) (Or.inl ⟨by rfl, by intro w' hSw; have e0 := hSw.cell hb8 HB8.out HNE.out.2.1 HNE.out.2.1; first | (go_simp; done) | (go_simp; with_reducible rfl)⟩) (by assumption) ?_
              try simp only [Act.put, List.setIfInBounds_toArray, List.set_cons_zero, List.set_cons_succ, List.getElem_toArray, List.getElem_cons_succ, List.getElem_cons_zero]
              refine wpAnyH_take (i := 4) (v := .int .i64 (p : Int)) rfl (by kernel_rfl) (by kernel_rfl) (by kernel_rfl) (fun _ _ _ h => h) (Or.inl ⟨by rfl, by intro w' hSw; first | (go_simp; done) | (go_simp; with_reducible rfl)⟩) (by assumption) ?_
              try simp only [Act.put, List.setIfInBounds_toArray, List.set_cons_zero, List.set_cons_succ, List.getElem_toArray, List.getElem_cons_succ, List.getElem_cons_zero]
              refine wpAnyH_take (i := 5) (v := .pointer (some ⟨w.heap.size, p * 4, none⟩)) rfl (by kernel_rfl) (by kernel_rfl) (by kernel_rfl) (fun _ _ _ h => h) (Or.inl ⟨by rfl, by intro w' hSw; first | (go_simp; done) | (go_simp; with_reducible rfl)⟩) (by assumption) ?_
              try simp only [Act.put, List.setIfInBounds_toArray, List.set_cons_zero, List.set_cons_succ, List.getElem_toArray, List.getElem_cons_succ, List.getElem_cons_zero]
              refine wpAnyH_take (i := 6) (v := setV (S' p)) rfl (by kernel_rfl) (by kernel_rfl) (by kernel_rfl) (fun _ _ _ h => h) (Or.inl ⟨by rfl, by intro w' hSw; have e0 := hSw.cell r0 HR8.out HNE.out.2.2 HNE.out.2.2; have e1 := hSw.cell r1 HR8.out HNE.out.2.2 HNE.out.2.2; have e2 := hSw.cell r2 HR8.out HNE.out.2.2 HNE.out.2.2; have e3 := hSw.cell r3 HR8.out HNE.out.2.2 HNE.out.2.2; first | (go_simp; done) | (go_simp; with_reducible rfl)⟩) (by assumption) ?_
              try simp only [Act.put, List.setIfInBounds_toArray, List.set_cons_zero, List.set_cons_succ, List.getElem_toArray, List.getElem_cons_succ, List.getElem_cons_zero]
              refine wpAnyH_take (i := 7) (v := (.bool (neS f (S' p)))) rfl (by kernel_rfl) (by kernel_rfl) (by kernel_rfl) (fun _ _ _ h => h) (Or.inl ⟨by rfl, by intro w' hSw; first | (go_simp; done) | (go_simp; with_reducible rfl)⟩) (by assumption) ?_
              try simp only [Act.put, List.setIfInBounds_toArray, List.set_cons_zero, List.set_cons_succ, List.getElem_toArray, List.getElem_cons_succ, List.getElem_cons_zero]
              refine wpAnyH_take (i := 8) (v := (.bool (neS f (S' p)))) rfl (by kernel_rfl) (by kernel_rfl) (by kernel_rfl) (fun _ _ _ h => h) (Or.inl ⟨by rfl, by intro w' hSw; first | (go_simp; done) | (go_simp; with_reducible rfl)⟩) (by assumption) ?_
              try simp only [Act.put, List.setIfInBounds_toArray, List.set_cons_zero, List.set_cons_succ, List.getElem_toArray, List.getElem_cons_succ, List.getElem_cons_zero]
              refine wpAnyH_ready (rs := [9]) (by kernel_rfl) (by simp) (AllReadyH.cons rfl (fun K hK => ?_) AllReadyH.nil)
              go_simp
              have hN9 : LvN w W0 W w.heap.size b3 mb l Bn S' f (neS f (S' p)) (V8.setCell ⟨mb, 0, none⟩ (.bool (neS f (S' p)))).drew := lvN_of HJW.out ⟨HMB.out.1, HMB.out.2.1, HMB.out.2.2.1⟩ hb3c HV8.out.2.1 HV8.out.1 HV8.out.2.2.2.2 (neS f (S' p))
              refine hK.out _ _ (KpL.put hHeld9 _) (fun _ => ?_)
              clear hK K
              try simp only [Act.put, List.setIfInBounds_toArray, List.set_cons_zero, List.set_cons_succ, List.getElem_toArray, List.getElem_cons_succ, List.getElem_cons_zero]
              refine wpAnyH_done (by kernel_rfl) ?_ _
              obtain ⟨V9, hV9⟩ : ∃ V, (V8.setCell ⟨mb, 0, none⟩ (.bool (neS f (S' p)))).drew = V := ⟨_, rfl⟩
              rw [hV9] at hN9
              rw [hV9]
              have HN9 := Hid.out (p := Hid _) hN9
              have hb9 := hN9.box
              obtain ⟨n90, n91, n92, n93⟩ := set_lay hN9.new
              obtain ⟨r90, r91, r92, r93⟩ := hN9.row.sets p (by have := HPL.out; omega)
              have hfr := hN9.row.free
              have fr0 := hfr (p * 4)
              have fr1 := hfr (p * 4 + 1)
              have fr2 := hfr (p * 4 + 2)
              have fr3 := hfr (p * 4 + 3)
              clear hV9 hN9 hfr n0 n1 n2 n3 r0 r1 r2 r3 hm8 hb8 hm8f hHeld9
              gi_wp2
              exact lvJ_step HOK.out HJW.out HMB.out.2.1 (by rw [HPY.out]; exact HF.out) (v := (neS f (S' p))) (by rw [HPY.out]; rfl) HN9.out HPY.out
        · go_simp
          have hS4 := Below.alloc hHeld hHeld.size (setO noS)
          have hz := heap_alloc_new W.drew (setO noS)
          refine hK.out _ _ hS4 (fun _ => ?_)
          clear hK K
          try simp only [Act.put, List.setIfInBounds_toArray, List.set_cons_zero, List.set_cons_succ, List.getElem_toArray, List.getElem_cons_succ, List.getElem_cons_zero]
          refine wpAnyH_ready (rs := [4]) (by kernel_rfl) (by simp) (AllReadyH.cons rfl (fun K hK => ?_) AllReadyH.nil)
          go_simp
          refine Calls.mono (HBH.out _ hS4) ?_
          rintro e w2 ⟨rfl, hb2⟩
          have hS2 : Below W.heap.size W w2 := hS4.trans (hb2.mono hS4.size)
          have hz2 := (hb2.block _ (Array.getElem?_eq_some_iff.1 hz).1).trans hz
          clear hb2
          go_wp2_with fail
          refine hK.out _ _ hS2 (fun _ => ?_)
          clear hK K
          try simp only [Act.put, List.setIfInBounds_toArray, List.set_cons_zero, List.set_cons_succ, List.getElem_toArray, List.getElem_cons_succ, List.getElem_cons_zero]
          refine wpAnyH_ready (rs := [5]) (by kernel_rfl) (by simp) (AllReadyH.cons rfl (fun K hK => ?_) AllReadyH.nil)
          go_simp
          refine Calls.mono (HND.out _) ?_
          rintro e w3 ⟨rfl, hb3⟩
          have hS3 : Below W.heap.size W w3 := hS2.trans (hb3.mono hS2.size)
          have hz3 : w3.heap[W.heap.size]? = some (setO noS) := (hb3.block _ (Array.getElem?_eq_some_iff.1 hz2).1).trans hz2
          clear hb3
          go_wp2_with fail
          refine hK.out _ _ hS3 (fun _ => ?_)
          clear hK K
          try simp only [Act.put, List.setIfInBounds_toArray, List.set_cons_zero, List.set_cons_succ, List.getElem_toArray, List.getElem_cons_succ, List.getElem_cons_zero]
          obtain ⟨z0, z1, z2, z3⟩ := set_lay hz3
          have zf0 := box_free (i := 0) hz3
          have zf1 := box_free (i := 1) hz3
          have zf2 := box_free (i := 2) hz3
          have zf3 := box_free (i := 3) hz3
          refine wpAnyH_ready (rs := [7]) (by kernel_rfl) (by simp) (AllReadyH.cons rfl (fun K hK => ?_) AllReadyH.nil)
          go_simp
          have hn8 : ((((w3.setCell ⟨W.heap.size, 0, none⟩ (.int .u64 (f 0))).setCell ⟨W.heap.size, 1, none⟩ (.int .u64 (f 1))).setCell ⟨W.heap.size, 2, none⟩ (.int .u64 (f 2))).setCell ⟨W.heap.size, 3, none⟩ (.int .u64 (f 3))).heap[W.heap.size]? = some (setO f) := set_store hz3 f
          have hS8 : Below W.heap.size W ((((w3.setCell ⟨W.heap.size, 0, none⟩ (.int .u64 (f 0))).setCell ⟨W.heap.size, 1, none⟩ (.int .u64 (f 1))).setCell ⟨W.heap.size, 2, none⟩ (.int .u64 (f 2))).setCell ⟨W.heap.size, 3, none⟩ (.int .u64 (f 3))) := below_store hS3 (Nat.le_refl W.heap.size) _ _ _ _
          have hBn0 : W.heap.size ≤ W.heap.size := Nat.le_refl W.heap.size
          refine hK.out _ _ hS8 (fun _ => ?_)
          clear hK K
          try simp only [Act.put, List.setIfInBounds_toArray, List.set_cons_zero, List.set_cons_succ, List.getElem_toArray, List.getElem_cons_succ, List.getElem_cons_zero]
          refine wpAnyH_done (by kernel_rfl) ?_ _
          obtain ⟨V8, hV8⟩ : ∃ V, (((w3.setCell ⟨W.heap.size, 0, none⟩ (.int .u64 (f 0))).setCell ⟨W.heap.size, 1, none⟩ (.int .u64 (f 1))).setCell ⟨W.heap.size, 2, none⟩ (.int .u64 (f 2))).setCell ⟨W.heap.size, 3, none⟩ (.int .u64 (f 3)) = V := ⟨_, rfl⟩
          obtain ⟨Bn, hBn'⟩ : ∃ B, W.heap.size = B := ⟨_, rfl⟩
          rw [hV8] at hn8 hS8
          have hBn : W.heap.size ≤ Bn := by rw [← hBn']; exact hBn0
          clear hBn0
          rw [hBn'] at hn8
          rw [hV8, hBn']
          clear hV8 hBn'
          have HV8 : Hid (V8.heap[Bn]? = some (setO f) ∧ Below W.heap.size W V8 ∧ Bn < V8.heap.size ∧ mb < V8.heap.size ∧ W.heap.size ≤ Bn) := ⟨hn8, hS8, (Array.getElem?_eq_some_iff.1 hn8).1, Nat.lt_of_lt_of_le (lt_of_cell hm0) hS8.size, hBn⟩
          have hm8 := (hS8.cell (p := ⟨mb, 0, none⟩) (lt_of_cell hm0)).trans hm0
          have hb8 := (hS8.cell (p := ⟨b3, 0, none⟩) HB3L.out).trans hb3c
          have HB8 : Hid (b3 < V8.heap.size) := lt_of_cell hb8
          obtain ⟨n0, n1, n2, n3⟩ := set_lay hn8
          obtain ⟨r0, r1, r2, r3⟩ := HJW.out.row.below hS8 |>.sets p (by have := HPL.out; omega)
          have HR8 : Hid (w.heap.size < V8.heap.size) := lt_of_cell r0
          have HNE : Hid (Bn ≠ mb ∧ b3 ≠ mb ∧ w.heap.size ≠ mb) := ⟨fun e => by have h1 := HV8.out.2.2.2.2; have h2 := lt_of_cell hm0; simp only at h2; omega, fun e => HMB.out.2.2.1 e.symm, fun e => HMB.out.2.1 e.symm⟩
          have hpi : (p : Int) < (l : Int) + 1 := by have := HPL.out; omega
          have hm8f : V8.drew.frozen? ⟨mb, 0, none⟩ = false := by
            have h1 : V8.heap[mb]? = _ := (hS8.block mb (lt_of_cell hm0)).trans HJW.out.mor
            exact box_free (w := V8.drew) (i := 0) h1
          clear hn8 hS8 hBn
          gi_wp2
          cases b' with
          | true =>
            refine region_held_round (S := fun w' : World => KpL V8.heap.size mb mb V8 w') (by kernel_rfl) (by kernel_rfl) (fun ⟨_, _, h⟩ => h) (KpL.of_below ((Below.refl V8.heap.size V8).drew) (Nat.le_refl _)) (fun hHeld9 => ?_)
            try simp only [Act.put, List.setIfInBounds_toArray, List.set_cons_zero, List.set_cons_succ, List.getElem_toArray, List.getElem_cons_succ, List.getElem_cons_zero]
            refine wpAnyH_ready (rs := [0]) (by kernel_rfl) (by simp) (AllReadyH.cons rfl (fun K hK => ?_) AllReadyH.nil)
            go_simp
            refine hK.out _ _ hHeld9 (fun _ => ?_)
            clear hK K
            try simp only [Act.put, List.setIfInBounds_toArray, List.set_cons_zero, List.set_cons_succ, List.getElem_toArray, List.getElem_cons_succ, List.getElem_cons_zero]
            refine wpAnyH_take (i := 1) (v := .bool true) rfl (by kernel_rfl) (by kernel_rfl) (by kernel_rfl) (fun _ _ _ h => h) (Or.inl ⟨by rfl, by intro w' hSw; first | (go_simp; done) | (go_simp; with_reducible rfl)⟩) (by assumption) ?_
            try simp only [Act.put, List.setIfInBounds_toArray, List.set_cons_zero, List.set_cons_succ, List.getElem_toArray, List.getElem_cons_succ, List.getElem_cons_zero]
            refine wpAnyH_take (i := 2) (v := undef) rfl (by kernel_rfl) (by kernel_rfl) (by kernel_rfl) (fun _ _ _ h => h) (Or.inr ⟨by rfl, rfl⟩) (by assumption) ?_
            try simp only [Act.put, List.setIfInBounds_toArray, List.set_cons_zero, List.set_cons_succ, List.getElem_toArray, List.getElem_cons_succ, List.getElem_cons_zero]
            refine wpAnyH_take (i := 3) (v := undef) rfl (by kernel_rfl) (by kernel_rfl) (by kernel_rfl) (fun _ _ _ h => h) (Or.inr ⟨by rfl, rfl⟩) (by assumption) ?_
            try simp only [Act.put, List.setIfInBounds_toArray, List.set_cons_zero, List.set_cons_succ, List.getElem_toArray, List.getElem_cons_succ, List.getElem_cons_zero]
            refine wpAnyH_take (i := 4) (v := undef) rfl (by kernel_rfl) (by kernel_rfl) (by kernel_rfl) (fun _ _ _ h => h) (Or.inr ⟨by rfl, rfl⟩) (by assumption) ?_
            try simp only [Act.put, List.setIfInBounds_toArray, List.set_cons_zero, List.set_cons_succ, List.getElem_toArray, List.getElem_cons_succ, List.getElem_cons_zero]
            refine wpAnyH_take (i := 5) (v := undef) rfl (by kernel_rfl) (by kernel_rfl) (by kernel_rfl) (fun _ _ _ h => h) (Or.inr ⟨by rfl, rfl⟩) (by assumption) ?_
            try simp only [Act.put, List.setIfInBounds_toArray, List.set_cons_zero, List.set_cons_succ, List.getElem_toArray, List.getElem_cons_succ, List.getElem_cons_zero]
            refine wpAnyH_take (i := 6) (v := undef) rfl (by kernel_rfl) (by kernel_rfl) (by kernel_rfl) (fun _ _ _ h => h) (Or.inr ⟨by rfl, rfl⟩) (by assumption) ?_
            try simp only [Act.put, List.setIfInBounds_toArray, List.set_cons_zero, List.set_cons_succ, List.getElem_toArray, List.getElem_cons_succ, List.getElem_cons_zero]
            refine wpAnyH_take (i := 7) (v := undef) rfl (by kernel_rfl) (by kernel_rfl) (by kernel_rfl) (fun _ _ _ h => h) (Or.inr ⟨by rfl, rfl⟩) (by assumption) ?_
            try simp only [Act.put, List.setIfInBounds_toArray, List.set_cons_zero, List.set_cons_succ, List.getElem_toArray, List.getElem_cons_succ, List.getElem_cons_zero]
            refine wpAnyH_take (i := 8) (v := .bool true) rfl (by kernel_rfl) (by kernel_rfl) (by kernel_rfl) (fun _ _ _ h => h) (Or.inl ⟨by rfl, by intro w' hSw; first | (go_simp; done) | (go_simp; with_reducible rfl)⟩) (by assumption) ?_
            try simp only [Act.put, List.setIfInBounds_toArray, List.set_cons_zero, List.set_cons_succ, List.getElem_toArray, List.getElem_cons_succ, List.getElem_cons_zero]
            refine wpAnyH_ready (rs := [9]) (by kernel_rfl) (by simp) (AllReadyH.cons rfl (fun K hK => ?_) AllReadyH.nil)
            go_simp
            have hN9 : LvN w W0 W w.heap.size b3 mb l Bn S' f true (V8.setCell ⟨mb, 0, none⟩ (.bool true)).drew := lvN_of HJW.out ⟨HMB.out.1, HMB.out.2.1, HMB.out.2.2.1⟩ hb3c HV8.out.2.1 HV8.out.1 HV8.out.2.2.2.2 true
            refine hK.out _ _ (KpL.put hHeld9 _) (fun _ => ?_)
            clear hK K
            try simp only [Act.put, List.setIfInBounds_toArray, List.set_cons_zero, List.set_cons_succ, List.getElem_toArray, List.getElem_cons_succ, List.getElem_cons_zero]
            refine wpAnyH_done (by kernel_rfl) ?_ _
            obtain ⟨V9, hV9⟩ : ∃ V, (V8.setCell ⟨mb, 0, none⟩ (.bool true)).drew = V := ⟨_, rfl⟩
            rw [hV9] at hN9
            rw [hV9]
            have HN9 := Hid.out (p := Hid _) hN9
            have hb9 := hN9.box
            obtain ⟨n90, n91, n92, n93⟩ := set_lay hN9.new
            obtain ⟨r90, r91, r92, r93⟩ := hN9.row.sets p (by have := HPL.out; omega)
            have hfr := hN9.row.free
            have fr0 := hfr (p * 4)
            have fr1 := hfr (p * 4 + 1)
            have fr2 := hfr (p * 4 + 2)
            have fr3 := hfr (p * 4 + 3)
            clear hV9 hN9 hfr n0 n1 n2 n3 r0 r1 r2 r3 hm8 hb8 hm8f hHeld9
            gi_wp2
            exact lvJ_step HOK.out HJW.out HMB.out.2.1 (by rw [HPY.out]; exact HF.out) (v := true) (by rw [HPY.out]; rfl) HN9.out HPY.out
          | false =>
            refine region_held_round (S := fun w' : World => KpL V8.heap.size mb mb V8 w') (by kernel_rfl) (by kernel_rfl) (fun ⟨_, _, h⟩ => h) (KpL.of_below ((Below.refl V8.heap.size V8).drew) (Nat.le_refl _)) (fun hHeld9 => ?_)
            try simp only [Act.put, List.setIfInBounds_toArray, List.set_cons_zero, List.set_cons_succ, List.getElem_toArray, List.getElem_cons_succ, List.getElem_cons_zero]
            refine wpAnyH_ready (rs := [0]) (by kernel_rfl) (by simp) (AllReadyH.cons rfl (fun K hK => ?_) AllReadyH.nil)
            go_simp
            refine hK.out _ _ hHeld9 (fun _ => ?_)
            clear hK K
            try simp only [Act.put, List.setIfInBounds_toArray, List.set_cons_zero, List.set_cons_succ, List.getElem_toArray, List.getElem_cons_succ, List.getElem_cons_zero]
            refine wpAnyH_take (i := 1) (v := .bool false) rfl (by kernel_rfl) (by kernel_rfl) (by kernel_rfl) (fun _ _ _ h => h) (Or.inl ⟨by rfl, by intro w' hSw; first | (go_simp; done) | (go_simp; with_reducible rfl)⟩) (by assumption) ?_
            try simp only [Act.put, List.setIfInBounds_toArray, List.set_cons_zero, List.set_cons_succ, List.getElem_toArray, List.getElem_cons_succ, List.getElem_cons_zero]
            refine wpAnyH_take (i := 2) (v := setV f) rfl (by kernel_rfl) (by kernel_rfl) (by kernel_rfl) (fun _ _ _ h => h) (Or.inl ⟨by rfl, by intro w' hSw; have e0 := hSw.cell n0 HV8.out.2.2.1 HNE.out.1 HNE.out.1; have e1 := hSw.cell n1 HV8.out.2.2.1 HNE.out.1 HNE.out.1; have e2 := hSw.cell n2 HV8.out.2.2.1 HNE.out.1 HNE.out.1; have e3 := hSw.cell n3 HV8.out.2.2.1 HNE.out.1 HNE.out.1; first | (go_simp; done) | (go_simp; with_reducible rfl)⟩) (by assumption) ?_
            try simp only [Act.put, List.setIfInBounds_toArray, List.set_cons_zero, List.set_cons_succ, List.getElem_toArray, List.getElem_cons_succ, List.getElem_cons_zero]
            refine wpAnyH_take (i := 3) (v := .slice (some ⟨w.heap.size, 0, none⟩) (l + 1) (l + 1)) rfl (by kernel_rfl) (by kernel_rfl) (by kernel_rfl) (fun _ _ _ h => h) (Or.inl ⟨by rfl, by intro w' hSw; have e0 := hSw.cell hb8 HB8.out HNE.out.2.1 HNE.out.2.1; first | (go_simp; done) | (go_simp; with_reducible rfl)⟩) (by assumption) ?_
            try simp only [Act.put, List.setIfInBounds_toArray, List.set_cons_zero, List.set_cons_succ, List.getElem_toArray, List.getElem_cons_succ, List.getElem_cons_zero]
            refine wpAnyH_take (i := 4) (v := .int .i64 (p : Int)) rfl (by kernel_rfl) (by kernel_rfl) (by kernel_rfl) (fun _ _ _ h => h) (Or.inl ⟨by rfl, by intro w' hSw; first | (go_simp; done) | (go_simp; with_reducible rfl)⟩) (by assumption) ?_
            try simp only [Act.put, List.setIfInBounds_toArray, List.set_cons_zero, List.set_cons_succ, List.getElem_toArray, List.getElem_cons_succ, List.getElem_cons_zero]
            refine wpAnyH_take (i := 5) (v := .pointer (some ⟨w.heap.size, p * 4, none⟩)) rfl (by kernel_rfl) (by kernel_rfl) (by kernel_rfl) (fun _ _ _ h => h) (Or.inl ⟨by rfl, by intro w' hSw; first | (go_simp; done) | (go_simp; with_reducible rfl)⟩) (by assumption) ?_
            try simp only [Act.put, List.setIfInBounds_toArray, List.set_cons_zero, List.set_cons_succ, List.getElem_toArray, List.getElem_cons_succ, List.getElem_cons_zero]
            refine wpAnyH_take (i := 6) (v := setV (S' p)) rfl (by kernel_rfl) (by kernel_rfl) (by kernel_rfl) (fun _ _ _ h => h) (Or.inl ⟨by rfl, by intro w' hSw; have e0 := hSw.cell r0 HR8.out HNE.out.2.2 HNE.out.2.2; have e1 := hSw.cell r1 HR8.out HNE.out.2.2 HNE.out.2.2; have e2 := hSw.cell r2 HR8.out HNE.out.2.2 HNE.out.2.2; have e3 := hSw.cell r3 HR8.out HNE.out.2.2 HNE.out.2.2; first | (go_simp; done) | (go_simp; with_reducible rfl)⟩) (by assumption) ?_
            try simp only [Act.put, List.setIfInBounds_toArray, List.set_cons_zero, List.set_cons_succ, List.getElem_toArray, List.getElem_cons_succ, List.getElem_cons_zero]
            refine wpAnyH_take (i := 7) (v := (.bool (neS f (S' p)))) rfl (by kernel_rfl) (by kernel_rfl) (by kernel_rfl) (fun _ _ _ h => h) (Or.inl ⟨by rfl, by intro w' hSw; first | (go_simp; done) | (go_simp; with_reducible rfl)⟩) (by assumption) ?_
            try simp only [Act.put, List.setIfInBounds_toArray, List.set_cons_zero, List.set_cons_succ, List.getElem_toArray, List.getElem_cons_succ, List.getElem_cons_zero]
            refine wpAnyH_take (i := 8) (v := (.bool (neS f (S' p)))) rfl (by kernel_rfl) (by kernel_rfl) (by kernel_rfl) (fun _ _ _ h => h) (Or.inl ⟨by rfl, by intro w' hSw; first | (go_simp; done) | (go_simp; with_reducible rfl)⟩) (by assumption) ?_
            try simp only [Act.put, List.setIfInBounds_toArray, List.set_cons_zero, List.set_cons_succ, List.getElem_toArray, List.getElem_cons_succ, List.getElem_cons_zero]
            refine wpAnyH_ready (rs := [9]) (by kernel_rfl) (by simp) (AllReadyH.cons rfl (fun K hK => ?_) AllReadyH.nil)
            go_simp
            have hN9 : LvN w W0 W w.heap.size b3 mb l Bn S' f (neS f (S' p)) (V8.setCell ⟨mb, 0, none⟩ (.bool (neS f (S' p)))).drew := lvN_of HJW.out ⟨HMB.out.1, HMB.out.2.1, HMB.out.2.2.1⟩ hb3c HV8.out.2.1 HV8.out.1 HV8.out.2.2.2.2 (neS f (S' p))
            refine hK.out _ _ (KpL.put hHeld9 _) (fun _ => ?_)
            clear hK K
            try simp only [Act.put, List.setIfInBounds_toArray, List.set_cons_zero, List.set_cons_succ, List.getElem_toArray, List.getElem_cons_succ, List.getElem_cons_zero]
            refine wpAnyH_done (by kernel_rfl) ?_ _
            obtain ⟨V9, hV9⟩ : ∃ V, (V8.setCell ⟨mb, 0, none⟩ (.bool (neS f (S' p)))).drew = V := ⟨_, rfl⟩
            rw [hV9] at hN9
            rw [hV9]
            have HN9 := Hid.out (p := Hid _) hN9
            have hb9 := hN9.box
            obtain ⟨n90, n91, n92, n93⟩ := set_lay hN9.new
            obtain ⟨r90, r91, r92, r93⟩ := hN9.row.sets p (by have := HPL.out; omega)
            have hfr := hN9.row.free
            have fr0 := hfr (p * 4)
            have fr1 := hfr (p * 4 + 1)
            have fr2 := hfr (p * 4 + 2)
            have fr3 := hfr (p * 4 + 3)
            clear hV9 hN9 hfr n0 n1 n2 n3 r0 r1 r2 r3 hm8 hb8 hm8f hHeld9
            gi_wp2
            exact lvJ_step HOK.out HJW.out HMB.out.2.1 (by rw [HPY.out]; exact HF.out) (v := (neS f (S' p))) (by rw [HPY.out]; rfl) HN9.out HPY.out
      case done =>
        rintro D xs W hD hxs ⟨S', b', hJW⟩ hDD
        subst hxs
        have hmor := hJW.mor
        have hm0 := box_cell (i := 0) hmor rfl
        have HW := Hid.out (p := Hid _) (And.intro hJW (And.intro hD hDD))
        clear hmor hJW hDD hD hBs hBc hJ0 hs0 hB3
        gi_wp2
        obtain ⟨hJW, hD, hDD⟩ := HW.out
        obtain ⟨hnx, hls⟩ := lvO_next HI.out.1 hW0 hJW hD hDD hrg HOK.out
        refine Handed.intro (if b' then 1 + (BIG - sumB S' l) else 0) ?_ (HJ.out _ _ _ ⟨W.heap.size, b', S', D :: Ds, _, _, _, _, _, _, _, _, _, _, _, _, _, _, _, _, _, _, _, _, _, _, _, _, _, _, rfl, hnx, rfl⟩)
        have hgk := HI.out.2
        simp only [if_true] at hgk
        rw [hgk]
        cases b' with
        | true =>
          have h1 := hls rfl
          have h2 := HBG.out S' hJW.w64
          simp only [if_true]
          omega
        | false =>
          simp only [Bool.false_eq_true, if_false]
          omega
      case stop =>
        rintro D c9 pre W hD _ hF
        exact hF.elim
    | false =>
      have hbx := HI.out.1.box
      have hb0 := box_cell (i := 0) hbx rfl
      clear hbx
      gi_wp2
      refine leaves_marks (lo := lo) Ds wr HI.out.1.nod HI.out.1.dfr (fun W' hW' => ⟨.slice (some ⟨w.heap.size, 0, none⟩) (l + 1) (l + 1), by simp [results, Tryd.f28, go_sem], w.heap.size, rfl, S, HI.out.1.row.keep (hW'.block _ HI.out.1.abl), HI.out.1.pas.w64, HI.out.1.fin rfl, HI.out.1.low.trans (hW'.mono ?_)⟩)
      exact Nat.le_trans HI.out.1.row.lt.1 (Nat.le_of_lt HI.out.1.abl)

end Go.Proofs.YtocfocjnnjdcgaaDoor
