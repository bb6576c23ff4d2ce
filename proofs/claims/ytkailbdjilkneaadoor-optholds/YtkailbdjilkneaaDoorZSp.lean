/-
  All states that were come to, as the document holds them in memory; what stays as it was while its lists grow.
  One state more among those that were come to: what its lists become.
  Where an order can lead on, by the program.
-/
import Derived.Test.YtkailbdjilkneaaDoorZPut
import Derived.Test.YtkailbdjilkneaaDoorZCopy
import Derived.Test.YtkailbdjilkneaaDoorOptW
import Derived.Test.YtkailbdjilkneaaDoorOptS
import Derived.BigQuiet
namespace Go.Proofs.YtkailbdjilkneaaDoor
section
open Go.RowKit

section
variable {ι : Type} {w w' : World} {vf vf' : ι → Value}
/-- Something that lies outside of rows that have turned is as it was, and still outside. -/
theorem DSt.moved {B : Nat} {P : Pg} {sb : Nat} {v : Rl → Value} {s : Sx} (h : DSt w B P sb v s) (ho : ∀ r g, (v r).ownBlock = some g → ∀ q, (vf q).ownBlock ≠ some g) (hm : Moved w w' vf vf') : DSt w' B P sb v s ∧ ∀ r g, (v r).ownBlock = some g → ∀ q, (vf' q).ownBlock ≠ some g :=
  ⟨⟨⟨fun r => fam_keeps (h.fam.own r) (fun g hg => hm.block g (h.fam.lt hg) (ho r g hg)), h.fam.apart⟩, h.box⟩, fun r g hg => hm.out (h.fam.lt hg) (ho r g hg)⟩
theorem IsI.moved {B : Nat} {a : Option Addr} {len c : Nat} {xs : List Int} (h : IsI w B a len c xs) (ho : ∀ g, (Value.slice a len c).ownBlock = some g → ∀ q, (vf q).ownBlock ≠ some g) (hm : Moved w w' vf vf') : IsI w' B a len c xs ∧ ∀ g, (Value.slice a len c).ownBlock = some g → ∀ q, (vf' q).ownBlock ≠ some g :=
  ⟨⟨h.is, fam_keeps h.own (fun g hg => hm.block g (h.own.lt g hg).2 (ho g hg))⟩, fun g hg => hm.out (h.own.lt g hg).2 (ho g hg)⟩
/-- A list of numbers that lies outside of rows. -/
def LIo (w : World) (vf : ι → Value) (a : Option Addr) (x : List Int) : Prop := ∀ i, i < x.length → ∃ b o, a = some ⟨b, o, none⟩ ∧ w.cell? ⟨b, o + i, none⟩ = some (.int .i64 (x.getD i 0)) ∧ ∀ q, (vf q).ownBlock ≠ some b
theorem LIo.li {a : Option Addr} {x : List Int} (h : LIo w vf a x) : LI w a x := fun i hi => by
  obtain ⟨b, o, h1, h2, _⟩ := h i hi
  exact ⟨b, o, h1, h2⟩
theorem LIo.moved {a : Option Addr} {x : List Int} (h : LIo w vf a x) (hm : Moved w w' vf vf') : LIo w' vf' a x := fun i hi => by
  obtain ⟨b, o, h1, h2, h3⟩ := h i hi
  exact ⟨b, o, h1, (hm.cell (a := ⟨b, o + i, none⟩) (lt_of_cell h2) h3).trans h2, hm.out (lt_of_cell h2) h3⟩
end

/-- The rows of a space. -/
inductive Sr where
  | box
  | st
  | ks
  | hd
  | bf
deriving DecidableEq
def sTy : Sr → TypeId
  | .box => 42
  | .st => 131
  | .ks => 23
  | _ => 3
def sSz : Sr → Nat
  | .box => 6
  | _ => 1
/-- What a space holds: where its states lie, the states, where their numbers lie, the outcomes, whether there are too many. -/
structure Sd where
  sbs : List Nat
  ss : List Sx
  ks : List (Option Addr × Nat)
  ends : Value
  full : Bool
def keyL (d : Sd) (i : Nat) : List Int := numsX (d.ss.getD i default)
def sumsD (d : Sd) (i : Nat) : Nat := sumL (keyL d i)
def keyV (d : Sd) (i : Nat) : Value := .slice (d.ks.getD i default).1 (keyL d i).length (d.ks.getD i default).2
def headsD (d : Sd) : List Int := (List.range 4096).map fun h => lastS (sumsD d) h d.ss.length
def beforeD (d : Sd) : List Int := (List.range d.ss.length).map fun i => lastS (sumsD d) (sumsD d i) i
def sN (d : Sd) : Sr → Nat
  | .box => 1
  | .hd => 4096
  | _ => d.ss.length
def sX (v : Sr → Value) (d : Sd) : Sr → List Value
  | .box => [v .st, v .ks, v .hd, v .bf, d.ends, .bool d.full]
  | .st => d.sbs.map fun b => .pointer (some ⟨b, 0, none⟩)
  | .ks => (List.range d.ss.length).map (keyV d)
  | .hd => intsV (headsD d)
  | .bf => intsV (beforeD d)
structure SpIn (w : World) (B : Nat) (P : Pg) (pb : Nat) (v : Sr → Value) (d : Sd) : Prop where
  fam : Fam w B sTy sSz v (sN d) (sX v d)
  box : v .box = boxV pb
  len : d.sbs.length = d.ss.length
  klen : d.ks.length = d.ss.length
  states : ∀ i, i < d.ss.length → ∃ B' v', DSt w B' P (d.sbs.getD i 0) v' (d.ss.getD i default) ∧ ∀ r g, (v' r).ownBlock = some g → ∀ q, (v q).ownBlock ≠ some g
  keys : ∀ i, i < d.ss.length → ∃ B', IsI w B' (d.ks.getD i default).1 (keyL d i).length (d.ks.getD i default).2 (keyL d i) ∧ ∀ g, (keyV d i).ownBlock = some g → ∀ q, (v q).ownBlock ≠ some g
section
variable {w w1 : World} {B : Nat} {P : Pg} {pb : Nat} {v : Sr → Value} {d : Sd}
theorem SpIn.below (h : SpIn w B P pb v d) (hb : Below w.heap.size w w1) : SpIn w1 B P pb v d :=
  ⟨h.fam.below hb, h.box, h.len, h.klen, fun i hi => by
    obtain ⟨B', v', h1, h2⟩ := h.states i hi
    exact ⟨B', v', h1.below hb, h2⟩, fun i hi => by
    obtain ⟨B', h1, h2⟩ := h.keys i hi
    exact ⟨B', h1.below hb, h2⟩⟩
theorem SpIn.bblk (h : SpIn w B P pb v d) : (v .box).ownBlock = some pb := by rw [h.box]; rfl
theorem SpIn.c0 (h : SpIn w B P pb v d) : w.cell? ⟨pb, 0, none⟩ = some (v .st) := h.fam.cell h.bblk rfl
theorem SpIn.c1 (h : SpIn w B P pb v d) : w.cell? ⟨pb, 1, none⟩ = some (v .ks) := h.fam.cell h.bblk rfl
theorem SpIn.c2 (h : SpIn w B P pb v d) : w.cell? ⟨pb, 2, none⟩ = some (v .hd) := h.fam.cell h.bblk rfl
theorem SpIn.c3 (h : SpIn w B P pb v d) : w.cell? ⟨pb, 3, none⟩ = some (v .bf) := h.fam.cell h.bblk rfl
theorem SpIn.c4 (h : SpIn w B P pb v d) : w.cell? ⟨pb, 4, none⟩ = some d.ends := h.fam.cell h.bblk rfl
theorem SpIn.c5 (h : SpIn w B P pb v d) : w.cell? ⟨pb, 5, none⟩ = some (.bool d.full) := h.fam.cell h.bblk rfl
theorem SpIn.hdB (h : SpIn w B P pb v d) : ∃ hb hc, v .hd = .slice (some ⟨hb, 0, none⟩) 4096 hc ∧ (v .hd).ownBlock = some hb := by
  obtain ⟨g, c, h1, h2, _, _⟩ := fam_block (h.fam.own .hd) (by show 0 < 4096; omega)
  exact ⟨g, c, h1, h2⟩
theorem SpIn.head (h : SpIn w B P pb v d) {hb k : Nat} (e : (v .hd).ownBlock = some hb) (hk : k < 4096) : w.cell? ⟨hb, k, none⟩ = some (.int .i64 (lastS (sumsD d) k d.ss.length)) := by
  refine h.fam.cell e (u := .int .i64 _) ?_
  show (intsV (headsD d))[k]? = _
  unfold intsV headsD
  rw [List.map_map, List.getElem?_map, List.getElem?_range hk]
  rfl
theorem SpIn.bfB (h : SpIn w B P pb v d) (hn : 0 < d.ss.length) : ∃ hb hc, v .bf = .slice (some ⟨hb, 0, none⟩) d.ss.length hc ∧ (v .bf).ownBlock = some hb := by
  obtain ⟨g, c, h1, h2, _, _⟩ := fam_block (h.fam.own .bf) (by exact hn)
  exact ⟨g, c, h1, h2⟩
theorem SpIn.before (h : SpIn w B P pb v d) {hb i : Nat} (e : (v .bf).ownBlock = some hb) (hi : i < d.ss.length) : w.cell? ⟨hb, i, none⟩ = some (.int .i64 (lastS (sumsD d) (sumsD d i) i)) := by
  refine h.fam.cell e (u := .int .i64 _) ?_
  show (intsV (beforeD d))[i]? = _
  unfold intsV beforeD
  rw [List.map_map, List.getElem?_map, List.getElem?_range hi]
  rfl
theorem SpIn.ksB (h : SpIn w B P pb v d) (hn : 0 < d.ss.length) : ∃ hb hc, v .ks = .slice (some ⟨hb, 0, none⟩) d.ss.length hc ∧ (v .ks).ownBlock = some hb := by
  obtain ⟨g, c, h1, h2, _, _⟩ := fam_block (h.fam.own .ks) (by exact hn)
  exact ⟨g, c, h1, h2⟩
theorem SpIn.key (h : SpIn w B P pb v d) {hb i : Nat} (e : (v .ks).ownBlock = some hb) (hi : i < d.ss.length) : w.cell? ⟨hb, i, none⟩ = some (keyV d i) := by
  refine h.fam.cell e ?_
  show ((List.range d.ss.length).map (keyV d))[i]? = _
  rw [List.getElem?_map, List.getElem?_range hi]
  rfl
end
end

section
open Go.RowKit

theorem infoP : (Tryd.prog.info? 131).map (fun i => (i.zero, i.size, i.bytes)) = some (some (.pointer none), 1, 8) := by kernel_rfl
theorem infoL : (Tryd.prog.info? 23).map (fun i => (i.zero, i.size, i.bytes)) = some (some nilV, 1, 24) := by kernel_rfl

section
variable {ι : Type} [DecidableEq ι] {w w1 : World} {B : Nat} {ty : ι → TypeId} {sz : ι → Nat} {v : ι → Value} {n : ι → Nat} {xs : ι → List Value}
/-- A row that grew. -/
theorem Fam.grew (h : Fam w B ty sz v n xs) {r : ι} {g m c H : Nat} {ys : List Value} (hown : w1.ownsRow B (ty r) (sz r) (.slice (some ⟨g, 0, none⟩) m c) m ys) (hgrow : w.grownBy w1 (v r).ownBlock) (hat : (v r).ownBlock = some g ∨ g = H) (hH : w.heap.size ≤ H) :
    Fam w1 B ty sz (upd v r (.slice (some ⟨g, 0, none⟩) m c)) (upd n r m) (upd xs r ys) :=
  h.grow (r := r) (n1 := upd n r m) (xs1 := upd xs r ys) hown hgrow hat hH (upd_self _ _ _) (fun _ hq => upd_ne _ _ hq) (upd_self _ _ _) (fun _ hq => upd_ne _ _ hq)
theorem Fam.store (h : Fam w B ty sz v n xs) {r : ι} {g : Nat} (e : (v r).ownBlock = some g) (i : Nat) (u : Value) : Fam (w.setCell ⟨g, i, none⟩ u) B ty sz v n (upd xs r ((xs r).set i u)) :=
  h.put e i u (fun _ => rfl) (upd_self _ _ _) (fun _ hq => upd_ne _ _ hq)
end

/-- One state more. -/
def Sd.push (d : Sd) (xb : Nat) (sx : Sx) (ka : Option Addr) (kc : Nat) : Sd := ⟨d.sbs ++ [xb], d.ss ++ [sx], d.ks ++ [(ka, kc)], d.ends, d.full || decide (4000 < d.ss.length + 1)⟩
section
variable {d : Sd} {xb : Nat} {sx : Sx} {ka : Option Addr} {kc : Nat}
theorem push_ss {i : Nat} (hi : i < d.ss.length) : (d.push xb sx ka kc).ss.getD i default = d.ss.getD i default := by
  show (d.ss ++ [sx]).getD i default = _
  simp [List.getD, List.getElem?_append_left hi]
theorem push_new : (d.push xb sx ka kc).ss.getD d.ss.length default = sx := by
  show (d.ss ++ [sx]).getD d.ss.length default = _
  simp [List.getD]
theorem push_len : (d.push xb sx ka kc).ss.length = d.ss.length + 1 := by
  show (d.ss ++ [sx]).length = _
  simp
theorem push_key {i : Nat} (hi : i < d.ss.length) : keyL (d.push xb sx ka kc) i = keyL d i := by unfold keyL; rw [push_ss hi]
theorem push_keyN : keyL (d.push xb sx ka kc) d.ss.length = numsX sx := by unfold keyL; rw [push_new]
theorem push_sum {i : Nat} (hi : i < d.ss.length) : sumsD (d.push xb sx ka kc) i = sumsD d i := by unfold sumsD; rw [push_key hi]
theorem push_sumN : sumsD (d.push xb sx ka kc) d.ss.length = sumL (numsX sx) := by unfold sumsD; rw [push_keyN]
theorem push_before : beforeD (d.push xb sx ka kc) = beforeD d ++ [lastS (sumsD d) (sumL (numsX sx)) d.ss.length] := by
  unfold beforeD
  rw [push_len, List.range_succ, List.map_append]
  congr 1
  · refine List.map_congr_left fun i hi => ?_
    have hi' : i < d.ss.length := by simpa using hi
    rw [push_sum hi', last_congr i (fun j hj => push_sum (by omega))]
  · simp only [List.map_cons, List.map_nil]
    rw [push_sumN, last_congr d.ss.length (fun j hj => push_sum hj)]
theorem push_heads {h : Nat} (hh : sumL (numsX sx) = h) : headsD (d.push xb sx ka kc) = (headsD d).set h (d.ss.length : Nat) := by
  have hlt : h < 4096 := by rw [← hh]; exact sumL_lt _
  unfold headsD
  refine List.ext_getElem? fun i => ?_
  rw [List.getElem?_set, List.getElem?_map, List.getElem?_map]
  by_cases hi : i < 4096
  · rw [List.getElem?_range hi]
    by_cases he : h = i
    · subst he
      rw [if_pos rfl, if_pos (by simpa using hlt), push_len]
      show some (lastS _ h (d.ss.length + 1)) = _
      unfold lastS
      rw [if_pos (by rw [push_sumN]; exact hh)]
    · rw [if_neg he, push_len]
      show some (lastS _ i (d.ss.length + 1)) = some _
      rw [show lastS (sumsD (d.push xb sx ka kc)) i (d.ss.length + 1) = lastS (sumsD (d.push xb sx ka kc)) i d.ss.length by
        conv => lhs; unfold lastS
        rw [if_neg (by rw [push_sumN, hh]; exact he)], last_congr d.ss.length (fun j hj => push_sum hj)]
  · rw [List.getElem?_eq_none (by simpa using Nat.le_of_not_lt hi)]
    have hne : ¬ h = i := by omega
    rw [if_neg hne]
    rfl
theorem push_kv {i : Nat} (hk : d.ks.length = d.ss.length) (hi : i < d.ss.length) : keyV (d.push xb sx ka kc) i = keyV d i := by
  unfold keyV
  rw [push_key hi]
  have e : (d.push xb sx ka kc).ks.getD i default = d.ks.getD i default := by
    show (d.ks ++ [(ka, kc)]).getD i default = _
    simp [List.getD, List.getElem?_append_left (show i < d.ks.length by omega)]
  rw [e]
theorem push_kvN (hk : d.ks.length = d.ss.length) : keyV (d.push xb sx ka kc) d.ss.length = .slice ka (numsX sx).length kc := by
  unfold keyV
  rw [push_keyN]
  have e : (d.push xb sx ka kc).ks.getD d.ss.length default = (ka, kc) := by
    show (d.ks ++ [(ka, kc)]).getD d.ss.length default = _
    rw [← hk]
    simp [List.getD]
  rw [e]
theorem push_kvs (hk : d.ks.length = d.ss.length) : (List.range (d.push xb sx ka kc).ss.length).map (keyV (d.push xb sx ka kc)) = (List.range d.ss.length).map (keyV d) ++ [.slice ka (numsX sx).length kc] := by
  rw [push_len, List.range_succ, List.map_append]
  congr 1
  · exact List.map_congr_left fun i hi => push_kv hk (by simpa using hi)
  · simp only [List.map_cons, List.map_nil]
    rw [push_kvN hk]
end
end

section
open Go.RowKit

theorem sis_none (w : World) (a : Option Addr) : SIs w a [] := fun j h => absurd h (Nat.not_lt_zero j)
theorem sis_box {w : World} {g : Nat} {x : Int} {t : TypeId} (h : w.heap[g]? = some (.cells #[.int .i64 x] t)) : SIs w (some ⟨g, 0, none⟩) [x] := fun j hj => by
  have : j = 0 := by simpa using hj
  subst this
  exact ⟨g, 0, rfl, box_cell h rfl⟩
/-- A row that lies behind what was there. -/
def FrA (w : World) (ra : Option Addr) : Prop := ∀ b o, ra = some ⟨b, o, none⟩ → w.heap.size ≤ b
theorem frA_one {w : World} {g : Nat} (h : w.heap.size ≤ g) : FrA w (some ⟨g, 0, none⟩) := fun b o e => by
  simp only [Option.some.injEq, Addr.mk.injEq] at e
  rw [← e.1]
  exact h
theorem FrA.mono {w V : World} {ra : Option Addr} (h : FrA V ra) (hs : w.heap.size ≤ V.heap.size) : FrA w ra := fun b o e => Nat.le_trans hs (h b o e)
theorem next_new (op a b c : Int) (i : Nat) (hi : i ≤ 1000) (h14 : op = 14 → 0 ≤ a) (h15 : op = 15 → 0 ≤ b) (w : World) :
    Calls Tryd.prog 129 #[ints4 op a b c, .int .i64 i] w fun e w' => ∃ ra rc, e = .returned (.slice ra (nxI op a b i).length rc) ∧ SIs w' ra (nxI op a b i) ∧ Below w.heap.size w w' ∧ FrA w ra := by
  by_cases e14 : op = 14
  · subst e14
    rw [nxI_jump (h14 rfl)]
    clear h14 h15
    go_enter Tryd.func129, Tryd.ntmps129
    go_wp2
    go_ret
    exact ⟨_, _, rfl, sis_one _ _ _, below_two _ _ _, frA_one (by simp)⟩
  · have e14' : (op == 14) = false := by simpa using e14
    by_cases e15 : op = 15
    · subst e15
      rw [nxI_zero (h15 rfl)]
      clear h14 h15
      go_enter Tryd.func129, Tryd.ntmps129
      go_wp2
      go_ret
      exact ⟨_, _, rfl, sis_two _ _ _ _, below_two _ _ _, frA_one (by simp)⟩
    · have e15' : (op == 15) = false := by simpa using e15
      rw [nxI_else e14 e15]
      clear h14 h15 e14 e15
      go_enter Tryd.func129, Tryd.ntmps129
      go_wp2
      go_ret
      exact ⟨_, _, rfl, sis_one _ _ _, below_two _ _ _, frA_one (by simp)⟩
def wyI (op a b : Int) (i : Nat) (v : Vl) : List Int := (wyL op a b i v).map fun (j : Nat) => (j : Int)
set_option maxRecDepth 100000 in
set_option maxHeartbeats 1600000 in
theorem ways_any (w : World) (mb rg n m lk sz : Nat) (f : Nat → Vl) (op a b c : Int) (i : Nat) (hi : i ≤ 1000) (hrg : rg ≤ 1000) (ho : ordE rg m lk sz op a b c = 0) (hm : MpV w mb f rg n) :
    Calls Tryd.prog 101 #[.agg #[.int .i64 op, .int .i64 a, .int .i64 b, .int .i64 c], .int .i64 (i : Int), .map (some mb)] w fun e w' => ∃ ra rc, e = .returned (.slice ra (wyI op a b i (f a.toNat)).length rc) ∧ SIs w' ra (wyI op a b i (f a.toNat)) ∧ Below w.heap.size w w' ∧ FrA w ra := by
  have hld := ok_lead ho
  have HNX : Hid (∀ V, Calls Tryd.prog 129 #[.agg #[.int .i64 op, .int .i64 a, .int .i64 b, .int .i64 c], .int .i64 (i : Int)] V fun e w' => ∃ ra rc, e = .returned (.slice ra (nxI op a b i).length rc) ∧ Hid (SIs w' ra (nxI op a b i) ∧ Below V.heap.size V w' ∧ FrA V ra)) := fun V => (next_new op a b c i hi (fun e => (hld.1 e).1) (fun e => (hld.2 e).1) V).mono fun e w' ⟨ra, rc, h1, h2, h3⟩ => ⟨ra, rc, h1, h2, h3⟩
  obtain ⟨W, hW⟩ : ∃ V, w.alloc (.cells #[.int .i64 op, .int .i64 a, .int .i64 b, .int .i64 c] 44) = V := ⟨_, rfl⟩
  have hbW : Below w.heap.size w W := by rw [← hW]; exact low1 _ _
  have hib : W.heap[w.heap.size]? = some (.cells #[.int .i64 op, .int .i64 a, .int .i64 b, .int .i64 c] 44) := by rw [← hW]; exact heap_alloc_new _ _
  have HW := Hid.out (p := Hid _) hW
  have HBW := Hid.out (p := Hid _) hbW
  have HIB := Hid.out (p := Hid _) hib
  have i0 : W.cell? ⟨w.heap.size, 0, none⟩ = some (.int .i64 op) := box_cell hib rfl
  have i1 : W.cell? ⟨w.heap.size, 1, none⟩ = some (.int .i64 a) := box_cell hib rfl
  have i2 : W.cell? ⟨w.heap.size, 2, none⟩ = some (.int .i64 b) := box_cell hib rfl
  have i3 : W.cell? ⟨w.heap.size, 3, none⟩ = some (.int .i64 c) := box_cell hib rfl
  by_cases h15 : op = 15
  · subst h15
    obtain ⟨⟨ha0, ha1⟩, hb0, _⟩ := ok_zero ho
    obtain ⟨ka, rfl⟩ : ∃ k : Nat, a = k := ⟨a.toNat, by omega⟩
    have HIB := Hid.out (p := Hid _) hib
    have hka : ka < rg := by omega
    obtain ⟨v, hv⟩ : ∃ v, f ka = v := ⟨_, rfl⟩
    have lkW : (Instr.lookup 110 (.map (some mb)) (.int .i64 (ka : Int)) false).run Tryd.prog W = .ok (.agg #[.int .i64 (v.st : Int), .int .i64 v.nb]) W := by
      have := (hm.keep (hbW.block _ hm.lt)).look hka hrg
      rw [hv] at this
      exact this
    rw [Int.toNat_natCast, hv]
    have HAL : Hid (∀ k V, Calls Tryd.prog 60 #[.int .i64 k] V fun e w' => e = .returned (.agg #[.int .i64 1, .int .i64 k]) ∧ Below V.heap.size V w') := fun k V => always_any k V
    have hn15 : nxI 15 (ka : Int) b i = wyI 15 (ka : Int) b i .any := rfl
    rw [hn15] at HNX
    clear hm ho hW hbW hib hv hld
    cases v with
    | no =>
      simp only [Vl.st, Vl.nb] at lkW
      go_enter Tryd.func101, Tryd.ntmps101
      go_wp2_with fail
      rw [HW.out]
      go_wp2
      rw [lkW]
      go_wp2
      go_ret
      exact ⟨none, 0, rfl, sis_none _ _, HBW.out.alloc HBW.out.size _, fun b o e => by cases e⟩
    | any =>
      simp only [Vl.st, Vl.nb] at lkW
      have i0u := fun o => cell_up i0 o
      have i1u := fun o => cell_up i1 o
      have i2u := fun o => cell_up i2 o
      have i3u := fun o => cell_up i3 o
      go_enter Tryd.func101, Tryd.ntmps101
      go_wp2_with fail
      rw [HW.out]
      go_wp2
      rw [lkW]
      go_wp2_with fail
      refine Calls.mono (HNX.out _) ?_
      rintro e w3 ⟨ra, rc, rfl, H3⟩
      go_wp2_with fail
      refine bodyPost_ret (v := .slice ra (wyI 15 (ka : Int) b i .any).length rc) (by simp [results, Tryd.results101, go_sem]) rfl ⟨ra, rc, rfl, H3.out.1, ?_⟩
      have h1 : Below w.heap.size w (W.alloc (.cells #[.int .i64 2, .int .i64 0] 116)) := HBW.out.alloc HBW.out.size _
      exact ⟨h1.trans (H3.out.2.1.mono h1.size), H3.out.2.2.mono h1.size⟩
    | num k =>
      simp only [Vl.st, Vl.nb] at lkW
      obtain ⟨VB, hVB⟩ : ∃ V, W.alloc (.cells #[.int .i64 1, .int .i64 k] 116) = V := ⟨_, rfl⟩
      have HV0 : Hid (W.alloc (.cells #[.int .i64 1, .int .i64 k] 116) = VB ∧ Below w.heap.size w VB) := ⟨hVB, by rw [← hVB]; exact HBW.out.alloc HBW.out.size _⟩
      have hvb : VB.heap[W.heap.size]? = some (.cells #[.int .i64 1, .int .i64 k] 116) := by rw [← hVB]; exact heap_alloc_new _ _
      have hiv : VB.heap[w.heap.size]? = some (.cells #[.int .i64 15, .int .i64 (ka : Int), .int .i64 b, .int .i64 c] 44) := by rw [← hVB]; exact box_later HIB.out _
      have HAC : Hid (∀ V, Below VB.heap.size VB V → Calls Tryd.prog 60 #[.int .i64 0] V fun e w' => e = .returned (.agg #[.int .i64 1, .int .i64 0]) ∧ Hid (Below w.heap.size w w') ∧ w'.cell? ⟨W.heap.size, 0, none⟩ = some (.int .i64 1) ∧ w'.cell? ⟨W.heap.size, 1, none⟩ = some (.int .i64 k) ∧ w'.cell? ⟨w.heap.size, 2, none⟩ = some (.int .i64 b)) := fun V hV => (HAL.out 0 V).mono fun e w' ⟨h1, h2⟩ => by
        have hb := hV.trans (h2.mono hV.size)
        have e1 := (hb.block _ (box_lt hvb)).trans hvb
        have e2 := (hb.block _ (box_lt hiv)).trans hiv
        exact ⟨h1, HV0.out.2.trans (hb.mono HV0.out.2.size), box_cell e1 rfl, box_cell e1 rfl, box_cell e2 rfl⟩
      have v0 : VB.cell? ⟨W.heap.size, 0, none⟩ = some (.int .i64 1) := box_cell hvb rfl
      have v1 : VB.cell? ⟨W.heap.size, 1, none⟩ = some (.int .i64 k) := box_cell hvb rfl
      obtain ⟨qb, hqb⟩ : ∃ q, W.heap.size = q := ⟨_, rfl⟩
      rw [hqb] at HAC v0 v1
      have HQB := Hid.out (p := Hid _) hqb
      clear hVB hvb hiv HAL HNX hqb
      rcases (by by_cases h : k = 0
                 · exact Or.inl h
                 · exact Or.inr ⟨h, by simpa using h⟩ : k = 0 ∨ (k ≠ 0 ∧ (k == 0) = false)) with rfl | ⟨hk, hk'⟩
      · have hwy : wyI 15 (ka : Int) b i (.num 0) = [b] := by
          unfold wyI wyL
          simp
          omega
        rw [hwy]
        go_enter Tryd.func101, Tryd.ntmps101
        go_wp2_with fail
        rw [HW.out]
        go_wp2
        rw [lkW]
        go_wp2_with fail
        rw [HV0.out.1, HQB.out]
        go_wp2_with fail
        go_region_with (go_at_call 60; refine Calls.mono (HAC.out _ (Below.refl _ _).drew) ?_; rintro e w5 ⟨rfl, hb5, q0, q1, q2⟩)
        all_goals go_wp2_with fail
        all_goals go_ret
        all_goals exact ⟨_, _, rfl, sis_box (heap_alloc_new _ _), hb5.out.alloc hb5.out.size _, frA_one hb5.out.size⟩
      · have hwy : wyI 15 (ka : Int) b i (.num k) = [(i : Int) + 1] := by
          unfold wyI wyL
          simp [hk]
        rw [hwy]
        clear hk
        go_enter Tryd.func101, Tryd.ntmps101
        go_wp2_with fail
        rw [HW.out]
        go_wp2
        rw [lkW]
        go_wp2_with fail
        rw [HV0.out.1, HQB.out]
        go_wp2_with fail
        go_region_with (go_at_call 60; refine Calls.mono (HAC.out _ (Below.refl _ _).drew) ?_; rintro e w5 ⟨rfl, hb5, q0, q1, q2⟩)
        all_goals go_wp2_with fail
        all_goals go_ret
        all_goals exact ⟨_, _, rfl, sis_box (heap_alloc_new _ _), hb5.out.alloc hb5.out.size _, frA_one hb5.out.size⟩
  · have h15' : (op != 15) = true := by simpa using h15
    have hwy : wyI op a b i (f a.toNat) = nxI op a b i := by
      unfold wyI wyL nxI
      rw [if_neg h15]
    rw [hwy]
    clear hm ho hW hbW hib hld hwy
    go_enter Tryd.func101, Tryd.ntmps101
    go_wp2_with fail
    rw [HW.out]
    go_wp2_with fail
    refine Calls.mono (HNX.out _) ?_
    rintro e w3 ⟨ra, rc, rfl, H3⟩
    go_wp2_with fail
    refine bodyPost_ret (v := .slice ra (nxI op a b i).length rc) (by simp [results, Tryd.results101, go_sem]) rfl ⟨ra, rc, rfl, H3.out.1, ?_⟩
    exact ⟨HBW.out.trans (H3.out.2.1.mono HBW.out.size), H3.out.2.2.mono HBW.out.size⟩
end

end Go.Proofs.YtkailbdjilkneaaDoor
