/-
  States are found again by their sums: the last one of a sum, and the one ahead of it: plain functions.
  All states that were come to, as the document holds them in memory; what stays as it was while its lists grow.
  One state more among those that were come to: what its lists become.
  The document's Check as one contract.
-/
import Derived.Test.YtefnmbnakphhfadWorkP
import Derived.Test.YtefnmbnakphhfadZPut
import Derived.Test.YtefnmbnakphhfadZCopy
import Derived.Test.YtefnmbnakphhfadCheckR2
namespace Go.Proofs.Ytefnmbnakphhfad
section
open Go.RowKit

/-- The last of the first n whose sum is h; -1: none. -/
def lastS (f : Nat → Nat) (h : Nat) : Nat → Int
  | 0 => -1
  | n + 1 => if f n = h then (n : Int) else lastS f h n
section
variable {f : Nat → Nat} {h : Nat}
theorem last_lt : ∀ n, lastS f h n < n
  | 0 => by show (-1 : Int) < _; omega
  | n + 1 => by
    unfold lastS
    split
    · omega
    · have := last_lt n; omega
theorem last_low : ∀ n, -1 ≤ lastS f h n
  | 0 => by show (-1 : Int) ≤ -1; omega
  | n + 1 => by
    unfold lastS
    split
    · omega
    · exact last_low n
/-- The last one is of the sum, and none behind it is. -/
theorem last_is : ∀ n i, lastS f h n = (i : Nat) → f i = h ∧ ∀ j, i < j → j < n → f j ≠ h
  | 0, i, e => by
    have : (-1 : Int) = (i : Nat) := e
    omega
  | n + 1, i, e => by
    unfold lastS at e
    by_cases hn : f n = h
    · rw [if_pos hn] at e
      obtain rfl : n = i := by omega
      exact ⟨hn, fun j h1 h2 => by omega⟩
    · rw [if_neg hn] at e
      obtain ⟨h1, h2⟩ := last_is n i e
      refine ⟨h1, fun j h3 h4 => ?_⟩
      rcases Nat.lt_or_ge j n with h5 | h5
      · exact h2 j h3 h5
      · obtain rfl : j = n := by omega
        exact hn
theorem last_none : ∀ n, lastS f h n < 0 → ∀ j, j < n → f j ≠ h
  | 0, _, j, hj => absurd hj (Nat.not_lt_zero _)
  | n + 1, e, j, hj => by
    unfold lastS at e
    by_cases hn : f n = h
    · rw [if_pos hn] at e; omega
    · rw [if_neg hn] at e
      rcases Nat.lt_or_ge j n with h5 | h5
      · exact last_none n e j h5
      · obtain rfl : j = n := by omega
        exact hn
theorem last_congr {g : Nat → Nat} : ∀ n, (∀ i, i < n → g i = f i) → lastS g h n = lastS f h n
  | 0, _ => rfl
  | n + 1, e => by
    unfold lastS
    rw [e n (by omega), last_congr n (fun i hi => e i (by omega))]
end
end

section
open Go.RowKit

section
variable {ι : Type} {w w' : World} {vf vf' : ι → Value}
/-- Something that lies outside of rows that have turned is as it was, and still outside. -/
theorem DSt.moved {B : Nat} {P : Pg} {sb : Nat} {v : Rl → Value} {s : Sx} (h : DSt w B P sb v s) (ho : ∀ r g, (v r).ownBlock = some g → ∀ q, (vf q).ownBlock ≠ some g) (hm : Moved w w' vf vf') : DSt w' B P sb v s ∧ ∀ r g, (v r).ownBlock = some g → ∀ q, (vf' q).ownBlock ≠ some g :=
  ⟨⟨⟨fun r => fam_keeps (h.fam.own r) (fun g hg => hm.block g (h.fam.lt hg) (ho r g hg)), h.fam.apart⟩, h.box⟩, fun r g hg => hm.out (h.fam.lt hg) (ho r g hg)⟩
theorem IsI.moved {B : Nat} {a : Option Addr} {len c : Nat} {xs : List Int} (h : IsI w B a len c xs) (ho : ∀ g, (Value.slice a len c).ownBlock = some g → ∀ q, (vf q).ownBlock ≠ some g) (hm : Moved w w' vf vf') : IsI w' B a len c xs ∧ ∀ g, (Value.slice a len c).ownBlock = some g → ∀ q, (vf' q).ownBlock ≠ some g :=
  ⟨⟨h.is, fam_keeps h.own (fun g hg => hm.block g (h.own.lt g hg).2 (ho g hg))⟩, fun g hg => hm.out (h.own.lt g hg).2 (ho g hg)⟩
/-- A list of numbers that lies outside of rows. -/
def LIo (w : World) (vf : ι → Value) (a : Option Addr) (x : List Int) : Prop := ∀ i, i < x.length → ∃ b o, a = some ⟨b, o, none⟩ ∧ w.cell? ⟨b, o + i, none⟩ = some (.int .i64 (x.getD i 0)) ∧ ∀ q, (vf q).ownBlock ≠ some b
theorem LIo.li {a : Option Addr} {x : List Int} (h : LIo w vf a x) : LI w a x := fun i hi => by
  obtain ⟨b, o, h1, h2, _⟩ := h i hi
  exact ⟨b, o, h1, h2⟩
theorem LIo.moved {a : Option Addr} {x : List Int} (h : LIo w vf a x) (hm : Moved w w' vf vf') : LIo w' vf' a x := fun i hi => by
  obtain ⟨b, o, h1, h2, h3⟩ := h i hi
  exact ⟨b, o, h1, (hm.cell (a := ⟨b, o + i, none⟩) (lt_of_cell h2) h3).trans h2, hm.out (lt_of_cell h2) h3⟩
end

/-- The rows of a space. -/
inductive Sr where
  | box
  | st
  | ks
  | hd
  | bf
deriving DecidableEq
def sTy : Sr → TypeId
  | .box => 42
  | .st => 73
  | .ks => 23
  | _ => 3
def sSz : Sr → Nat
  | .box => 6
  | _ => 1
/-- What a space holds: where its states lie, the states, where their numbers lie, the outcomes, whether there are too many. -/
structure Sd where
  sbs : List Nat
  ss : List Sx
  ks : List (Option Addr × Nat)
  ends : Value
  full : Bool
def keyL (d : Sd) (i : Nat) : List Int := numsX (d.ss.getD i default)
def sumsD (d : Sd) (i : Nat) : Nat := sumL (keyL d i)
def keyV (d : Sd) (i : Nat) : Value := .slice (d.ks.getD i default).1 (keyL d i).length (d.ks.getD i default).2
def headsD (d : Sd) : List Int := (List.range 4096).map fun h => lastS (sumsD d) h d.ss.length
def beforeD (d : Sd) : List Int := (List.range d.ss.length).map fun i => lastS (sumsD d) (sumsD d i) i
def sN (d : Sd) : Sr → Nat
  | .box => 1
  | .hd => 4096
  | _ => d.ss.length
def sX (v : Sr → Value) (d : Sd) : Sr → List Value
  | .box => [v .st, v .ks, v .hd, v .bf, d.ends, .bool d.full]
  | .st => d.sbs.map fun b => .pointer (some ⟨b, 0, none⟩)
  | .ks => (List.range d.ss.length).map (keyV d)
  | .hd => intsV (headsD d)
  | .bf => intsV (beforeD d)
structure SpIn (w : World) (B : Nat) (P : Pg) (pb : Nat) (v : Sr → Value) (d : Sd) : Prop where
  fam : Fam w B sTy sSz v (sN d) (sX v d)
  box : v .box = boxV pb
  len : d.sbs.length = d.ss.length
  klen : d.ks.length = d.ss.length
  states : ∀ i, i < d.ss.length → ∃ B' v', DSt w B' P (d.sbs.getD i 0) v' (d.ss.getD i default) ∧ ∀ r g, (v' r).ownBlock = some g → ∀ q, (v q).ownBlock ≠ some g
  keys : ∀ i, i < d.ss.length → ∃ B', IsI w B' (d.ks.getD i default).1 (keyL d i).length (d.ks.getD i default).2 (keyL d i) ∧ ∀ g, (keyV d i).ownBlock = some g → ∀ q, (v q).ownBlock ≠ some g
section
variable {w w1 : World} {B : Nat} {P : Pg} {pb : Nat} {v : Sr → Value} {d : Sd}
theorem SpIn.below (h : SpIn w B P pb v d) (hb : Below w.heap.size w w1) : SpIn w1 B P pb v d :=
  ⟨h.fam.below hb, h.box, h.len, h.klen, fun i hi => by
    obtain ⟨B', v', h1, h2⟩ := h.states i hi
    exact ⟨B', v', h1.below hb, h2⟩, fun i hi => by
    obtain ⟨B', h1, h2⟩ := h.keys i hi
    exact ⟨B', h1.below hb, h2⟩⟩
theorem SpIn.bblk (h : SpIn w B P pb v d) : (v .box).ownBlock = some pb := by rw [h.box]; rfl
theorem SpIn.c0 (h : SpIn w B P pb v d) : w.cell? ⟨pb, 0, none⟩ = some (v .st) := h.fam.cell h.bblk rfl
theorem SpIn.c1 (h : SpIn w B P pb v d) : w.cell? ⟨pb, 1, none⟩ = some (v .ks) := h.fam.cell h.bblk rfl
theorem SpIn.c2 (h : SpIn w B P pb v d) : w.cell? ⟨pb, 2, none⟩ = some (v .hd) := h.fam.cell h.bblk rfl
theorem SpIn.c3 (h : SpIn w B P pb v d) : w.cell? ⟨pb, 3, none⟩ = some (v .bf) := h.fam.cell h.bblk rfl
theorem SpIn.c4 (h : SpIn w B P pb v d) : w.cell? ⟨pb, 4, none⟩ = some d.ends := h.fam.cell h.bblk rfl
theorem SpIn.c5 (h : SpIn w B P pb v d) : w.cell? ⟨pb, 5, none⟩ = some (.bool d.full) := h.fam.cell h.bblk rfl
theorem SpIn.hdB (h : SpIn w B P pb v d) : ∃ hb hc, v .hd = .slice (some ⟨hb, 0, none⟩) 4096 hc ∧ (v .hd).ownBlock = some hb := by
  obtain ⟨g, c, h1, h2, _, _⟩ := fam_block (h.fam.own .hd) (by show 0 < 4096; omega)
  exact ⟨g, c, h1, h2⟩
theorem SpIn.head (h : SpIn w B P pb v d) {hb k : Nat} (e : (v .hd).ownBlock = some hb) (hk : k < 4096) : w.cell? ⟨hb, k, none⟩ = some (.int .i64 (lastS (sumsD d) k d.ss.length)) := by
  refine h.fam.cell e (u := .int .i64 _) ?_
  show (intsV (headsD d))[k]? = _
  unfold intsV headsD
  rw [List.map_map, List.getElem?_map, List.getElem?_range hk]
  rfl
theorem SpIn.bfB (h : SpIn w B P pb v d) (hn : 0 < d.ss.length) : ∃ hb hc, v .bf = .slice (some ⟨hb, 0, none⟩) d.ss.length hc ∧ (v .bf).ownBlock = some hb := by
  obtain ⟨g, c, h1, h2, _, _⟩ := fam_block (h.fam.own .bf) (by exact hn)
  exact ⟨g, c, h1, h2⟩
theorem SpIn.before (h : SpIn w B P pb v d) {hb i : Nat} (e : (v .bf).ownBlock = some hb) (hi : i < d.ss.length) : w.cell? ⟨hb, i, none⟩ = some (.int .i64 (lastS (sumsD d) (sumsD d i) i)) := by
  refine h.fam.cell e (u := .int .i64 _) ?_
  show (intsV (beforeD d))[i]? = _
  unfold intsV beforeD
  rw [List.map_map, List.getElem?_map, List.getElem?_range hi]
  rfl
theorem SpIn.ksB (h : SpIn w B P pb v d) (hn : 0 < d.ss.length) : ∃ hb hc, v .ks = .slice (some ⟨hb, 0, none⟩) d.ss.length hc ∧ (v .ks).ownBlock = some hb := by
  obtain ⟨g, c, h1, h2, _, _⟩ := fam_block (h.fam.own .ks) (by exact hn)
  exact ⟨g, c, h1, h2⟩
theorem SpIn.key (h : SpIn w B P pb v d) {hb i : Nat} (e : (v .ks).ownBlock = some hb) (hi : i < d.ss.length) : w.cell? ⟨hb, i, none⟩ = some (keyV d i) := by
  refine h.fam.cell e ?_
  show ((List.range d.ss.length).map (keyV d))[i]? = _
  rw [List.getElem?_map, List.getElem?_range hi]
  rfl
end
end

section
open Go.RowKit

theorem infoP : (Try.prog.info? 73).map (fun i => (i.zero, i.size, i.bytes)) = some (some (.pointer none), 1, 8) := by kernel_rfl
theorem infoL : (Try.prog.info? 23).map (fun i => (i.zero, i.size, i.bytes)) = some (some nilV, 1, 24) := by kernel_rfl

section
variable {ι : Type} [DecidableEq ι] {w w1 : World} {B : Nat} {ty : ι → TypeId} {sz : ι → Nat} {v : ι → Value} {n : ι → Nat} {xs : ι → List Value}
/-- A row that grew. -/
theorem Fam.grew (h : Fam w B ty sz v n xs) {r : ι} {g m c H : Nat} {ys : List Value} (hown : w1.ownsRow B (ty r) (sz r) (.slice (some ⟨g, 0, none⟩) m c) m ys) (hgrow : w.grownBy w1 (v r).ownBlock) (hat : (v r).ownBlock = some g ∨ g = H) (hH : w.heap.size ≤ H) :
    Fam w1 B ty sz (upd v r (.slice (some ⟨g, 0, none⟩) m c)) (upd n r m) (upd xs r ys) :=
  h.grow (r := r) (n1 := upd n r m) (xs1 := upd xs r ys) hown hgrow hat hH (upd_self _ _ _) (fun _ hq => upd_ne _ _ hq) (upd_self _ _ _) (fun _ hq => upd_ne _ _ hq)
theorem Fam.store (h : Fam w B ty sz v n xs) {r : ι} {g : Nat} (e : (v r).ownBlock = some g) (i : Nat) (u : Value) : Fam (w.setCell ⟨g, i, none⟩ u) B ty sz v n (upd xs r ((xs r).set i u)) :=
  h.put e i u (fun _ => rfl) (upd_self _ _ _) (fun _ hq => upd_ne _ _ hq)
end

/-- One state more. -/
def Sd.push (d : Sd) (xb : Nat) (sx : Sx) (ka : Option Addr) (kc : Nat) : Sd := ⟨d.sbs ++ [xb], d.ss ++ [sx], d.ks ++ [(ka, kc)], d.ends, d.full || decide (4000 < d.ss.length + 1)⟩
section
variable {d : Sd} {xb : Nat} {sx : Sx} {ka : Option Addr} {kc : Nat}
theorem push_ss {i : Nat} (hi : i < d.ss.length) : (d.push xb sx ka kc).ss.getD i default = d.ss.getD i default := by
  show (d.ss ++ [sx]).getD i default = _
  simp [List.getD, List.getElem?_append_left hi]
theorem push_new : (d.push xb sx ka kc).ss.getD d.ss.length default = sx := by
  show (d.ss ++ [sx]).getD d.ss.length default = _
  simp [List.getD]
theorem push_len : (d.push xb sx ka kc).ss.length = d.ss.length + 1 := by
  show (d.ss ++ [sx]).length = _
  simp
theorem push_key {i : Nat} (hi : i < d.ss.length) : keyL (d.push xb sx ka kc) i = keyL d i := by unfold keyL; rw [push_ss hi]
theorem push_keyN : keyL (d.push xb sx ka kc) d.ss.length = numsX sx := by unfold keyL; rw [push_new]
theorem push_sum {i : Nat} (hi : i < d.ss.length) : sumsD (d.push xb sx ka kc) i = sumsD d i := by unfold sumsD; rw [push_key hi]
theorem push_sumN : sumsD (d.push xb sx ka kc) d.ss.length = sumL (numsX sx) := by unfold sumsD; rw [push_keyN]
theorem push_before : beforeD (d.push xb sx ka kc) = beforeD d ++ [lastS (sumsD d) (sumL (numsX sx)) d.ss.length] := by
  unfold beforeD
  rw [push_len, List.range_succ, List.map_append]
  congr 1
  · refine List.map_congr_left fun i hi => ?_
    have hi' : i < d.ss.length := by simpa using hi
    rw [push_sum hi', last_congr i (fun j hj => push_sum (by omega))]
  · simp only [List.map_cons, List.map_nil]
    rw [push_sumN, last_congr d.ss.length (fun j hj => push_sum hj)]
theorem push_heads {h : Nat} (hh : sumL (numsX sx) = h) : headsD (d.push xb sx ka kc) = (headsD d).set h (d.ss.length : Nat) := by
  have hlt : h < 4096 := by rw [← hh]; exact sumL_lt _
  unfold headsD
  refine List.ext_getElem? fun i => ?_
  rw [List.getElem?_set, List.getElem?_map, List.getElem?_map]
  by_cases hi : i < 4096
  · rw [List.getElem?_range hi]
    by_cases he : h = i
    · subst he
      rw [if_pos rfl, if_pos (by simpa using hlt), push_len]
      show some (lastS _ h (d.ss.length + 1)) = _
      unfold lastS
      rw [if_pos (by rw [push_sumN]; exact hh)]
    · rw [if_neg he, push_len]
      show some (lastS _ i (d.ss.length + 1)) = some _
      rw [show lastS (sumsD (d.push xb sx ka kc)) i (d.ss.length + 1) = lastS (sumsD (d.push xb sx ka kc)) i d.ss.length by
        conv => lhs; unfold lastS
        rw [if_neg (by rw [push_sumN, hh]; exact he)], last_congr d.ss.length (fun j hj => push_sum hj)]
  · rw [List.getElem?_eq_none (by simpa using Nat.le_of_not_lt hi)]
    have hne : ¬ h = i := by omega
    rw [if_neg hne]
    rfl
theorem push_kv {i : Nat} (hk : d.ks.length = d.ss.length) (hi : i < d.ss.length) : keyV (d.push xb sx ka kc) i = keyV d i := by
  unfold keyV
  rw [push_key hi]
  have e : (d.push xb sx ka kc).ks.getD i default = d.ks.getD i default := by
    show (d.ks ++ [(ka, kc)]).getD i default = _
    simp [List.getD, List.getElem?_append_left (show i < d.ks.length by omega)]
  rw [e]
theorem push_kvN (hk : d.ks.length = d.ss.length) : keyV (d.push xb sx ka kc) d.ss.length = .slice ka (numsX sx).length kc := by
  unfold keyV
  rw [push_keyN]
  have e : (d.push xb sx ka kc).ks.getD d.ss.length default = (ka, kc) := by
    show (d.ks ++ [(ka, kc)]).getD d.ss.length default = _
    rw [← hk]
    simp [List.getD]
  rw [e]
theorem push_kvs (hk : d.ks.length = d.ss.length) : (List.range (d.push xb sx ka kc).ss.length).map (keyV (d.push xb sx ka kc)) = (List.range d.ss.length).map (keyV d) ++ [.slice ka (numsX sx).length kc] := by
  rw [push_len, List.range_succ, List.map_append]
  congr 1
  · exact List.map_congr_left fun i hi => push_kv hk (by simpa using hi)
  · simp only [List.map_cons, List.map_nil]
    rw [push_kvN hk]
end
end

section
open Go.RowKit

/-- The document's Check, of every program that lies in memory. -/
theorem rcheck_any (ca : Option Addr) (n cc : Nat) (wa : Option Addr) (m wc : Nat) (lk rg : Int) (A : Nat → Option Addr) (L C : Nat → Nat) (X : Nat → Nat → Nat → Int) (x y z : Int) (HR : Hid (chk n L X m lk rg = (x, y, z))) (w : World) (hp : PIn w ca n A L C X) :
    Calls Try.prog 7 #[prgV ca n cc wa m wc lk rg] w fun e w' => e = .returned (ints3 x y z) ∧ Below w.heap.size w w' := by
  have h := HR.out
  unfold chk sizesE at h
  by_cases h1 : (n : Int) < 1 ∨ 4 < (n : Int) ∨ 64 < (m : Int)
  · simp only [h1, if_true] at h
    simp at h
    obtain ⟨rfl, rfl, rfl⟩ := h
    exact rcheck_size ca n cc wa m wc lk rg h1 w
  · by_cases h2 : lk < 0 ∨ 4 < lk ∨ rg < 1 ∨ 200 < rg
    · simp only [h1, h2, if_true, if_false] at h
      simp at h
      obtain ⟨rfl, rfl, rfl⟩ := h
      exact rcheck_range ca n cc wa m wc lk rg (by omega) (by omega) h2 w
    · simp only [h1, h2, if_false, ne_eq, not_true_eq_false] at h
      exact rcheck_go ca n cc wa m wc lk rg A L C X x y z (by omega) (by omega) (by omega) (by omega) h w hp
end

end Go.Proofs.Ytefnmbnakphhfad
