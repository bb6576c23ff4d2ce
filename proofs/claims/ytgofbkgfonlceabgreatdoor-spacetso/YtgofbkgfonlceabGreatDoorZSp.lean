/-
  A memory with buffers that has just been made.
  All states that were come to, as the document holds them in memory; what stays as it was while its lists grow.
  One state more among those that were come to: what its lists become.
-/
import Derived.Test.YtgofbkgfonlceabGreatDoorTelP
import Derived.Test.YtgofbkgfonlceabGreatDoorRead
import Derived.Test.YtgofbkgfonlceabGreatDoorZPut
import Derived.Test.YtgofbkgfonlceabGreatDoorZCopy
import Derived.Test.YtgofbkgfonlceabGreatDoorWorkP
namespace Go.Proofs.YtgofbkgfonlceabGreatDoor
section
open Go.RowKit

theorem made_nils (n : Nat) : madeCells #[nilV] n = (List.replicate n nilV).toArray := by
  apply Array.ext'
  simp [madeCells]
  apply List.ext_getElem?
  intro i
  simp only [List.getElem?_map, List.getElem?_replicate]
  by_cases h : i < n
  · simp [h, Nat.mod_one]
  · simp [h]
theorem nils_row {w : World} {B g k : Nat} {ty : TypeId} (hB : B ≤ g) (hk : k ≤ 1000) (h : w.heap[g]? = some (.cells (madeCells #[nilV] k) ty (0, 0))) : w.ownsRow B ty 1 (.slice (some ⟨g, 0, none⟩) k k) k (List.replicate k nilV) := by
  rw [made_nils] at h
  refine ⟨by simp, Or.inr ⟨g, k, _, rfl, hB, h, Nat.le_refl _, by unfold maxLen; omega, by simp, ?_⟩⟩
  rw [List.take_of_length_le (by simp)]
theorem Mem0.low {w W0 w3 W : World} {mb lk : Nat} {wv ov : Value} {words : List Int} (h : Mem0 W0 w3 mb wv ov words lk) (h0 : Below w.heap.size w W0) (h3 : Below w3.heap.size w3 W) : Mem0 w W mb wv ov words lk := by
  have hl : mb < w3.heap.size := by
    rcases Nat.lt_or_ge mb w3.heap.size with h1 | h1
    · exact h1
    · have := h.box; rw [Array.getElem?_eq_none h1] at this; cases this
  exact ⟨(h3.block _ hl).trans h.box, fam_keeps (own_low h.wrow h0.size) (fun g e => h3.block g (h.wrow.lt g e).2), fam_keeps (own_low h.orow h0.size) (fun g e => h3.block g (h.orow.lt g e).2), Nat.le_trans h0.size h.lo, h.a1, h.a2, h.a3, (h0.trans (h.below.mono h0.size)).trans (h3.mono (Nat.le_trans h0.size h.below.size))⟩
/-- The rows of a memory with buffers that has just been made. -/
def b0V (mb bb g n : Nat) (wv ov : Value) : Rp → Value
  | .mem => boxV mb
  | .words => wv
  | .own => ov
  | .box => boxV bb
  | .bufs => .slice (some ⟨g, 0, none⟩) n n
  | _ => nilV
theorem Mem0.b {w W : World} {mb lk g n : Nat} {wv ov : Value} {words : List Int} (h : Mem0 w W mb wv ov words lk) (hn : n ≤ 4) (hg : W.heap[g]? = some (.cells (madeCells #[nilV] n) 251 (0, 0))) (hgl : w.heap.size ≤ g) (A : Nat → Option Addr) (L C : Nat → Nat) :
    MemQ ⟨A, L, C, bufK, W.heap.size, n⟩ w (W.alloc (.cells #[.pointer (some ⟨mb, 0, none⟩), .slice (some ⟨g, 0, none⟩) n n] 126)) mb (b0V mb W.heap.size g n wv ov) words lk := by
  have lt : ∀ k o, W.heap[k]? = some o → k < W.heap.size := fun k o hk => by
    rcases Nat.lt_or_ge k W.heap.size with h1 | h1
    · exact h1
    · rw [Array.getElem?_eq_none h1] at hk; cases hk
  have lm := lt _ _ h.box
  have lg := lt _ _ hg
  have c1 : g ≠ mb := fun e => by rw [e, h.box] at hg; simp at hg
  have c2 := own_type h.wrow hg (by decide)
  have c3 := own_type h.orow hg (by decide)
  have c4 : wv.ownBlock ≠ some W.heap.size := fun e => absurd (h.wrow.lt _ e).2 (by omega)
  have c5 : ov.ownBlock ≠ some W.heap.size := fun e => absurd (h.orow.lt _ e).2 (by omega)
  refine ⟨fun r hr => ?_, fun r q k hr hq => ?_, rfl, rfl, rfl, fun _ => rfl, rfl, fun _ => rfl, h.below.alloc h.below.size _⟩
  · cases r with
    | st => exact absurd rfl hr
    | mem => exact (fam_box (xs := [wv, ov]) h.lo h.box).alloc _
    | words => exact h.wrow.alloc _
    | own =>
      show World.ownsRow _ _ _ 1 ov (List.replicate lk (-1 : Int)).length _
      rw [List.length_replicate]
      exact h.orow.alloc _
    | thr => exact World.ownsRow_nil _ _ _ _
    | prints => exact World.ownsRow_nil _ _ _ _
    | regs t => exact World.ownsRow_nil _ _ _ _
    | box => exact fam_box (xs := [.pointer (some ⟨mb, 0, none⟩), .slice (some ⟨g, 0, none⟩) n n]) h.below.size (heap_alloc_new _ _)
    | bufs =>
      have e : pX ⟨A, L, C, bufK, W.heap.size, n⟩ mb (b0V mb W.heap.size g n wv ov) (sB words lk) .bufs = List.replicate n nilV := by
        show (List.range n).map (fun _ => nilV) = _
        exact List.eq_replicate_iff.2 ⟨by rw [List.length_map, List.length_range], fun b hb => by obtain ⟨_, _, e⟩ := List.mem_map.1 hb; exact e.symm⟩
      rw [e]
      exact (nils_row hgl (by omega) hg).alloc _
    | buf t => exact World.ownsRow_nil _ _ _ _
  · have s1 : ∀ b k, (boxV b).ownBlock = some k → k = b := fun b k e => by simpa [Value.ownBlock] using e.symm
    have s2 : ∀ b k, (Value.slice (some ⟨b, 0, none⟩) n n).ownBlock = some k → k = b := fun b k e => by simpa [Value.ownBlock] using e.symm
    have s3 : ∀ k, (nilV).ownBlock = some k → False := fun k e => by simp [Value.ownBlock] at e
    have a1 := h.a1
    have a2 := h.a2
    have a3 := h.a3
    have key : ∀ r k, (b0V mb W.heap.size g n wv ov r).ownBlock = some k → (r = .mem ∧ k = mb) ∨ (r = .words ∧ wv.ownBlock = some k) ∨ (r = .own ∧ ov.ownBlock = some k) ∨ (r = .box ∧ k = W.heap.size) ∨ (r = .bufs ∧ k = g) := fun r k e => by
      cases r with
      | mem => exact .inl ⟨rfl, s1 _ _ e⟩
      | words => exact .inr (.inl ⟨rfl, e⟩)
      | own => exact .inr (.inr (.inl ⟨rfl, e⟩))
      | box => exact .inr (.inr (.inr (.inl ⟨rfl, s1 _ _ e⟩)))
      | bufs => exact .inr (.inr (.inr (.inr ⟨rfl, s2 _ _ e⟩)))
      | st => exact (s3 _ e).elim
      | thr => exact (s3 _ e).elim
      | prints => exact (s3 _ e).elim
      | regs t => exact (s3 _ e).elim
      | buf t => exact (s3 _ e).elim
    rcases key r k hr with ⟨rfl, e1⟩ | ⟨rfl, e1⟩ | ⟨rfl, e1⟩ | ⟨rfl, e1⟩ | ⟨rfl, e1⟩ <;> rcases key q k hq with ⟨rfl, e2⟩ | ⟨rfl, e2⟩ | ⟨rfl, e2⟩ | ⟨rfl, e2⟩ | ⟨rfl, e2⟩ <;> first | rfl | (exfalso; omega) | (exfalso; subst e1; exact absurd e2 (by assumption)) | (exfalso; subst e2; exact absurd e1 (by assumption)) | (exact absurd e2 (a3 _ e1)) | (exact absurd e1 (a3 _ e2))

set_option maxRecDepth 100000 in
set_option maxHeartbeats 3200000 in
theorem newBuffered_any (w : World) (ca : Option Addr) (n cc : Nat) (wa : Option Addr) (wc lk rg : Nat) (words : List Int) (hw : SIs w wa words) (hnil : wa = none → words = [] ∧ wc = 0) (hm : words.length ≤ 64) (hlk : lk ≤ 4) (hn : n ≤ 4) :
    Calls Tryz.prog 31 #[prgV ca n cc wa words.length wc lk rg] w fun e w' => ∃ bb mb v, e = .returned (.pointer (some ⟨bb, 0, none⟩)) ∧ ∀ A L C, MemQ ⟨A, L, C, bufK, bb, n⟩ w w' mb v words lk := by
  have HNEW : Hid (∀ W, Below w.heap.size w W → Calls Tryz.prog 25 #[prgV ca n cc wa words.length wc lk rg] W fun e w' => ∃ mb wv ov, e = .returned (.pointer (some ⟨mb, 0, none⟩)) ∧ Mem0 W w' mb wv ov words lk) := fun W hb => newPlain_any W ca n cc wa wc lk rg words (hw.below hb) hnil hm hlk
  have hmk := fun W => run_make_row' (P := Tryz.prog) 124 251 nilV 24 Tryz.underlying124 (by kernel_rfl) rfl .i64 .i64 n (by omega) (by omega) W
  obtain ⟨m, hmm⟩ : ∃ m, words.length = m := ⟨_, rfl⟩
  rw [hmm] at HNEW ⊢
  clear hw hnil hm hmm
  have HN4 : Hid (n ≤ 4) := hn
  clear hn hlk
  go_enter Tryz.func31, Tryz.ntmps31
  go_wp2
  have q0 : (w.alloc (.cells #[.slice ca n cc, .slice wa m wc, .int .i64 (lk : Int), .int .i64 (rg : Int)] 25)).cell? ⟨w.heap.size, 0, none⟩ = some (.slice ca n cc) := by go_simp
  have q1 : (w.alloc (.cells #[.slice ca n cc, .slice wa m wc, .int .i64 (lk : Int), .int .i64 (rg : Int)] 25)).cell? ⟨w.heap.size, 1, none⟩ = some (.slice wa m wc) := by go_simp
  have q2 : (w.alloc (.cells #[.slice ca n cc, .slice wa m wc, .int .i64 (lk : Int), .int .i64 (rg : Int)] 25)).cell? ⟨w.heap.size, 2, none⟩ = some (.int .i64 (lk : Int)) := by go_simp
  have q3 : (w.alloc (.cells #[.slice ca n cc, .slice wa m wc, .int .i64 (lk : Int), .int .i64 (rg : Int)] 25)).cell? ⟨w.heap.size, 3, none⟩ = some (.int .i64 (rg : Int)) := by go_simp
  have HB1 : Hid (Below w.heap.size w (w.alloc (.cells #[.slice ca n cc, .slice wa m wc, .int .i64 (lk : Int), .int .i64 (rg : Int)] 25))) := (Below.refl _ _).alloc (Nat.le_refl _) _
  have hs1 : (w.alloc (.cells #[.slice ca n cc, .slice wa m wc, .int .i64 (lk : Int), .int .i64 (rg : Int)] 25)).heap.size = w.heap.size + 1 := by simp
  obtain ⟨W1, hW1⟩ : ∃ W1, w.alloc (.cells #[.slice ca n cc, .slice wa m wc, .int .i64 (lk : Int), .int .i64 (rg : Int)] 25) = W1 := ⟨_, rfl⟩
  rw [hW1] at q0 q1 q2 q3 HB1 hs1 ⊢
  clear hW1
  go_region_held3 (fun w' => w'.cell? ⟨w.heap.size, 0, none⟩ = some (.slice ca n cc) ∧ w'.cell? ⟨w.heap.size, 1, none⟩ = some (.slice wa m wc) ∧ w'.cell? ⟨w.heap.size, 2, none⟩ = some (.int .i64 (lk : Int)) ∧ w'.cell? ⟨w.heap.size, 3, none⟩ = some (.int .i64 (rg : Int))) (refine ⟨?_, ?_, ?_, ?_⟩ <;> (repeat (first | with_reducible assumption | with_reducible refine cell_drw ?_ | with_reducible refine cell_up ?_ _))) ((go_at_call 25; refine Calls.mono (HNEW.out _ (by repeat (first | exact HB1.out | refine Below.drew ?_ | refine Below.alloc ?_ (by have := HB1.out.size; simp; omega) _))) ?_; rintro e w3 ⟨mb, wv, ov, rfl, hm⟩; have z0 : w3.cell? ⟨w.heap.size, 0, none⟩ = some (.slice ca n cc) := (hm.below.cell (p := ⟨w.heap.size, 0, none⟩) (by show w.heap.size < _; simp; omega)).trans (by repeat (first | exact q0 | refine cell_drw ?_ | refine cell_up ?_ _)); have z1 : w3.cell? ⟨w.heap.size, 1, none⟩ = some (.slice wa m wc) := (hm.below.cell (p := ⟨w.heap.size, 1, none⟩) (by show w.heap.size < _; simp; omega)).trans (by repeat (first | exact q1 | refine cell_drw ?_ | refine cell_up ?_ _)); have z2 : w3.cell? ⟨w.heap.size, 2, none⟩ = some (.int .i64 (lk : Int)) := (hm.below.cell (p := ⟨w.heap.size, 2, none⟩) (by show w.heap.size < _; simp; omega)).trans (by repeat (first | exact q2 | refine cell_drw ?_ | refine cell_up ?_ _)); have z3 : w3.cell? ⟨w.heap.size, 3, none⟩ = some (.int .i64 (rg : Int)) := (hm.below.cell (p := ⟨w.heap.size, 3, none⟩) (by show w.heap.size < _; simp; omega)).trans (by repeat (first | exact q3 | refine cell_drw ?_ | refine cell_up ?_ _)); have HM := Hid.out (p := Hid _) hm; clear hm))
  all_goals go_wp2
  all_goals go_ret
  · refine ⟨w3.heap.size + 1, mb, b0V mb (w3.heap.size + 1) w3.heap.size n wv ov, rfl, fun A L C => ?_⟩
    have h := (HM.out.low HB1.out.drew ((Below.refl _ _).alloc (Nat.le_refl _) (.cells (madeCells #[nilV] n) 251))).b HN4.out (heap_alloc_new _ _) (Nat.le_trans HB1.out.drew.size HM.out.below.size) A L C
    rw [World.size_alloc] at h
    exact h
  · refine ⟨w3.heap.size, mb, b0V mb w3.heap.size (w.heap.size + 1) n wv ov, rfl, fun A L C => ?_⟩
    have hg : (W1.alloc (.cells (madeCells #[nilV] n) 251)).heap[w.heap.size + 1]? = some (.cells (madeCells #[nilV] n) 251 (0, 0)) := by
      have := heap_alloc_new W1 (.cells (madeCells #[nilV] n) 251)
      rwa [hs1] at this
    exact (HM.out.low (HB1.out.alloc HB1.out.size _).drew (Below.refl _ _)).b HN4.out ((HM.out.below.block _ (by simp [hs1])).trans hg) (Nat.le_succ _) A L C
end

section
open Go.RowKit

section
variable {ι : Type} {w w' : World} {vf vf' : ι → Value}
/-- Something that lies outside of rows that have turned is as it was, and still outside. -/
theorem DSt.moved {B : Nat} {P : Pg} {sb : Nat} {v : Rl → Value} {s : Sx} (h : DSt w B P sb v s) (ho : ∀ r g, (v r).ownBlock = some g → ∀ q, (vf q).ownBlock ≠ some g) (hm : Moved w w' vf vf') : DSt w' B P sb v s ∧ ∀ r g, (v r).ownBlock = some g → ∀ q, (vf' q).ownBlock ≠ some g :=
  ⟨⟨⟨fun r => fam_keeps (h.fam.own r) (fun g hg => hm.block g (h.fam.lt hg) (ho r g hg)), h.fam.apart⟩, h.box⟩, fun r g hg => hm.out (h.fam.lt hg) (ho r g hg)⟩
theorem IsI.moved {B : Nat} {a : Option Addr} {len c : Nat} {xs : List Int} (h : IsI w B a len c xs) (ho : ∀ g, (Value.slice a len c).ownBlock = some g → ∀ q, (vf q).ownBlock ≠ some g) (hm : Moved w w' vf vf') : IsI w' B a len c xs ∧ ∀ g, (Value.slice a len c).ownBlock = some g → ∀ q, (vf' q).ownBlock ≠ some g :=
  ⟨⟨h.is, fam_keeps h.own (fun g hg => hm.block g (h.own.lt g hg).2 (ho g hg))⟩, fun g hg => hm.out (h.own.lt g hg).2 (ho g hg)⟩
/-- A list of numbers that lies outside of rows. -/
def LIo (w : World) (vf : ι → Value) (a : Option Addr) (x : List Int) : Prop := ∀ i, i < x.length → ∃ b o, a = some ⟨b, o, none⟩ ∧ w.cell? ⟨b, o + i, none⟩ = some (.int .i64 (x.getD i 0)) ∧ ∀ q, (vf q).ownBlock ≠ some b
theorem LIo.li {a : Option Addr} {x : List Int} (h : LIo w vf a x) : LI w a x := fun i hi => by
  obtain ⟨b, o, h1, h2, _⟩ := h i hi
  exact ⟨b, o, h1, h2⟩
theorem LIo.moved {a : Option Addr} {x : List Int} (h : LIo w vf a x) (hm : Moved w w' vf vf') : LIo w' vf' a x := fun i hi => by
  obtain ⟨b, o, h1, h2, h3⟩ := h i hi
  exact ⟨b, o, h1, (hm.cell (a := ⟨b, o + i, none⟩) (lt_of_cell h2) h3).trans h2, hm.out (lt_of_cell h2) h3⟩
end

/-- The rows of a space. -/
inductive Sr where
  | box
  | st
  | ks
  | hd
  | bf
deriving DecidableEq
def sTy : Sr → TypeId
  | .box => 39
  | .st => 84
  | .ks => 23
  | _ => 3
def sSz : Sr → Nat
  | .box => 6
  | _ => 1
/-- What a space holds: where its states lie, the states, where their numbers lie, the outcomes, whether there are too many. -/
structure Sd where
  sbs : List Nat
  ss : List Sx
  ks : List (Option Addr × Nat)
  ends : Value
  full : Bool
def keyL (d : Sd) (i : Nat) : List Int := numsX (d.ss.getD i default)
def sumsD (d : Sd) (i : Nat) : Nat := sumL (keyL d i)
def keyV (d : Sd) (i : Nat) : Value := .slice (d.ks.getD i default).1 (keyL d i).length (d.ks.getD i default).2
def headsD (d : Sd) : List Int := (List.range 4096).map fun h => lastS (sumsD d) h d.ss.length
def beforeD (d : Sd) : List Int := (List.range d.ss.length).map fun i => lastS (sumsD d) (sumsD d i) i
def sN (d : Sd) : Sr → Nat
  | .box => 1
  | .hd => 4096
  | _ => d.ss.length
def sX (v : Sr → Value) (d : Sd) : Sr → List Value
  | .box => [v .st, v .ks, v .hd, v .bf, d.ends, .bool d.full]
  | .st => d.sbs.map fun b => .pointer (some ⟨b, 0, none⟩)
  | .ks => (List.range d.ss.length).map (keyV d)
  | .hd => intsV (headsD d)
  | .bf => intsV (beforeD d)
structure SpIn (w : World) (B : Nat) (P : Pg) (pb : Nat) (v : Sr → Value) (d : Sd) : Prop where
  fam : Fam w B sTy sSz v (sN d) (sX v d)
  box : v .box = boxV pb
  len : d.sbs.length = d.ss.length
  klen : d.ks.length = d.ss.length
  states : ∀ i, i < d.ss.length → ∃ B' v', DSt w B' P (d.sbs.getD i 0) v' (d.ss.getD i default) ∧ ∀ r g, (v' r).ownBlock = some g → ∀ q, (v q).ownBlock ≠ some g
  keys : ∀ i, i < d.ss.length → ∃ B', IsI w B' (d.ks.getD i default).1 (keyL d i).length (d.ks.getD i default).2 (keyL d i) ∧ ∀ g, (keyV d i).ownBlock = some g → ∀ q, (v q).ownBlock ≠ some g
section
variable {w w1 : World} {B : Nat} {P : Pg} {pb : Nat} {v : Sr → Value} {d : Sd}
theorem SpIn.below (h : SpIn w B P pb v d) (hb : Below w.heap.size w w1) : SpIn w1 B P pb v d :=
  ⟨h.fam.below hb, h.box, h.len, h.klen, fun i hi => by
    obtain ⟨B', v', h1, h2⟩ := h.states i hi
    exact ⟨B', v', h1.below hb, h2⟩, fun i hi => by
    obtain ⟨B', h1, h2⟩ := h.keys i hi
    exact ⟨B', h1.below hb, h2⟩⟩
theorem SpIn.bblk (h : SpIn w B P pb v d) : (v .box).ownBlock = some pb := by rw [h.box]; rfl
theorem SpIn.c0 (h : SpIn w B P pb v d) : w.cell? ⟨pb, 0, none⟩ = some (v .st) := h.fam.cell h.bblk rfl
theorem SpIn.c1 (h : SpIn w B P pb v d) : w.cell? ⟨pb, 1, none⟩ = some (v .ks) := h.fam.cell h.bblk rfl
theorem SpIn.c2 (h : SpIn w B P pb v d) : w.cell? ⟨pb, 2, none⟩ = some (v .hd) := h.fam.cell h.bblk rfl
theorem SpIn.c3 (h : SpIn w B P pb v d) : w.cell? ⟨pb, 3, none⟩ = some (v .bf) := h.fam.cell h.bblk rfl
theorem SpIn.c4 (h : SpIn w B P pb v d) : w.cell? ⟨pb, 4, none⟩ = some d.ends := h.fam.cell h.bblk rfl
theorem SpIn.c5 (h : SpIn w B P pb v d) : w.cell? ⟨pb, 5, none⟩ = some (.bool d.full) := h.fam.cell h.bblk rfl
theorem SpIn.hdB (h : SpIn w B P pb v d) : ∃ hb hc, v .hd = .slice (some ⟨hb, 0, none⟩) 4096 hc ∧ (v .hd).ownBlock = some hb := by
  obtain ⟨g, c, h1, h2, _, _⟩ := fam_block (h.fam.own .hd) (by show 0 < 4096; omega)
  exact ⟨g, c, h1, h2⟩
theorem SpIn.head (h : SpIn w B P pb v d) {hb k : Nat} (e : (v .hd).ownBlock = some hb) (hk : k < 4096) : w.cell? ⟨hb, k, none⟩ = some (.int .i64 (lastS (sumsD d) k d.ss.length)) := by
  refine h.fam.cell e (u := .int .i64 _) ?_
  show (intsV (headsD d))[k]? = _
  unfold intsV headsD
  rw [List.map_map, List.getElem?_map, List.getElem?_range hk]
  rfl
theorem SpIn.bfB (h : SpIn w B P pb v d) (hn : 0 < d.ss.length) : ∃ hb hc, v .bf = .slice (some ⟨hb, 0, none⟩) d.ss.length hc ∧ (v .bf).ownBlock = some hb := by
  obtain ⟨g, c, h1, h2, _, _⟩ := fam_block (h.fam.own .bf) (by exact hn)
  exact ⟨g, c, h1, h2⟩
theorem SpIn.before (h : SpIn w B P pb v d) {hb i : Nat} (e : (v .bf).ownBlock = some hb) (hi : i < d.ss.length) : w.cell? ⟨hb, i, none⟩ = some (.int .i64 (lastS (sumsD d) (sumsD d i) i)) := by
  refine h.fam.cell e (u := .int .i64 _) ?_
  show (intsV (beforeD d))[i]? = _
  unfold intsV beforeD
  rw [List.map_map, List.getElem?_map, List.getElem?_range hi]
  rfl
theorem SpIn.ksB (h : SpIn w B P pb v d) (hn : 0 < d.ss.length) : ∃ hb hc, v .ks = .slice (some ⟨hb, 0, none⟩) d.ss.length hc ∧ (v .ks).ownBlock = some hb := by
  obtain ⟨g, c, h1, h2, _, _⟩ := fam_block (h.fam.own .ks) (by exact hn)
  exact ⟨g, c, h1, h2⟩
theorem SpIn.key (h : SpIn w B P pb v d) {hb i : Nat} (e : (v .ks).ownBlock = some hb) (hi : i < d.ss.length) : w.cell? ⟨hb, i, none⟩ = some (keyV d i) := by
  refine h.fam.cell e ?_
  show ((List.range d.ss.length).map (keyV d))[i]? = _
  rw [List.getElem?_map, List.getElem?_range hi]
  rfl
end
end

section
open Go.RowKit

theorem infoP : (Tryz.prog.info? 84).map (fun i => (i.zero, i.size, i.bytes)) = some (some (.pointer none), 1, 8) := by kernel_rfl
theorem infoL : (Tryz.prog.info? 23).map (fun i => (i.zero, i.size, i.bytes)) = some (some nilV, 1, 24) := by kernel_rfl

section
variable {ι : Type} [DecidableEq ι] {w w1 : World} {B : Nat} {ty : ι → TypeId} {sz : ι → Nat} {v : ι → Value} {n : ι → Nat} {xs : ι → List Value}
/-- A row that grew. -/
theorem Fam.grew (h : Fam w B ty sz v n xs) {r : ι} {g m c H : Nat} {ys : List Value} (hown : w1.ownsRow B (ty r) (sz r) (.slice (some ⟨g, 0, none⟩) m c) m ys) (hgrow : w.grownBy w1 (v r).ownBlock) (hat : (v r).ownBlock = some g ∨ g = H) (hH : w.heap.size ≤ H) :
    Fam w1 B ty sz (upd v r (.slice (some ⟨g, 0, none⟩) m c)) (upd n r m) (upd xs r ys) :=
  h.grow (r := r) (n1 := upd n r m) (xs1 := upd xs r ys) hown hgrow hat hH (upd_self _ _ _) (fun _ hq => upd_ne _ _ hq) (upd_self _ _ _) (fun _ hq => upd_ne _ _ hq)
theorem Fam.store (h : Fam w B ty sz v n xs) {r : ι} {g : Nat} (e : (v r).ownBlock = some g) (i : Nat) (u : Value) : Fam (w.setCell ⟨g, i, none⟩ u) B ty sz v n (upd xs r ((xs r).set i u)) :=
  h.put e i u (fun _ => rfl) (upd_self _ _ _) (fun _ hq => upd_ne _ _ hq)
end

/-- One state more. -/
def Sd.push (d : Sd) (xb : Nat) (sx : Sx) (ka : Option Addr) (kc : Nat) : Sd := ⟨d.sbs ++ [xb], d.ss ++ [sx], d.ks ++ [(ka, kc)], d.ends, d.full || decide (4000 < d.ss.length + 1)⟩
section
variable {d : Sd} {xb : Nat} {sx : Sx} {ka : Option Addr} {kc : Nat}
theorem push_ss {i : Nat} (hi : i < d.ss.length) : (d.push xb sx ka kc).ss.getD i default = d.ss.getD i default := by
  show (d.ss ++ [sx]).getD i default = _
  simp [List.getD, List.getElem?_append_left hi]
theorem push_new : (d.push xb sx ka kc).ss.getD d.ss.length default = sx := by
  show (d.ss ++ [sx]).getD d.ss.length default = _
  simp [List.getD]
theorem push_len : (d.push xb sx ka kc).ss.length = d.ss.length + 1 := by
  show (d.ss ++ [sx]).length = _
  simp
theorem push_key {i : Nat} (hi : i < d.ss.length) : keyL (d.push xb sx ka kc) i = keyL d i := by unfold keyL; rw [push_ss hi]
theorem push_keyN : keyL (d.push xb sx ka kc) d.ss.length = numsX sx := by unfold keyL; rw [push_new]
theorem push_sum {i : Nat} (hi : i < d.ss.length) : sumsD (d.push xb sx ka kc) i = sumsD d i := by unfold sumsD; rw [push_key hi]
theorem push_sumN : sumsD (d.push xb sx ka kc) d.ss.length = sumL (numsX sx) := by unfold sumsD; rw [push_keyN]
theorem push_before : beforeD (d.push xb sx ka kc) = beforeD d ++ [lastS (sumsD d) (sumL (numsX sx)) d.ss.length] := by
  unfold beforeD
  rw [push_len, List.range_succ, List.map_append]
  congr 1
  · refine List.map_congr_left fun i hi => ?_
    have hi' : i < d.ss.length := by simpa using hi
    rw [push_sum hi', last_congr i (fun j hj => push_sum (by omega))]
  · simp only [List.map_cons, List.map_nil]
    rw [push_sumN, last_congr d.ss.length (fun j hj => push_sum hj)]
theorem push_heads {h : Nat} (hh : sumL (numsX sx) = h) : headsD (d.push xb sx ka kc) = (headsD d).set h (d.ss.length : Nat) := by
  have hlt : h < 4096 := by rw [← hh]; exact sumL_lt _
  unfold headsD
  refine List.ext_getElem? fun i => ?_
  rw [List.getElem?_set, List.getElem?_map, List.getElem?_map]
  by_cases hi : i < 4096
  · rw [List.getElem?_range hi]
    by_cases he : h = i
    · subst he
      rw [if_pos rfl, if_pos (by simpa using hlt), push_len]
      show some (lastS _ h (d.ss.length + 1)) = _
      unfold lastS
      rw [if_pos (by rw [push_sumN]; exact hh)]
    · rw [if_neg he, push_len]
      show some (lastS _ i (d.ss.length + 1)) = some _
      rw [show lastS (sumsD (d.push xb sx ka kc)) i (d.ss.length + 1) = lastS (sumsD (d.push xb sx ka kc)) i d.ss.length by
        conv => lhs; unfold lastS
        rw [if_neg (by rw [push_sumN, hh]; exact he)], last_congr d.ss.length (fun j hj => push_sum hj)]
  · rw [List.getElem?_eq_none (by simpa using Nat.le_of_not_lt hi)]
    have hne : ¬ h = i := by omega
    rw [if_neg hne]
    rfl
theorem push_kv {i : Nat} (hk : d.ks.length = d.ss.length) (hi : i < d.ss.length) : keyV (d.push xb sx ka kc) i = keyV d i := by
  unfold keyV
  rw [push_key hi]
  have e : (d.push xb sx ka kc).ks.getD i default = d.ks.getD i default := by
    show (d.ks ++ [(ka, kc)]).getD i default = _
    simp [List.getD, List.getElem?_append_left (show i < d.ks.length by omega)]
  rw [e]
theorem push_kvN (hk : d.ks.length = d.ss.length) : keyV (d.push xb sx ka kc) d.ss.length = .slice ka (numsX sx).length kc := by
  unfold keyV
  rw [push_keyN]
  have e : (d.push xb sx ka kc).ks.getD d.ss.length default = (ka, kc) := by
    show (d.ks ++ [(ka, kc)]).getD d.ss.length default = _
    rw [← hk]
    simp [List.getD]
  rw [e]
theorem push_kvs (hk : d.ks.length = d.ss.length) : (List.range (d.push xb sx ka kc).ss.length).map (keyV (d.push xb sx ka kc)) = (List.range d.ss.length).map (keyV d) ++ [.slice ka (numsX sx).length kc] := by
  rw [push_len, List.range_succ, List.map_append]
  congr 1
  · exact List.map_congr_left fun i hi => push_kv hk (by simpa using hi)
  · simp only [List.map_cons, List.map_nil]
    rw [push_kvN hk]
end
end

end Go.Proofs.YtgofbkgfonlceabGreatDoor
