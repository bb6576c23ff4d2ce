/-
  A state that is being begun: its words, one lock more, one thread more.
  The document's state ahead of the first step.
-/
import Derived.Test.YtocfocjnnjdcgaaDoorRDone
import Derived.Deep.AppendSrc
import Derived.Deep.OwnRows
namespace Go.Proofs.YtocfocjnnjdcgaaDoor
section
open Go.RowKit

section
variable {w w1 : World} {B : Nat} {P : Pg} {sb : Nat} {v : Rl → Value} {s : Sx}
/-- One lock more. -/
theorem DSt.pushOwn (h : DSt w B P sb v s) {g c H : Nat} {a : Int} (hown : w1.ownsRow B 3 1 (.slice (some ⟨g, 0, none⟩) (s.own.length + 1) c) (s.own.length + 1) (intsV s.own ++ [.int .i64 a])) (hgrow : w.grownBy w1 (v .own).ownBlock) (hat : (v .own).ownBlock = some g ∨ g = H) (hH : w.heap.size ≤ H) :
    DSt (w1.setCell ⟨sb, 7, none⟩ (.slice (some ⟨g, 0, none⟩) (s.own.length + 1) c)) B P sb (upd v .own (.slice (some ⟨g, 0, none⟩) (s.own.length + 1) c)) { s with own := s.own ++ [a] } := by
  obtain ⟨x, hx⟩ : ∃ x : Value, x = .slice (some ⟨g, 0, none⟩) (s.own.length + 1) c := ⟨_, rfl⟩
  have h1 := h.fam.grow (r := .own) (n1 := rN { s with own := s.own ++ [a] }) (xs1 := fun q => if q = .own then intsV s.own ++ [.int .i64 a] else rX P v s q) hown hgrow hat hH (by simp [rN]) (fun q hq => by cases q <;> first | rfl | exact absurd rfl hq) (if_pos rfl) (fun q hq => if_neg hq)
  rw [← hx] at h1 ⊢
  refine ⟨h1.put (r := .box) (by rw [upd_ne _ _ (by decide)]; exact h.bblk) 7 _ (fun q => rfl) ?_ (fun q hq => ?_), by rw [upd_ne _ _ (by decide)]; exact h.box⟩
  · rw [if_neg (by decide)]
    simp only [rX, upd_self]
    rw [upd_ne _ _ (by decide), upd_ne _ _ (by decide), upd_ne _ _ (by decide)]
    rfl
  · cases q with
    | box => exact absurd rfl hq
    | own => rw [if_pos rfl]; simp [rX, intsV]
    | thr =>
      rw [if_neg (by decide)]
      refine rows3_congr fun a b _ => ?_
      unfold thrC
      rw [upd_ne _ _ (by simp), upd_ne _ _ (by simp)]
      rfl
    | words => rw [if_neg (by decide)]; rfl
    | prints => rw [if_neg (by decide)]; rfl
    | regs u => rw [if_neg (by simp)]; rfl
    | wait u => rw [if_neg (by simp)]; rfl
/-- The words. -/
theorem DSt.layWords (h : DSt w B P sb v s) {g : Nat} {x : Value} {l : List Int} (hx : x.ownBlock = some g) (h0 : (v .words).ownBlock = none) (hg : ∀ q, (v q).ownBlock ≠ some g) (hown : w.ownsRow B 3 1 x l.length (intsV l)) :
    DSt (w.setCell ⟨sb, 6, none⟩ x) B P sb (upd v .words x) { s with words := l } := by
  have h1 := h.fam.lay (r := .words) (n1 := rN { s with words := l }) (xs1 := fun q => if q = .words then intsV l else rX P v s q) hx h0 hg (by rw [if_pos rfl]; exact hown) (fun q hq => by cases q <;> first | rfl | exact absurd rfl hq) (fun q hq => if_neg hq)
  refine ⟨h1.put (r := .box) (by rw [upd_ne _ _ (by decide)]; exact h.bblk) 6 _ (fun q => rfl) ?_ (fun q hq => ?_), by rw [upd_ne _ _ (by decide)]; exact h.box⟩
  · rw [if_neg (by decide)]
    simp only [rX, upd_self]
    rw [upd_ne _ _ (by decide), upd_ne _ _ (by decide), upd_ne _ _ (by decide)]
    rfl
  · cases q with
    | box => exact absurd rfl hq
    | words => rw [if_pos rfl]; rfl
    | thr =>
      rw [if_neg (by decide)]
      refine rows3_congr fun a b _ => ?_
      unfold thrC
      rw [upd_ne _ _ (by simp), upd_ne _ _ (by simp)]
      rfl
    | own => rw [if_neg (by decide)]; rfl
    | prints => rw [if_neg (by decide)]; rfl
    | regs u => rw [if_neg (by simp)]; rfl
    | wait u => rw [if_neg (by simp)]; rfl

def newT (rg : Nat) : Th := ⟨0, List.replicate rg 0, []⟩
theorem thOf_push {s : Sx} (x : Th) (u : Nat) : thOf { s with ths := s.ths ++ [x] } u = if u = s.ths.length then x else thOf s u := by
  unfold thOf
  simp only [List.getD]
  by_cases h : u = s.ths.length
  · subst h; simp
  · rw [if_neg h]
    rcases Nat.lt_or_ge u s.ths.length with h1 | h1
    · rw [List.getElem?_append_left h1]
    · rw [List.getElem?_append_right h1, List.getElem?_eq_none h1, List.getElem?_eq_none (by simp; omega)]
/-- One thread more, with its registers in a new block gr. -/
theorem DSt.pushThr (h : DSt w B P sb v s) {rg gr : Nat} (hr : w.ownsRow B 3 1 (.slice (some ⟨gr, 0, none⟩) rg rg) rg (intsV (List.replicate rg 0))) (hr0 : v (.regs s.ths.length) = nilV) (hw0 : v (.wait s.ths.length) = nilV) (hrf : ∀ q, (v q).ownBlock ≠ some gr)
    {g c H : Nat} (hown : w1.ownsRow B 159 3 (.slice (some ⟨g, 0, none⟩) (s.ths.length + 1) c) (s.ths.length + 1) (rows3 s.ths.length (thrC v s) ++ [.int .i64 0, .slice (some ⟨gr, 0, none⟩) rg rg, nilV])) (hgrow : w.grownBy w1 (v .thr).ownBlock) (hat : (v .thr).ownBlock = some g ∨ g = H) (hH : w.heap.size ≤ H) :
    DSt (w1.setCell ⟨sb, 5, none⟩ (.slice (some ⟨g, 0, none⟩) (s.ths.length + 1) c)) B P sb (upd (upd v (.regs s.ths.length) (.slice (some ⟨gr, 0, none⟩) rg rg)) .thr (.slice (some ⟨g, 0, none⟩) (s.ths.length + 1) c)) { s with ths := s.ths ++ [newT rg] } := by
  obtain ⟨x, hx⟩ : ∃ x : Value, x = .slice (some ⟨g, 0, none⟩) (s.ths.length + 1) c := ⟨_, rfl⟩
  obtain ⟨y, hy⟩ : ∃ y : Value, y = .slice (some ⟨gr, 0, none⟩) rg rg := ⟨_, rfl⟩
  have hyb : y.ownBlock = some gr := by rw [hy]; rfl
  have hd : thOf s s.ths.length = default := by unfold thOf; simp [List.getD]
  have h0 := h.fam.lay (r := .regs s.ths.length) (n1 := fun q => if q = .regs s.ths.length then rg else rN s q) (xs1 := fun q => if q = .regs s.ths.length then intsV (List.replicate rg 0) else rX P v s q) hyb (by rw [hr0]; rfl) hrf (by rw [if_pos rfl, if_pos rfl, hy]; exact hr) (fun q hq => if_neg hq) (fun q hq => if_neg hq)
  have h1 := h0.grow (r := .thr) (n1 := rN { s with ths := s.ths ++ [newT rg] }) (xs1 := fun q => if q = .thr then rows3 s.ths.length (thrC v s) ++ [.int .i64 0, y, nilV] else if q = .regs s.ths.length then intsV (List.replicate rg 0) else rX P v s q) (by rw [hy]; exact hown) (by rw [upd_ne _ _ (by simp)]; exact hgrow) (by rw [upd_ne _ _ (by simp)]; exact hat) hH (by simp [rN]) (fun q hq => by
    cases q with
    | thr => exact absurd rfl hq
    | regs u =>
      show (thOf { s with ths := s.ths ++ [newT rg] } u).regs.length = _
      rw [thOf_push]
      by_cases hu : u = s.ths.length
      · rw [if_pos hu, if_pos (by rw [hu])]; simp [newT]
      · rw [if_neg hu, if_neg (by simpa using hu)]; rfl
    | wait u =>
      rw [if_neg (by simp)]
      show (thOf { s with ths := s.ths ++ [newT rg] } u).wait.length = (thOf s u).wait.length
      rw [thOf_push]
      by_cases hu : u = s.ths.length
      · rw [if_pos hu, hu, hd]; rfl
      · rw [if_neg hu]
    | box => rw [if_neg (by simp)]; rfl
    | words => rw [if_neg (by simp)]; rfl
    | own => rw [if_neg (by simp)]; rfl
    | prints => rw [if_neg (by simp)]; rfl) (if_pos rfl) (fun q hq => if_neg hq)
  rw [← hx, ← hy] at *
  refine ⟨h1.put (r := .box) (by rw [upd_ne _ _ (by decide), upd_ne _ _ (by simp)]; exact h.bblk) 5 _ (fun q => rfl) ?_ (fun q hq => ?_), by rw [upd_ne _ _ (by decide), upd_ne _ _ (by simp)]; exact h.box⟩
  · rw [if_neg (by decide), if_neg (by simp)]
    simp only [rX, upd_self]
    rw [upd_ne _ _ (by decide), upd_ne _ _ (by simp), upd_ne _ _ (by decide), upd_ne _ _ (by simp), upd_ne _ _ (by decide), upd_ne _ _ (by simp)]
    rfl
  · cases q with
    | box => exact absurd rfl hq
    | thr =>
      rw [if_pos rfl]
      show rows3 (s.ths ++ [newT rg]).length (thrC _ { s with ths := s.ths ++ [newT rg] }) = _
      rw [List.length_append, List.length_singleton, rows3_snoc]
      congr 1
      · refine rows3_congr fun a b ha => ?_
        unfold thrC
        have e1 : thOf { s with ths := s.ths ++ [newT rg] } a = thOf s a := by rw [thOf_push, if_neg (by omega)]
        rw [e1, upd_ne _ _ (by simp), upd_ne _ _ (by simp; omega), upd_ne _ _ (by simp), upd_ne _ _ (by simp)]
      · have e1 : thOf { s with ths := s.ths ++ [newT rg] } s.ths.length = newT rg := by rw [thOf_push, if_pos rfl]
        unfold thrC
        rw [e1]
        simp only [if_true]
        rw [upd_ne _ _ (by simp), upd_self, upd_ne _ _ (by simp), upd_ne _ _ (by simp), hw0]
        simp [newT]
    | regs u =>
      rw [if_neg (by simp)]
      show intsV (thOf { s with ths := s.ths ++ [newT rg] } u).regs = _
      rw [thOf_push]
      by_cases hu : u = s.ths.length
      · rw [if_pos hu, if_pos (by rw [hu])]; rfl
      · rw [if_neg hu, if_neg (by simpa using hu)]; rfl
    | wait u =>
      rw [if_neg (by simp), if_neg (by simp)]
      show Go.Proofs.YtocfocjnnjdcgaaDoor.waitV (thOf { s with ths := s.ths ++ [newT rg] } u).wait = Go.Proofs.YtocfocjnnjdcgaaDoor.waitV (thOf s u).wait
      rw [thOf_push]
      by_cases hu : u = s.ths.length
      · rw [if_pos hu, hu, hd]; rfl
      · rw [if_neg hu]
    | words => rw [if_neg (by simp), if_neg (by simp)]; rfl
    | own => rw [if_neg (by simp), if_neg (by simp)]; rfl
    | prints => rw [if_neg (by simp), if_neg (by simp)]; rfl
end
/-- The state's box alone. -/
def v0 (sb : Nat) : Rl → Value := fun q => if q = .box then boxV sb else nilV
def s0 : Sx := { ths := [], words := [], own := [], prints := [], fell := false }
theorem DSt.start (w : World) (B : Nat) (P : Pg) (sb : Nat) (hB : B ≤ sb) (h : w.heap[sb]? = some (.cells #[.slice P.ca P.n P.cc, .slice P.wa P.m P.wc, .int .i64 P.lk, .int .i64 P.rg, .int .i64 P.mode, nilV, nilV, nilV, nilV, .bool false] 136)) : DSt w B P sb (v0 sb) s0 := by
  refine ⟨⟨fun r => ?_, fun r q g hr hq => ?_⟩, by simp [v0]⟩
  · cases r with
    | box => exact fam_box (xs := [.slice P.ca P.n P.cc, .slice P.wa P.m P.wc, .int .i64 P.lk, .int .i64 P.rg, .int .i64 P.mode, nilV, nilV, nilV, nilV, .bool false]) hB h
    | thr => exact World.ownsRow_nil _ _ _ _
    | words => exact World.ownsRow_nil _ _ _ _
    | own => exact World.ownsRow_nil _ _ _ _
    | prints => exact World.ownsRow_nil _ _ _ _
    | regs t => exact World.ownsRow_nil _ _ _ _
    | wait t => exact World.ownsRow_nil _ _ _ _
  · unfold v0 at hr hq
    split at hr
    · split at hq
      · rename_i h1 h2; rw [h1, h2]
      · simp [Value.ownBlock] at hq
    · simp [Value.ownBlock] at hr

theorem infoThread : (Tryd.prog.info? 159).map (fun i => (i.zero, i.size, i.bytes)) = some (some (.agg #[.int .i64 0, nilV, nilV]), 3, 56) := by kernel_rfl
end

section
open Go.RowKit

theorem DSt.low {w : World} {B B' : Nat} {P : Pg} {sb : Nat} {v : Rl → Value} {s : Sx} (h : DSt w B P sb v s) (hB : B' ≤ B) : DSt w B' P sb v s := ⟨⟨fun r => own_low (h.fam.own r) hB, h.fam.apart⟩, h.box⟩

theorem made_ints (n : Nat) : madeCells #[Value.int .i64 0] n = (intsV (List.replicate n 0)).toArray := by
  apply Array.ext'
  simp [madeCells, intsV]
  apply List.ext_getElem?
  intro i
  simp only [List.getElem?_map, List.getElem?_replicate]
  by_cases h : i < n
  · simp [h, Nat.mod_one]
  · simp [h]

/-- What is known of a state that is being begun. -/
structure Beg (w W : World) (B sb : Nat) (P : Pg) (words : List Int) (i j : Nat) : Prop where
  ex : ∃ v, DSt W B P sb v { ths := List.replicate j (newT P.rg.toNat), words := words, own := List.replicate i (-1), prints := [], fell := false } ∧ (∀ t, j ≤ t → v (.regs t) = nilV) ∧ ∀ t, v (.wait t) = nilV
  below : Below B w W

theorem Beg.pushOwn {w W : World} {B sb : Nat} {P : Pg} {words : List Int} {i : Nat} (h : Beg w W B sb P words i 0) (hi : i ≤ 10) (hB : B ≤ W.heap.size) (hsb : B ≤ sb) :
    ∃ a c g cap w3, W.cell? ⟨sb, 7, none⟩ = some (.slice a i c) ∧ (AppS #[23, 23] 23 #[.slice a i c, .slice (some ⟨W.heap.size, 0, none⟩) 1 1]).run Tryd.prog (W.alloc (.cells #[.int .i64 (-1)] 3)) = .ok (.slice (some ⟨g, 0, none⟩) (i + 1) cap) w3 ∧ w3.cell? ⟨sb, 7, none⟩ = some (.slice a i c) ∧ w3.frozen? ⟨sb, 7, none⟩ = false ∧
      Hid (Beg w (w3.setCell ⟨sb, 7, none⟩ (.slice (some ⟨g, 0, none⟩) (i + 1) cap)) B sb P words (i + 1) 0) := by
  obtain ⟨⟨v, hs, hv1, hv2⟩, hb⟩ := h
  obtain ⟨a, c, hv⟩ := hs.ownV
  rw [List.length_replicate] at hv
  have c7 := hs.c7
  rw [hv] at c7
  obtain ⟨g, cap, w3, r1, r2, r3, r4⟩ := app_row (T := 23) Tryd.underlying23 infoI rfl (by omega) (hs.fam.own .own) (Below.refl _ W) hB 1 #[.int .i64 (-1)] rfl (by simp [Value.oneCell']) (by omega) (by show (List.replicate i (-1 : Int)).length + 1 ≤ _; simp; omega) (by omega)
  have hne : some sb ≠ (v .own).ownBlock := fun e => absurd (hs.fam.apart _ _ sb hs.bblk e.symm) (by simp)
  have hlt : sb < W.heap.size := lt_of_cell c7
  have hD := (hs.alloc (.cells #[.int .i64 (-1)] 3)).pushOwn (a := -1) r2 r3 r4 (by simp)
  have er : List.replicate i (-1 : Int) ++ [-1] = List.replicate (i + 1) (-1) := by rw [List.replicate_succ']
  simp only [er, List.length_replicate] at hD
  have hol : rN { ths := List.replicate 0 (newT P.rg.toNat), words := words, own := List.replicate i (-1), prints := [], fell := false } .own = i := by show (List.replicate i (-1 : Int)).length = i; simp
  rw [hv, hol] at r1
  refine ⟨a, c, g, cap, w3, c7, r1, r3.cell (cell_up c7 _) hne, (r3.frozen_far ⟨sb, 7, none⟩ (by simp; omega) hne).trans (frozen_up hlt (hs.fam.frozen hs.bblk 7) _), ⟨_, hD, fun t ht => by rw [upd_ne _ _ (by simp)]; exact hv1 t ht, fun t => by rw [upd_ne _ _ (by simp)]; exact hv2 t⟩, ?_⟩
  exact ((hb.alloc hB _).grown r3 (by simp; omega) (fun k hk => hs.fam.low .own k hk)).setCell hsb _

theorem Beg.pushThr {w W : World} {B sb : Nat} {P : Pg} {words : List Int} {i j : Nat} (h : Beg w W B sb P words i j) (hj : j ≤ 10) (hB : B ≤ W.heap.size) (hsb : B ≤ sb) (rg : Nat) (hrg : P.rg = rg) (hr0 : 0 < rg) (hr2 : rg ≤ 1000) :
    ∃ a c g cap w3, W.cell? ⟨sb, 5, none⟩ = some (.slice a j c) ∧ (AppS #[134, 134] 134 #[.slice a j c, .slice (some ⟨W.heap.size + 1, 0, none⟩) 1 1]).run Tryd.prog ((W.alloc (.cells (madeCells #[.int .i64 0] rg) 3)).alloc (.cells #[.int .i64 0, .slice (some ⟨W.heap.size, 0, none⟩) rg rg, nilV] 159)).drew = .ok (.slice (some ⟨g, 0, none⟩) (j + 1) cap) w3 ∧ w3.cell? ⟨sb, 5, none⟩ = some (.slice a j c) ∧ w3.frozen? ⟨sb, 5, none⟩ = false ∧
      Hid (Beg w (w3.setCell ⟨sb, 5, none⟩ (.slice (some ⟨g, 0, none⟩) (j + 1) cap)) B sb P words i (j + 1)) := by
  obtain ⟨⟨v, hs, hv1, hv2⟩, hb⟩ := h
  have hrn : P.rg.toNat = rg := by omega
  rw [hrn] at hs
  obtain ⟨a, c, hv⟩ := fam_form (hs.fam.own .thr)
  have hjl : rN { ths := List.replicate j (newT rg), words := words, own := List.replicate i (-1), prints := [], fell := false } .thr = j := by show (List.replicate j (newT rg)).length = j; simp
  rw [hjl] at hv
  have c5 := hs.c5
  rw [hv] at c5
  have hbel : Below W.heap.size W (W.alloc (.cells (madeCells #[.int .i64 0] rg) 3)).drew := ((Below.refl _ _).alloc (Nat.le_refl _) _).drew
  obtain ⟨g, cap, w3, r1, r2, r3, r4⟩ := app_row (T := 134) Tryd.underlying134 infoThread rfl (by omega) (hs.fam.own .thr) hbel hB 1 #[.int .i64 0, .slice (some ⟨W.heap.size, 0, none⟩) rg rg, nilV] rfl (by simp [Value.oneCell']) (by omega) (by rw [hjl]; omega) (by omega)
  have hne : some sb ≠ (v .thr).ownBlock := fun e => absurd (hs.fam.apart _ _ sb hs.bblk e.symm) (by simp)
  have hlt : sb < W.heap.size := lt_of_cell c5
  have hreg : ((W.alloc (.cells (madeCells #[.int .i64 0] rg) 3)).drew.alloc (.cells #[.int .i64 0, .slice (some ⟨W.heap.size, 0, none⟩) rg rg, nilV] 159)).ownsRow B 3 1 (.slice (some ⟨W.heap.size, 0, none⟩) rg rg) rg (intsV (List.replicate rg 0)) := by
    refine World.ownsRow.alloc ?_ _
    refine ⟨by simp [intsV_len], Or.inr ⟨W.heap.size, rg, madeCells #[.int .i64 0] rg, rfl, hB, ?_, Nat.le_refl _, by unfold maxLen; omega, by simp [size_madeCells], ?_⟩⟩
    · exact heap_alloc_new W _
    · rw [made_ints]
      rw [List.take_of_length_le (by simp [intsV_len])]
  have hD := (hs.below (hbel.alloc (by simp) (.cells #[.int .i64 0, .slice (some ⟨W.heap.size, 0, none⟩) rg rg, nilV] 159))).pushThr hreg (hv1 _ (by simp)) (hv2 _) (fun q e => by have := hs.fam.lt e; omega) r2 r3 r4 (by simp)
  have er : List.replicate j (newT rg) ++ [newT rg] = List.replicate (j + 1) (newT rg) := by rw [List.replicate_succ']
  simp only [er, List.length_replicate] at hD
  rw [hv, hjl] at r1
  have e1 : (W.alloc (.cells (madeCells #[.int .i64 0] rg) 3)).drew.heap.size = W.heap.size + 1 := by simp
  rw [e1] at r1
  refine ⟨a, c, g, cap, w3, c5, r1, r3.cell (cell_up2 c5 _ _) hne, (r3.frozen_far ⟨sb, 5, none⟩ (by show sb < _; rw [World.size_alloc, e1]; omega) hne).trans (frozen_up2 hlt (hs.fam.frozen hs.bblk 5) _ _), ⟨_, by rw [hrn]; exact hD, fun t ht => ?_, fun t => ?_⟩, ?_⟩
  · rw [upd_ne _ _ (by simp), upd_ne _ _ (by simp; omega)]; exact hv1 t (by omega)
  · rw [upd_ne _ _ (by simp), upd_ne _ _ (by simp)]; exact hv2 t
  · exact ((((hb.alloc hB _).drew).alloc (by simp; omega) _).grown r3 (by simp; omega) (fun k hk => hs.fam.low .thr k hk)).setCell hsb _

attribute [local go_sem ↓] appS_eq
set_option maxRecDepth 100000 in
set_option maxHeartbeats 3200000 in
theorem begin_any (w : World) (ca : Option Addr) (n cc : Nat) (wa : Option Addr) (wc lk rg : Nat) (mode : Int) (words : List Int) (hw : SIs w wa words) (hn : n ≤ 4) (hm : words.length ≤ 64) (hlk : lk ≤ 4) (hr0 : 0 < rg) (hr2 : rg ≤ 200) :
    Calls Tryd.prog 74 #[prgV ca n cc wa words.length wc lk rg, .int .i64 mode] w fun e w' => ∃ sb v, e = .returned (.pointer (some ⟨sb, 0, none⟩)) ∧ DSt w' w.heap.size ⟨ca, n, cc, wa, words.length, wc, lk, rg, mode⟩ sb v (beginX n words lk rg) ∧ Below w.heap.size w w' := by
  obtain ⟨P, hP⟩ : ∃ P : Pg, P = ⟨ca, n, cc, wa, words.length, wc, lk, rg, mode⟩ := ⟨_, rfl⟩
  rw [← hP]
  obtain ⟨PC, hPC⟩ : ∃ o : Obj, o = .cells #[.slice ca n cc, .slice wa words.length wc, .int .i64 (lk : Int), .int .i64 (rg : Int)] 25 := ⟨_, rfl⟩
  obtain ⟨SC, hSC⟩ : ∃ o : Obj, o = .cells #[.slice ca n cc, .slice wa words.length wc, .int .i64 (lk : Int), .int .i64 (rg : Int), .int .i64 mode, nilV, nilV, nilV, nilV, .bool false] 136 := ⟨_, rfl⟩
  have hb2 : Below w.heap.size w ((w.alloc PC).alloc SC) := ((Below.refl _ _).alloc (Nat.le_refl _) _).alloc (by simp) _
  have hD0 : DSt ((w.alloc PC).alloc SC) (w.heap.size + 1) P (w.heap.size + 1) (v0 (w.heap.size + 1)) s0 := DSt.start _ _ _ _ (Nat.le_refl _) (by
    have := heap_alloc_new (w.alloc PC) SC
    rw [World.size_alloc] at this
    rw [this, hSC, hP])
  obtain ⟨g, cap, w3, r1, r2, r3, r4, r5⟩ := app_src ((w.alloc PC).alloc SC) (w.heap.size + 1) (by simp) wa words wc (hw.below hb2) (by omega)
  have hsz : ((w.alloc PC).alloc SC).heap.size = w.heap.size + 2 := by simp
  rw [hsz] at r1 r3 r4
  have hvn : ∀ q, (v0 (w.heap.size + 1) q).ownBlock ≠ some g := fun q e => by
    unfold v0 at e
    split at e
    · have : w.heap.size + 1 = g := by simpa [Value.ownBlock] using e
      omega
    · simp [Value.ownBlock] at e
  have hvk : ∀ q k, (v0 (w.heap.size + 1) q).ownBlock = some k → k = w.heap.size + 1 := fun q k e => by
    unfold v0 at e
    split at e
    · have : w.heap.size + 1 = k := by simpa [Value.ownBlock] using e
      omega
    · simp [Value.ownBlock] at e
  have hD1 : DSt w3 (w.heap.size + 1) P (w.heap.size + 1) (v0 (w.heap.size + 1)) s0 := by
    refine ⟨⟨fun q => fam_keeps ((hD0.alloc (.cells #[] 3)).fam.own q) (fun k hk => r3.block k ?_ ?_), hD0.fam.apart⟩, hD0.box⟩
    · rw [hvk q k hk]; simp
    · rw [hvk q k hk]; simp
  have hD2 := hD1.layWords (x := .slice (some ⟨g, 0, none⟩) words.length cap) (l := words) rfl rfl hvn r2
  have q6 : w3.cell? ⟨w.heap.size + 1, 6, none⟩ = some nilV := hD1.c6
  have f6 : w3.frozen? ⟨w.heap.size + 1, 6, none⟩ = false := hD1.fam.frozen hD1.bblk 6
  have HB : Hid (Beg (w.alloc PC) (w3.setCell ⟨w.heap.size + 1, 6, none⟩ (.slice (some ⟨g, 0, none⟩) words.length cap)) (w.heap.size + 1) (w.heap.size + 1) P words 0 0) := by
    refine ⟨⟨_, hD2, fun t _ => ?_, fun t => ?_⟩, ?_⟩
    · rw [upd_ne _ _ (by simp)]; rfl
    · rw [upd_ne _ _ (by simp)]; rfl
    · refine Below.setCell ?_ (by simp) _
      refine Below.grown (w := ((w.alloc PC).alloc SC).alloc (.cells #[] 3)) ?_ r3 (by simp) (fun k hk => by simp at hk; omega)
      exact ((Below.refl _ _).alloc (by simp) _).alloc (by simp) _
  have hrun : (AppS #[23, 23] 23 #[.slice (some ⟨w.heap.size + 2, 0, none⟩) 0 0, .slice wa words.length wc]).run Tryd.prog (((w.alloc PC).alloc SC).alloc (.cells #[] 3)) = .ok (.slice (some ⟨g, 0, none⟩) words.length cap) w3 := r1
  have HPC : Hid (∀ wr, Below (w.heap.size + 1) (w.alloc PC) wr → wr.cell? ⟨w.heap.size, 0, none⟩ = some (.slice ca n cc) ∧ wr.cell? ⟨w.heap.size, 2, none⟩ = some (.int .i64 (lk : Int)) ∧ wr.cell? ⟨w.heap.size, 3, none⟩ = some (.int .i64 (rg : Int))) := fun wr hb => by
    have hblk := hb.block w.heap.size (by omega)
    rw [heap_alloc_new w PC, hPC] at hblk
    refine ⟨?_, ?_, ?_⟩ <;> simp [World.cell?, hblk]
  have hmk := fun W => run_make_row' (P := Tryd.prog) 23 3 (.int .i64 0) 8 Tryd.underlying23 infoI rfl .i64 .i64 rg (by omega) (by omega) W
  have hprg : P.rg = rg := by rw [hP]
  have HPG : Hid (P.rg = rg) := hprg
  have HFIN : Hid (∀ W, Beg (w.alloc PC) W (w.heap.size + 1) (w.heap.size + 1) P words lk n → ∃ v, DSt W w.heap.size P (w.heap.size + 1) v (beginX n words lk rg) ∧ Below w.heap.size w W) := fun W h => by
    obtain ⟨⟨v, h1, _, _⟩, h2⟩ := h
    refine ⟨v, ?_, ((Below.refl _ _).alloc (Nat.le_refl _) PC).trans (h2.mono (by omega))⟩
    have h3 := h1.low (B' := w.heap.size) (by omega)
    rw [hprg] at h3
    exact h3
  rw [hPC, hSC] at hrun
  have HPC' : Hid (PC = .cells #[.slice ca n cc, .slice wa words.length wc, .int .i64 (lk : Int), .int .i64 (rg : Int)] 25) := hPC
  obtain ⟨m, hm'⟩ : ∃ m, words.length = m := ⟨_, rfl⟩
  rw [hm'] at hrun hm HB ⊢
  clear hD0 hD1 hD2 hvn hvk r1 r2 r3 hb2 hw hprg hsz hP hPC hSC hm'
  go_enter Tryd.func74, Tryd.ntmps74
  go_wp2
  go_loopw [6] (fun i wr => ∃ j : Nat, j ≤ lk ∧ i = .int .i64 j ∧ Hid (Beg (w.alloc PC) wr (w.heap.size + 1) (w.heap.size + 1) P words j 0)) (fun i _ => lk - (intOf i).toNat)
  case atStart => exact ⟨0, Nat.zero_le _, rfl, HB⟩
  case round =>
    obtain ⟨j, hj, rfl, HJ⟩ := hrel
    obtain ⟨p0, p2, p3⟩ := HPC.out _ HJ.out.below
    by_cases hlt : j < lk
    · obtain ⟨a, c, g2, cap2, w4, k7, hrun2, q7, f7, HN⟩ := HJ.out.pushOwn (by omega) (by have := HJ.out.below.size; simp at this; omega) (Nat.le_refl _)
      go_wp2
      go_roundw
      case rel => exact ⟨j + 1, by omega, by go_num, HN⟩
      case measure => simp [intOf]; omega
    · obtain rfl : j = lk := by omega
      go_wp2
      go_loopw [7] (fun i wr2 => ∃ q : Nat, q ≤ n ∧ i = .int .i64 q ∧ Hid (Beg (w.alloc PC) wr2 (w.heap.size + 1) (w.heap.size + 1) P words j q)) (fun i _ => n - (intOf i).toNat)
      case atStart => exact ⟨0, Nat.zero_le _, rfl, HJ⟩
      case round =>
        obtain ⟨q, hq, rfl, HQ⟩ := hrel
        obtain ⟨s0, s2, s3⟩ := HPC.out _ HQ.out.below
        by_cases hlq : q < n
        · obtain ⟨a, c, g2, cap2, w4, k5, hrun2, q5, f5, HN⟩ := HQ.out.pushThr (by omega) (by have := HQ.out.below.size; simp at this; omega) (Nat.le_refl _) rg HPG.out hr0 (by omega)
          have k5u := cell_up k5
          have k5u2 := cell_up2 k5
          have su := cell_up s3
          have su2 := cell_up2 s3
          go_wp2
          go_region
          all_goals go_wp2
          all_goals go_roundw
          case rel => exact ⟨q + 1, by omega, by go_num, HN⟩
          case measure => simp [intOf]; omega
        · obtain rfl : q = n := by omega
          go_wp2
          go_ret
          obtain ⟨v, h1, h2⟩ := HFIN.out _ HQ.out
          exact ⟨_, v, rfl, h1, h2⟩
end

end Go.Proofs.YtocfocjnnjdcgaaDoor
