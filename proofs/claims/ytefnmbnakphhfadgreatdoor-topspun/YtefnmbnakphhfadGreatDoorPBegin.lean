/-
  The program's state ahead of the first step.
-/
import Derived.Test.YtefnmbnakphhfadGreatDoorPStep4
namespace Go.Proofs.YtefnmbnakphhfadGreatDoor
open Go.RowKit

section
variable {w w1 : World} {B : Nat} {Q : Cd} {sb mb : Nat} {v : Rp → Value} {s : Sx}
/-- One thread more, with its registers in a new block gr. -/
theorem QSt.pushThr (h : QSt w B Q sb mb v s) {rg gr : Nat} (hr : w.ownsRow B 3 1 (.slice (some ⟨gr, 0, none⟩) rg rg) rg (intsV (List.replicate rg 0))) (hr0 : v (.regs s.ths.length) = nilV) (hrf : ∀ q, (v q).ownBlock ≠ some gr)
    {g c H : Nat} (hown : w1.ownsRow B 122 3 (.slice (some ⟨g, 0, none⟩) (s.ths.length + 1) c) (s.ths.length + 1) (rows3 s.ths.length (pthC Q v s) ++ [.slice (Q.A s.ths.length) (Q.L s.ths.length) (Q.C s.ths.length), .int .i64 0, .slice (some ⟨gr, 0, none⟩) rg rg])) (hgrow : w.grownBy w1 (v .thr).ownBlock) (hat : (v .thr).ownBlock = some g ∨ g = H) (hH : w.heap.size ≤ H) :
    QSt (w1.setCell ⟨sb, 1, none⟩ (.slice (some ⟨g, 0, none⟩) (s.ths.length + 1) c)) B Q sb mb (upd (upd v (.regs s.ths.length) (.slice (some ⟨gr, 0, none⟩) rg rg)) .thr (.slice (some ⟨g, 0, none⟩) (s.ths.length + 1) c)) { s with ths := s.ths ++ [newT rg] } := by
  obtain ⟨x, hx⟩ : ∃ x : Value, x = .slice (some ⟨g, 0, none⟩) (s.ths.length + 1) c := ⟨_, rfl⟩
  obtain ⟨y, hy⟩ : ∃ y : Value, y = .slice (some ⟨gr, 0, none⟩) rg rg := ⟨_, rfl⟩
  have hyb : y.ownBlock = some gr := by rw [hy]; rfl
  have hd : thOf s s.ths.length = default := by unfold thOf; simp [List.getD]
  have h0 := h.fam.lay (r := .regs s.ths.length) (n1 := fun q => if q = .regs s.ths.length then rg else pN Q s q) (xs1 := fun q => if q = .regs s.ths.length then intsV (List.replicate rg 0) else pX Q mb v s q) hyb (by rw [hr0]; rfl) hrf (by rw [if_pos rfl, if_pos rfl, hy]; exact hr) (fun q hq => if_neg hq) (fun q hq => if_neg hq)
  have h1 := h0.grow (r := .thr) (n1 := pN Q { s with ths := s.ths ++ [newT rg] }) (xs1 := fun q => if q = .thr then rows3 s.ths.length (pthC Q v s) ++ [.slice (Q.A s.ths.length) (Q.L s.ths.length) (Q.C s.ths.length), .int .i64 0, y] else if q = .regs s.ths.length then intsV (List.replicate rg 0) else pX Q mb v s q) (by rw [hy]; exact hown) (by rw [upd_ne _ _ (by simp)]; exact hgrow) (by rw [upd_ne _ _ (by simp)]; exact hat) hH (by simp [pN]) (fun q hq => by
    cases q with
    | thr => exact absurd rfl hq
    | regs u =>
      show (thOf { s with ths := s.ths ++ [newT rg] } u).regs.length = _
      rw [thOf_push]
      by_cases hu : u = s.ths.length
      · rw [if_pos hu, if_pos (by rw [hu])]; simp [newT]
      · rw [if_neg hu, if_neg (by simpa using hu)]; rfl
    | st => rw [if_neg (by simp)]; rfl
    | words => rw [if_neg (by simp)]; rfl
    | own => rw [if_neg (by simp)]; rfl
    | mem => rw [if_neg (by simp)]; rfl
    | box => rw [if_neg (by simp)]; rfl
    | bufs => rw [if_neg (by simp)]; rfl
    | buf u =>
      rw [if_neg (by simp)]
      show (if Q.K.bf then (thOf { s with ths := s.ths ++ [newT rg] } u).wait.length else 0) = if Q.K.bf then (thOf s u).wait.length else 0
      rw [thOf_push]
      by_cases hu : u = s.ths.length
      · rw [if_pos hu, hu, hd]; rfl
      · rw [if_neg hu]
    | prints => rw [if_neg (by simp)]; rfl) (if_pos rfl) (fun q hq => if_neg hq)
  rw [← hx, ← hy] at *
  refine ⟨h1.put (r := .st) (by rw [upd_ne _ _ (by decide), upd_ne _ _ (by simp)]; exact h.bst) 1 _ (fun q => rfl) ?_ (fun q hq => ?_), by rw [upd_ne _ _ (by decide), upd_ne _ _ (by simp)]; exact h.st, by rw [upd_ne _ _ (by decide), upd_ne _ _ (by simp)]; exact h.mem, fun hb => by rw [upd_ne _ _ (by decide), upd_ne _ _ (by simp)]; exact h.box hb⟩
  · rw [if_neg (by decide), if_neg (by simp)]
    simp only [pX, upd_self]
    rw [upd_ne _ _ (by decide), upd_ne _ _ (by simp)]
    rfl
  · cases q with
    | st => exact absurd rfl hq
    | thr =>
      rw [if_pos rfl]
      show rows3 (s.ths ++ [newT rg]).length (pthC Q _ { s with ths := s.ths ++ [newT rg] }) = _
      rw [List.length_append, List.length_singleton, rows3_snoc]
      congr 1
      · refine rows3_congr fun a b ha => ?_
        unfold pthC
        have e1 : thOf { s with ths := s.ths ++ [newT rg] } a = thOf s a := by rw [thOf_push, if_neg (by omega)]
        rw [e1, upd_ne _ _ (by simp), upd_ne _ _ (by simp; omega)]
      · have e1 : thOf { s with ths := s.ths ++ [newT rg] } s.ths.length = newT rg := by rw [thOf_push, if_pos rfl]
        unfold pthC
        rw [e1, upd_ne _ _ (by simp), upd_self]
        simp [newT]
    | regs u =>
      rw [if_neg (by simp)]
      show intsV (thOf { s with ths := s.ths ++ [newT rg] } u).regs = _
      rw [thOf_push]
      by_cases hu : u = s.ths.length
      · rw [if_pos hu, if_pos (by rw [hu])]; rfl
      · rw [if_neg hu, if_neg (by simpa using hu)]; rfl
    | mem =>
      rw [if_neg (by simp), if_neg (by simp)]
      simp only [pX]
      rw [upd_ne _ _ (by decide), upd_ne _ _ (by simp), upd_ne _ _ (by decide), upd_ne _ _ (by simp)]
    | words => rw [if_neg (by simp), if_neg (by simp)]; rfl
    | own => rw [if_neg (by simp), if_neg (by simp)]; rfl
    | prints => rw [if_neg (by simp), if_neg (by simp)]; rfl
    | box =>
      rw [if_neg (by simp), if_neg (by simp)]
      simp only [pX]
      rw [upd_ne _ _ (by decide), upd_ne _ _ (by simp)]
    | bufs =>
      rw [if_neg (by simp), if_neg (by simp)]
      simp only [pX]
      congr 1
    | buf u =>
      rw [if_neg (by simp), if_neg (by simp)]
      show (if Q.K.bf then waitV (thOf { s with ths := s.ths ++ [newT rg] } u).wait else []) = if Q.K.bf then waitV (thOf s u).wait else []
      rw [thOf_push]
      by_cases hu : u = s.ths.length
      · rw [if_pos hu, hu, hd]; rfl
      · rw [if_neg hu]
end

/-- A state with its memory alone. -/
def sB (words : List Int) (lk : Nat) : Sx := { ths := [], words := words, own := List.replicate lk (-1), prints := [], fell := false }
/-- A memory that has just been made, of whichever kind. -/
structure MemQ (Q : Cd) (w w' : World) (mb : Nat) (v : Rp → Value) (words : List Int) (lk : Nat) : Prop where
  own : ∀ r, r ≠ .st → w'.ownsRow w.heap.size (pTy Q.K r) (pSz r) (v r) (pN Q (sB words lk) r) (pX Q mb v (sB words lk) r)
  apart : ∀ r q g, (v r).ownBlock = some g → (v q).ownBlock = some g → r = q
  st : v .st = nilV
  thr : v .thr = nilV
  prints : v .prints = nilV
  regs : ∀ t, v (.regs t) = nilV
  mem : v .mem = boxV mb
  box : Q.K.bf = true → v .box = boxV Q.bb
  below : Below w.heap.size w w'
theorem MemQ.lt {Q : Cd} {w w' : World} {mb : Nat} {v : Rp → Value} {words : List Int} {lk : Nat} (h : MemQ Q w w' mb v words lk) {r : Rp} {g : Nat} (e : (v r).ownBlock = some g) : g < w'.heap.size := by
  by_cases hr : r = .st
  · rw [hr, h.st] at e; simp [Value.ownBlock] at e
  · exact ((h.own r hr).lt g e).2
theorem QSt.start {w0 w W : World} {mb sb lk : Nat} {v : Rp → Value} {words : List Int} {Q : Cd} (h : MemQ Q w0 w mb v words lk) (hb : Below w.heap.size w W) (hsb : w.heap.size ≤ sb) (hst : W.heap[sb]? = some (.cells #[.iface Q.K.tid (.pointer (some ⟨Q.top mb, 0, none⟩)), nilV, nilV] 92 (0, 0))) :
    QSt W w0.heap.size Q sb mb (upd v .st (boxV sb)) (sB words lk) := by
  have hlo := h.below.size
  refine ⟨⟨fun r => ?_, fun r q g hr hq => ?_⟩, upd_self _ _ _, by rw [upd_ne _ _ (by decide)]; exact h.mem, fun hbf => by rw [upd_ne _ _ (by decide)]; exact h.box hbf⟩
  · by_cases hr : r = .st
    · subst hr
      rw [upd_self]
      have e : pX Q mb (upd v .st (boxV sb)) (sB words lk) .st = [.iface Q.K.tid (.pointer (some ⟨Q.top mb, 0, none⟩)), nilV, nilV] := by
        simp only [pX]
        rw [upd_ne _ _ (by decide), upd_ne _ _ (by decide), h.thr, h.prints]
      rw [e]
      exact fam_box (xs := [.iface Q.K.tid (.pointer (some ⟨Q.top mb, 0, none⟩)), nilV, nilV]) (by omega) hst
    · rw [upd_ne _ _ hr]
      have e : pX Q mb (upd v .st (boxV sb)) (sB words lk) r = pX Q mb v (sB words lk) r := by
        cases r with
        | st => exact absurd rfl hr
        | mem => simp only [pX]; rw [upd_ne _ _ (by decide), upd_ne _ _ (by decide)]
        | box => simp only [pX]; rw [upd_ne _ _ (by decide)]
        | bufs => simp only [pX]; congr 1
        | thr => rfl
        | prints => rfl
        | regs t => rfl
        | words => rfl
        | own => rfl
        | buf t => rfl
      rw [e]
      exact fam_keeps (h.own r hr) (fun g e => hb.block g (h.lt e))
  · by_cases h1 : r = .st
    · by_cases h2 : q = .st
      · rw [h1, h2]
      · rw [h1, upd_self] at hr
        rw [upd_ne _ _ h2] at hq
        have e : sb = g := by simpa [Value.ownBlock] using hr
        have := h.lt hq
        omega
    · rw [upd_ne _ _ h1] at hr
      by_cases h2 : q = .st
      · rw [h2, upd_self] at hq
        have e : sb = g := by simpa [Value.ownBlock] using hq
        have := h.lt hr
        omega
      · rw [upd_ne _ _ h2] at hq
        exact h.apart r q g hr hq

/-- What is known of the program's state that is being begun. -/
structure QBeg (w W : World) (B lo sb mb : Nat) (Q : Cd) (words : List Int) (lk rg j : Nat) : Prop where
  ex : ∃ v, QSt W B Q sb mb v { ths := List.replicate j (newT rg), words := words, own := List.replicate lk (-1), prints := [], fell := false } ∧ (∀ t, j ≤ t → v (.regs t) = nilV) ∧ ∀ g, (v .thr).ownBlock = some g → lo ≤ g
  below : Below lo w W
theorem infoThr2 : (Tryz.prog.info? 122).map (fun i => (i.zero, i.size, i.bytes)) = some (some (.agg #[nilV, .int .i64 0, nilV]), 3, 56) := by kernel_rfl
theorem QBeg.pushThr {w W : World} {B lo sb mb : Nat} {Q : Cd} {words : List Int} {lk rg j : Nat} (h : QBeg w W B lo sb mb Q words lk rg j) (hj : j ≤ 10) (hB : B ≤ W.heap.size) (hlo : lo ≤ W.heap.size) (hsb : lo ≤ sb) (hr0 : 0 < rg) (hr2 : rg ≤ 1000) :
    ∃ a c g cap w3, W.cell? ⟨sb, 1, none⟩ = some (.slice a j c) ∧ (AppS #[90, 90] 90 #[.slice a j c, .slice (some ⟨W.heap.size + 1, 0, none⟩) 1 1]).run Tryz.prog ((W.alloc (.cells (madeCells #[.int .i64 0] rg) 3)).alloc (.cells #[.slice (Q.A j) (Q.L j) (Q.C j), .int .i64 0, .slice (some ⟨W.heap.size, 0, none⟩) rg rg] 122)).drew = .ok (.slice (some ⟨g, 0, none⟩) (j + 1) cap) w3 ∧ w3.cell? ⟨sb, 1, none⟩ = some (.slice a j c) ∧ w3.frozen? ⟨sb, 1, none⟩ = false ∧
      Hid (QBeg w (w3.setCell ⟨sb, 1, none⟩ (.slice (some ⟨g, 0, none⟩) (j + 1) cap)) B lo sb mb Q words lk rg (j + 1)) := by
  obtain ⟨⟨v, hs, hv1, hvt⟩, hb⟩ := h
  obtain ⟨a, c, hv⟩ := fam_form (hs.fam.own .thr)
  have hjl : pN Q { ths := List.replicate j (newT rg), words := words, own := List.replicate lk (-1), prints := [], fell := false } .thr = j := by show (List.replicate j (newT rg)).length = j; simp
  rw [hjl] at hv
  have c1 := hs.c1
  rw [hv] at c1
  have hbel : Below W.heap.size W (W.alloc (.cells (madeCells #[.int .i64 0] rg) 3)).drew := ((Below.refl _ _).alloc (Nat.le_refl _) _).drew
  obtain ⟨g, cap, w3, r1, r2, r3, r4⟩ := app_row (T := 90) Tryz.underlying90 infoThr2 rfl (by omega) (hs.fam.own .thr) hbel hB 1 #[.slice (Q.A j) (Q.L j) (Q.C j), .int .i64 0, .slice (some ⟨W.heap.size, 0, none⟩) rg rg] rfl (by simp [Value.oneCell']) (by omega) (by rw [hjl]; omega) (by omega)
  have hne : some sb ≠ (v .thr).ownBlock := fun e => absurd (hs.fam.apart _ _ sb hs.bst e.symm) (by simp)
  have hlt : sb < W.heap.size := lt_of_cell c1
  have hreg : ((W.alloc (.cells (madeCells #[.int .i64 0] rg) 3)).drew.alloc (.cells #[.slice (Q.A j) (Q.L j) (Q.C j), .int .i64 0, .slice (some ⟨W.heap.size, 0, none⟩) rg rg] 122)).ownsRow B 3 1 (.slice (some ⟨W.heap.size, 0, none⟩) rg rg) rg (intsV (List.replicate rg 0)) := by
    refine World.ownsRow.alloc ?_ _
    refine ⟨by simp [intsV_len], Or.inr ⟨W.heap.size, rg, madeCells #[.int .i64 0] rg, rfl, hB, ?_, Nat.le_refl _, by unfold maxLen; omega, by simp [size_madeCells], ?_⟩⟩
    · exact heap_alloc_new W _
    · rw [made_ints]
      rw [List.take_of_length_le (by simp [intsV_len])]
  have epx : pX Q mb v { ths := List.replicate j (newT rg), words := words, own := List.replicate lk (-1), prints := [], fell := false } .thr = rows3 j (pthC Q v { ths := List.replicate j (newT rg), words := words, own := List.replicate lk (-1), prints := [], fell := false }) := by
    show rows3 (List.replicate j (newT rg)).length _ = _
    rw [List.length_replicate]
  rw [hjl, epx] at r2
  have hD := (hs.below (hbel.alloc (by simp) (.cells #[.slice (Q.A j) (Q.L j) (Q.C j), .int .i64 0, .slice (some ⟨W.heap.size, 0, none⟩) rg rg] 122))).pushThr hreg (hv1 _ (by simp)) (fun q e => by have := hs.fam.lt e; omega) (c := cap) (g := g) (by simp only [List.length_replicate]; exact r2) r3 r4 (by simp)
  have er : List.replicate j (newT rg) ++ [newT rg] = List.replicate (j + 1) (newT rg) := by rw [List.replicate_succ']
  simp only [er, List.length_replicate] at hD
  rw [hv, hjl] at r1
  have e1 : (W.alloc (.cells (madeCells #[.int .i64 0] rg) 3)).drew.heap.size = W.heap.size + 1 := by simp
  rw [e1] at r1
  refine ⟨a, c, g, cap, w3, c1, r1, r3.cell (cell_up2 c1 _ _) hne, (r3.frozen_far ⟨sb, 1, none⟩ (by show sb < _; rw [World.size_alloc, e1]; omega) hne).trans (frozen_up2 hlt (hs.fam.frozen hs.bst 1) _ _), ⟨_, hD, fun t ht => ?_, fun k hk => ?_⟩, ?_⟩
  · rw [upd_ne _ _ (by simp), upd_ne _ _ (by simp; omega)]; exact hv1 t (by omega)
  · rw [upd_self] at hk
    have : g = k := by simpa [Value.ownBlock] using hk
    subst this
    rcases r4 with r4 | r4
    · exact hvt g r4
    · rw [r4]; simp; omega
  · exact ((((hb.alloc hlo _).drew).alloc (by simp; omega) _).grown r3 (by simp; omega) (fun k hk => hvt k hk)).setCell hsb _

attribute [local go_sem ↓] appS_eq
set_option maxRecDepth 100000 in
set_option maxHeartbeats 3200000 in
theorem pbegin_any (w0 w : World) (ca : Option Addr) (n cc : Nat) (wa : Option Addr) (wc lk rg mb : Nat) (v0 : Rp → Value) (words : List Int) (Q : Cd) (X : Nat → Nat → Nat → Int) (h : MemQ Q w0 w mb v0 words lk) (hp : PIn w ca n Q.A Q.L Q.C X) (hn : n ≤ 4) (hr0 : 0 < rg) (hr2 : rg ≤ 200) :
    Calls Tryz.prog 54 #[prgV ca n cc wa words.length wc lk rg, .iface Q.K.tid (.pointer (some ⟨Q.top mb, 0, none⟩))] w fun e w' => ∃ sb v, e = .returned (.pointer (some ⟨sb, 0, none⟩)) ∧ w.heap.size ≤ sb ∧ QSt w' w0.heap.size Q sb mb v (beginX n words lk rg) ∧ Below w.heap.size w w' := by
  obtain ⟨PC, hPC⟩ : ∃ o : Obj, o = .cells #[.slice ca n cc, .slice wa words.length wc, .int .i64 (lk : Int), .int .i64 (rg : Int)] 25 := ⟨_, rfl⟩
  have hb2 : Below w.heap.size w ((w.alloc PC).alloc (.cells #[.iface Q.K.tid (.pointer (some ⟨Q.top mb, 0, none⟩)), nilV, nilV] 92)) := ((Below.refl _ _).alloc (Nat.le_refl _) _).alloc (by simp) _
  have hQ0 := QSt.start (Q := Q) (sb := w.heap.size + 1) h hb2 (by omega) (by
    have := heap_alloc_new (w.alloc PC) (.cells #[.iface Q.K.tid (.pointer (some ⟨Q.top mb, 0, none⟩)), nilV, nilV] 92)
    rw [World.size_alloc] at this
    exact this)
  have HB : Hid (QBeg (w.alloc PC) ((w.alloc PC).alloc (.cells #[.iface Q.K.tid (.pointer (some ⟨Q.top mb, 0, none⟩)), nilV, nilV] 92)) w0.heap.size (w.heap.size + 1) (w.heap.size + 1) mb Q words lk rg 0) := by
    refine ⟨⟨_, hQ0, fun t _ => by rw [upd_ne _ _ (by simp)]; exact h.regs t, fun g e => ?_⟩, (Below.refl _ _).alloc (by simp) _⟩
    rw [upd_ne _ _ (by simp), h.thr] at e
    simp [Value.ownBlock] at e
  have hw0 : w0.heap.size ≤ w.heap.size := h.below.size
  have HPC : Hid (∀ wr, Below (w.heap.size + 1) (w.alloc PC) wr → wr.cell? ⟨w.heap.size, 3, none⟩ = some (.int .i64 (rg : Int)) ∧ w.heap.size + 1 ≤ wr.heap.size ∧ ∀ t, t < n → ∃ b o, ca = some ⟨b, o, none⟩ ∧ wr.cell? ⟨b, o + t, none⟩ = some (.slice (Q.A t) (Q.L t) (Q.C t))) := fun wr hb => by
    have hblk := hb.block w.heap.size (by omega)
    rw [heap_alloc_new w PC, hPC] at hblk
    refine ⟨by simp [World.cell?, hblk], by have := hb.size; simp at this; omega, fun t ht => ?_⟩
    obtain ⟨b, o, e, hc⟩ := hp.code t ht
    have hlt := lt_of_cell hc
    exact ⟨b, o, e, (hb.cell (p := ⟨b, o + t, none⟩) (by show b < _; simp at hlt; omega)).trans (cell_up hc _)⟩
  have hmk := fun W => run_make_row' (P := Tryz.prog) 23 3 (.int .i64 0) 8 Tryz.underlying23 infoI rfl .i64 .i64 rg (by omega) (by omega) W
  have HFIN : Hid (∀ W, QBeg (w.alloc PC) W w0.heap.size (w.heap.size + 1) (w.heap.size + 1) mb Q words lk rg n → ∃ v, QSt W w0.heap.size Q (w.heap.size + 1) mb v (beginX n words lk rg) ∧ Below w.heap.size w W) := fun W hW => by
    obtain ⟨⟨v, h1, _, _⟩, h2⟩ := hW
    exact ⟨v, h1, ((Below.refl _ _).alloc (Nat.le_refl _) PC).trans (h2.mono (by omega))⟩
  rw [hPC] at HB HPC HFIN
  obtain ⟨m, hm⟩ : ∃ m, words.length = m := ⟨_, rfl⟩
  rw [hm] at HB HPC HFIN ⊢
  clear h hp hb2 hQ0 hPC hm
  go_enter Tryz.func54, Tryz.ntmps54
  go_wp2
  go_loopw [14] (fun i wr => ∃ q : Nat, q ≤ n ∧ i = .int .i64 q ∧ Hid (QBeg (w.alloc (.cells #[.slice ca n cc, .slice wa m wc, .int .i64 (lk : Int), .int .i64 (rg : Int)] 25)) wr w0.heap.size (w.heap.size + 1) (w.heap.size + 1) mb Q words lk rg q)) (fun i _ => n - (intOf i).toNat)
  case atStart => exact ⟨0, Nat.zero_le _, rfl, HB⟩
  case round =>
    obtain ⟨q, hq, rfl, HQ⟩ := hrel
    obtain ⟨s3, hsz, hcode⟩ := HPC.out _ HQ.out.below
    by_cases hlq : q < n
    · obtain ⟨cb, co, rfl, hcq⟩ := hcode q hlq
      obtain ⟨a, c, g2, cap2, w4, k5, hrun2, q5, f5, HN⟩ := HQ.out.pushThr (by omega) (by omega) (by omega) (Nat.le_refl _) hr0 (by omega)
      have k5u := cell_up k5
      have k5u2 := cell_up2 k5
      have su := cell_up s3
      have su2 := cell_up2 s3
      clear hcode
      go_wp2
      go_region
      all_goals go_wp2
      all_goals go_roundw
      case rel => exact ⟨q + 1, by omega, by go_num, HN⟩
      case measure => simp [intOf]; omega
    · obtain rfl : q = n := by omega
      clear hcode
      go_wp2
      go_ret
      obtain ⟨v, h1, h2⟩ := HFIN.out _ HQ.out
      exact ⟨_, v, rfl, by omega, h1, h2⟩

end Go.Proofs.YtefnmbnakphhfadGreatDoor
