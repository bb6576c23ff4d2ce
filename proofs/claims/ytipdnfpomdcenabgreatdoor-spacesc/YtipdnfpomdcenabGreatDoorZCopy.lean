/-
  A state's copy, by the document: its rows, one behind the other.
  States are found again by their sums: the last one of a sum, and the one ahead of it: plain functions.
  All states that were come to, as the document holds them in memory; what stays as it was while its lists grow.
  One state more among those that were come to: what its lists become.
  A state is put among those that were come to, by the document.
-/
import Derived.Test.YtipdnfpomdcenabGreatDoorZNum
import Derived.Test.YtipdnfpomdcenabGreatDoorRDoW
import Derived.Test.YtipdnfpomdcenabGreatDoorWorkP
namespace Go.Proofs.YtipdnfpomdcenabGreatDoor
section
open Go.RowKit

section
variable {w w1 : World} {B : Nat} {P : Pg} {sb : Nat} {v : Rl → Value} {s : Sx}
/-- The locks. -/
theorem DSt.layOwn (h : DSt w B P sb v s) {g : Nat} {x : Value} {l : List Int} (hx : x.ownBlock = some g) (h0 : (v .own).ownBlock = none) (hg : ∀ q, (v q).ownBlock ≠ some g) (hown : w.ownsRow B 3 1 x l.length (intsV l)) :
    DSt (w.setCell ⟨sb, 7, none⟩ x) B P sb (upd v .own x) { s with own := l } := by
  have h1 := h.fam.lay (r := .own) (n1 := rN { s with own := l }) (xs1 := fun q => if q = .own then intsV l else rX P v s q) hx h0 hg (by rw [if_pos rfl]; exact hown) (fun q hq => by cases q <;> first | rfl | exact absurd rfl hq) (fun q hq => if_neg hq)
  refine ⟨h1.put (r := .box) (by rw [upd_ne _ _ (by decide)]; exact h.bblk) 7 _ (fun q => rfl) ?_ (fun q hq => ?_), by rw [upd_ne _ _ (by decide)]; exact h.box⟩
  · rw [if_neg (by decide)]
    simp only [rX, upd_self]
    rw [upd_ne _ _ (by decide), upd_ne _ _ (by decide), upd_ne _ _ (by decide)]
    rfl
  · cases q with
    | box => exact absurd rfl hq
    | own => rw [if_pos rfl]; rfl
    | thr =>
      rw [if_neg (by decide)]
      refine rows3_congr fun a b _ => ?_
      unfold thrC
      rw [upd_ne _ _ (by simp), upd_ne _ _ (by simp)]
      rfl
    | words => rw [if_neg (by decide)]; rfl
    | prints => rw [if_neg (by decide)]; rfl
    | regs u => rw [if_neg (by simp)]; rfl
    | wait u => rw [if_neg (by simp)]; rfl
/-- The prints. -/
theorem DSt.layPrints (h : DSt w B P sb v s) {g : Nat} {x : Value} {l : List Int} (hx : x.ownBlock = some g) (h0 : (v .prints).ownBlock = none) (hg : ∀ q, (v q).ownBlock ≠ some g) (hown : w.ownsRow B 3 1 x l.length (intsV l)) :
    DSt (w.setCell ⟨sb, 8, none⟩ x) B P sb (upd v .prints x) { s with prints := l } := by
  have h1 := h.fam.lay (r := .prints) (n1 := rN { s with prints := l }) (xs1 := fun q => if q = .prints then intsV l else rX P v s q) hx h0 hg (by rw [if_pos rfl]; exact hown) (fun q hq => by cases q <;> first | rfl | exact absurd rfl hq) (fun q hq => if_neg hq)
  refine ⟨h1.put (r := .box) (by rw [upd_ne _ _ (by decide)]; exact h.bblk) 8 _ (fun q => rfl) ?_ (fun q hq => ?_), by rw [upd_ne _ _ (by decide)]; exact h.box⟩
  · rw [if_neg (by decide)]
    simp only [rX, upd_self]
    rw [upd_ne _ _ (by decide), upd_ne _ _ (by decide), upd_ne _ _ (by decide)]
    rfl
  · cases q with
    | box => exact absurd rfl hq
    | prints => rw [if_pos rfl]; rfl
    | thr =>
      rw [if_neg (by decide)]
      refine rows3_congr fun a b _ => ?_
      unfold thrC
      rw [upd_ne _ _ (by simp), upd_ne _ _ (by simp)]
      rfl
    | own => rw [if_neg (by decide)]; rfl
    | words => rw [if_neg (by decide)]; rfl
    | regs u => rw [if_neg (by simp)]; rfl
    | wait u => rw [if_neg (by simp)]; rfl
/-- One thread more, with its registers and what waits in new blocks. -/
theorem DSt.pushTh (h : DSt w B P sb v s) {x : Th} {yr yw : Value} {gr gw : Nat} (hr : w.ownsRow B 3 1 yr x.regs.length (intsV x.regs)) (hw : w.ownsRow B 177 3 yw x.wait.length (Go.Proofs.YtipdnfpomdcenabGreatDoor.waitV x.wait)) (er : yr.ownBlock = some gr) (ew : yw.ownBlock = some gw) (hrw : gr ≠ gw) (hr0 : v (.regs s.ths.length) = nilV) (hw0 : v (.wait s.ths.length) = nilV) (hrf : ∀ q, (v q).ownBlock ≠ some gr) (hwf : ∀ q, (v q).ownBlock ≠ some gw)
    {g c H : Nat} (hown : w1.ownsRow B 95 3 (.slice (some ⟨g, 0, none⟩) (s.ths.length + 1) c) (s.ths.length + 1) (rows3 s.ths.length (thrC v s) ++ [.int .i64 x.pc, yr, yw])) (hgrow : w.grownBy w1 (v .thr).ownBlock) (hat : (v .thr).ownBlock = some g ∨ g = H) (hH : w.heap.size ≤ H) :
    DSt (w1.setCell ⟨sb, 5, none⟩ (.slice (some ⟨g, 0, none⟩) (s.ths.length + 1) c)) B P sb (upd (upd (upd v (.regs s.ths.length) yr) (.wait s.ths.length) yw) .thr (.slice (some ⟨g, 0, none⟩) (s.ths.length + 1) c)) { s with ths := s.ths ++ [x] } := by
  obtain ⟨z, hz⟩ : ∃ x : Value, x = .slice (some ⟨g, 0, none⟩) (s.ths.length + 1) c := ⟨_, rfl⟩
  have hd : thOf s s.ths.length = default := by unfold thOf; simp [List.getD]
  have h0 := h.fam.lay (r := .regs s.ths.length) (n1 := fun q => if q = .regs s.ths.length then x.regs.length else rN s q) (xs1 := fun q => if q = .regs s.ths.length then intsV x.regs else rX P v s q) er (by rw [hr0]; rfl) hrf (by rw [if_pos rfl, if_pos rfl]; exact hr) (fun q hq => if_neg hq) (fun q hq => if_neg hq)
  have h0' := h0.lay (r := .wait s.ths.length) (x := yw) (n1 := fun q => if q = .wait s.ths.length then x.wait.length else if q = .regs s.ths.length then x.regs.length else rN s q) (xs1 := fun q => if q = .wait s.ths.length then Go.Proofs.YtipdnfpomdcenabGreatDoor.waitV x.wait else if q = .regs s.ths.length then intsV x.regs else rX P v s q) ew (by rw [upd_ne _ _ (by simp), hw0]; rfl) (fun q e => by
    by_cases hq : q = .regs s.ths.length
    · subst hq
      rw [upd_self, er] at e
      exact hrw (by simpa using e)
    · rw [upd_ne _ _ hq] at e
      exact hwf q e) (by rw [if_pos rfl, if_pos rfl]; exact hw) (fun q hq => if_neg hq) (fun q hq => if_neg hq)
  have h1 := h0'.grow (r := .thr) (n1 := rN { s with ths := s.ths ++ [x] }) (xs1 := fun q => if q = .thr then rows3 s.ths.length (thrC v s) ++ [.int .i64 x.pc, yr, yw] else if q = .wait s.ths.length then Go.Proofs.YtipdnfpomdcenabGreatDoor.waitV x.wait else if q = .regs s.ths.length then intsV x.regs else rX P v s q) hown (by rw [upd_ne _ _ (by simp), upd_ne _ _ (by simp)]; exact hgrow) (by rw [upd_ne _ _ (by simp), upd_ne _ _ (by simp)]; exact hat) hH (by show (s.ths ++ [x]).length = _; simp) (fun q hq => by
    cases q with
    | thr => exact absurd rfl hq
    | regs u =>
      rw [if_neg (by simp)]
      show (thOf { s with ths := s.ths ++ [x] } u).regs.length = _
      rw [thOf_push]
      by_cases hu : u = s.ths.length
      · rw [if_pos hu, if_pos (by rw [hu])]
      · rw [if_neg hu, if_neg (by simpa using hu)]; rfl
    | wait u =>
      show (thOf { s with ths := s.ths ++ [x] } u).wait.length = _
      rw [thOf_push]
      by_cases hu : u = s.ths.length
      · rw [if_pos hu, if_pos (by rw [hu])]
      · rw [if_neg hu, if_neg (by simpa using hu), if_neg (by simp)]; rfl
    | box => rw [if_neg (by simp), if_neg (by simp)]; rfl
    | words => rw [if_neg (by simp), if_neg (by simp)]; rfl
    | own => rw [if_neg (by simp), if_neg (by simp)]; rfl
    | prints => rw [if_neg (by simp), if_neg (by simp)]; rfl) (if_pos rfl) (fun q hq => if_neg hq)
  rw [← hz] at *
  refine ⟨h1.put (r := .box) (by rw [upd_ne _ _ (by decide), upd_ne _ _ (by simp), upd_ne _ _ (by simp)]; exact h.bblk) 5 _ (fun q => rfl) ?_ (fun q hq => ?_), by rw [upd_ne _ _ (by decide), upd_ne _ _ (by simp), upd_ne _ _ (by simp)]; exact h.box⟩
  · rw [if_neg (by decide), if_neg (by simp), if_neg (by simp)]
    simp only [rX, upd_self]
    rw [upd_ne _ _ (by decide), upd_ne _ _ (by simp), upd_ne _ _ (by simp), upd_ne _ _ (by decide), upd_ne _ _ (by simp), upd_ne _ _ (by simp), upd_ne _ _ (by decide), upd_ne _ _ (by simp), upd_ne _ _ (by simp)]
    rfl
  · cases q with
    | box => exact absurd rfl hq
    | thr =>
      rw [if_pos rfl]
      show rows3 (s.ths ++ [x]).length (thrC _ { s with ths := s.ths ++ [x] }) = _
      rw [List.length_append, List.length_singleton, rows3_snoc]
      congr 1
      · refine rows3_congr fun a b ha => ?_
        unfold thrC
        have e1 : thOf { s with ths := s.ths ++ [x] } a = thOf s a := by rw [thOf_push, if_neg (by omega)]
        rw [e1, upd_ne _ _ (by simp), upd_ne _ _ (by simp), upd_ne _ _ (by simp; omega), upd_ne _ _ (by simp), upd_ne _ _ (by simp; omega), upd_ne _ _ (by simp)]
      · have e1 : thOf { s with ths := s.ths ++ [x] } s.ths.length = x := by rw [thOf_push, if_pos rfl]
        unfold thrC
        rw [e1]
        simp only [if_true]
        rw [upd_ne _ _ (by simp), upd_ne _ _ (by simp), upd_self, upd_ne _ _ (by simp), upd_self]
        simp
    | regs u =>
      rw [if_neg (by simp), if_neg (by simp)]
      show intsV (thOf { s with ths := s.ths ++ [x] } u).regs = _
      rw [thOf_push]
      by_cases hu : u = s.ths.length
      · rw [if_pos hu, if_pos (by rw [hu])]
      · rw [if_neg hu, if_neg (by simpa using hu)]; rfl
    | wait u =>
      rw [if_neg (by simp)]
      show Go.Proofs.YtipdnfpomdcenabGreatDoor.waitV (thOf { s with ths := s.ths ++ [x] } u).wait = _
      rw [thOf_push]
      by_cases hu : u = s.ths.length
      · rw [if_pos hu, if_pos (by rw [hu])]
      · rw [if_neg hu, if_neg (by simpa using hu), if_neg (by simp)]; rfl
    | words => rw [if_neg (by simp), if_neg (by simp), if_neg (by simp)]; rfl
    | own => rw [if_neg (by simp), if_neg (by simp), if_neg (by simp)]; rfl
    | prints => rw [if_neg (by simp), if_neg (by simp), if_neg (by simp)]; rfl
end

theorem LI.sis {w : World} {a : Option Addr} {l : List Int} (h : LI w a l) : SIs w a l := h
theorem keep_grown {W w3 : World} {d : Nat} {o : Obj} (hg : (W.alloc o).grownBy w3 (some d)) (hd : d = W.heap.size) : Below W.heap.size W w3 :=
  ⟨hg.os, hg.tape, hg.output, by have := hg.size; simp at this; omega, fun k hk => (hg.block k (by simp; omega) (fun e => by simp at e; omega)).trans (by have := ((Below.refl W.heap.size W).alloc (Nat.le_refl _) o).block k hk; exact this)⟩
/-- 'append([]int{}, l...)' beside a state. -/
theorem DSt.src {W : World} {B : Nat} {P : Pg} {cb : Nat} {v : Rl → Value} {st : Sx} (h : DSt W B P cb v st) (hB : B ≤ W.heap.size) (sa : Option Addr) (l : List Int) (c : Nat) (hs : LI W sa l) (hl : l.length ≤ 1000000) :
    ∃ g cap w3, (AppS #[23, 23] 23 #[.slice (some ⟨W.heap.size, 0, none⟩) 0 0, .slice sa l.length c]).run Tryz.prog (W.alloc (.cells #[] 3)) = .ok (.slice (some ⟨g, 0, none⟩) l.length cap) w3 ∧ DSt w3 B P cb v st ∧ w3.ownsRow B 3 1 (.slice (some ⟨g, 0, none⟩) l.length cap) l.length (intsV l) ∧ (∀ q, (v q).ownBlock ≠ some g) ∧ Below W.heap.size W w3 ∧ W.heap.size ≤ g ∧ g < w3.heap.size := by
  obtain ⟨g, cap, w3, r1, r2, r3, r4, r5⟩ := app_src W B hB sa l c hs (by omega)
  have hb := keep_grown r3 rfl
  exact ⟨g, cap, w3, r1, h.below hb, r2, fun q e => by have := h.fam.lt e; omega, hb, r4, r5⟩
/-- 'append([]Wait{}, l...)'. -/
theorem app_srcW (W : World) (B : Nat) (hB : B ≤ W.heap.size) (sa : Option Addr) (l : List Wt) (c : Nat) (hsrc : WIn W sa l) (hl : l.length ≤ 1000) :
    ∃ g cap w3, (AppS #[93, 93] 93 #[.slice (some ⟨W.heap.size, 0, none⟩) 0 0, .slice sa l.length c]).run Tryz.prog (W.alloc (.cells #[] 177)) = .ok (.slice (some ⟨g, 0, none⟩) l.length cap) w3 ∧ w3.ownsRow B 177 3 (.slice (some ⟨g, 0, none⟩) l.length cap) l.length (waitV l) ∧ Below W.heap.size W w3 ∧ W.heap.size ≤ g ∧ g < w3.heap.size := by
  obtain ⟨i, hi, hz0, hz1, hz2⟩ := info_is infoWait
  have hown := World.ownsRow_made (base := B) (e := 177) (size := 3) W #[] 0 hB (by decide) rfl
  cases l with
  | nil =>
    refine ⟨W.heap.size, 0, W.alloc (.cells #[] 177), ?_, hown, (Below.refl _ _).alloc (Nat.le_refl _) _, Nat.le_refl _, by simp⟩
    have hs : Src Tryz.prog i.size 93 (.slice sa 0 c) 0 [] (W.alloc (.cells #[] 177)) := by
      cases sa with
      | none => exact Src.ofNil _ Tryz.underlying93 c
      | some a => exact Src.ofSlice _ Tryz.underlying93 a 0 c [] (by simp) (fun j u h => by simp at h) (fun u h => by cases h)
    have := run_append_room_src (P := Tryz.prog) (W.alloc (.cells #[] 177)) 93 93 93 177 i Tryz.underlying93 hi W.heap.size 0 0 0 (.slice sa 0 c) 0 [] hs (Nat.le_refl _) (fun j h => by simp at h) (fun j h => by simp at h)
    exact this
  | cons x r =>
    obtain ⟨b, o, rfl, _⟩ := hsrc 0 (by simp)
    have hnews : ∀ j u, (waitV (x :: r))[j]? = some u → (W.alloc (.cells #[] 177)).cell? ((⟨b, o, none⟩ : Addr).add j) = some u := fun j u hu => by
      unfold waitV at hu
      rw [rows3_at] at hu
      by_cases hj : j < (x :: r).length * 3
      · rw [if_pos hj] at hu
        obtain ⟨b', o', e, h0, h1, h2⟩ := hsrc (j / 3) (by omega)
        simp only [Option.some.injEq, Addr.mk.injEq, and_true] at e
        obtain ⟨rfl, rfl⟩ := e
        have hadd : (⟨b, o, none⟩ : Addr).add j = ⟨b, o + j, none⟩ := by unfold Addr.add; split <;> simp_all
        rw [hadd]
        refine cell_up ?_ _
        unfold waitC at hu
        by_cases h3 : j % 3 = 0
        · rw [if_pos h3] at hu
          rw [show o + j = o + j / 3 * 3 by omega, h0, hu]
        · rw [if_neg h3] at hu
          by_cases h4 : j % 3 = 1
          · rw [if_pos h4] at hu
            rw [show o + j = o + j / 3 * 3 + 1 by omega, h1, hu]
          · rw [if_neg h4] at hu
            rw [show o + j = o + j / 3 * 3 + 2 by omega, h2, hu]
      · rw [if_neg hj] at hu
        cases hu
    have hone : ∀ u ∈ waitV (x :: r), u.oneCell' = true := fun u hu => by
      unfold waitV rows3 at hu
      obtain ⟨k, _, rfl⟩ := List.mem_map.mp hu
      exact waitC_one _ _
    obtain ⟨g, cap, w3, r1, r2, r3, r4, r5⟩ := run_append_lies (P := Tryz.prog) (W.alloc (.cells #[] 177)) 93 93 B 177 i _ 3 24 Tryz.underlying93 hi hz0 hz1 hz2 rfl (by omega) _ 0 [] hown ⟨b, o, none⟩ (x :: r).length c (waitV (x :: r)) (rows3_len _ _) hnews hone (by simp) (by unfold maxLen; omega) (by omega) (by simp; omega) (W.heap.size + 1) (by simp)
    rw [Nat.zero_add] at r1 r2
    refine ⟨g, cap, w3, r1, r2, keep_grown r3 rfl, ?_, r5⟩
    rcases r4 with r4 | r4
    · have : W.heap.size = g := by simpa [Value.ownBlock] using r4
      omega
    · omega

/-- A state that is being copied: its first j threads are. -/
structure Cpy (w W : World) (cb : Nat) (P : Pg) (s : Sx) (j : Nat) : Prop where
  ex : ∃ v, DSt W w.heap.size P cb v { s with ths := s.ths.take j, fell := false } ∧ ∀ t, j ≤ t → v (.regs t) = nilV ∧ v (.wait t) = nilV
  below : Below w.heap.size w W

theorem own_below {w w' : World} {B : Nat} {e : TypeId} {size : Nat} {v : Value} {n : Nat} {xs : List Value} (h : w.ownsRow B e size v n xs) (hb : Below w.heap.size w w') : w'.ownsRow B e size v n xs := fam_keeps h (fun g hg => hb.block g (h.lt g hg).2)
theorem own_set {w : World} {B : Nat} {e : TypeId} {size : Nat} {v : Value} {n : Nat} {xs : List Value} (h : w.ownsRow B e size v n xs) {d i : Nat} (hd : v.ownBlock ≠ some d) (u : Value) : (w.setCell ⟨d, i, none⟩ u).ownsRow B e size v n xs := fam_keeps h (fun _ hg => Below.heap_setCell _ _ _ _ (fun x => hd (hg.trans (congrArg some x))))
/-- One thread more is copied. -/
theorem Cpy.push {w W : World} {cb : Nat} {P : Pg} {s : Sx} {j : Nat} (h : Cpy w W cb P s j) (hcb : w.heap.size ≤ cb) (hj : j < s.ths.length) (hj4 : j ≤ 10) (ra : Option Addr) (rc : Nat) (qa : Option Addr) (qc : Nat) (hLR : LI w ra (thOf s j).regs) (hWI : WIn w qa (thOf s j).wait) (hrl : (thOf s j).regs.length ≤ 1000) (hwl : (thOf s j).wait.length ≤ 3) :
    ∃ g1 p1 w1 g2 p2 w2 a c g3 p3 w3,
      (AppS #[23, 23] 23 #[.slice (some ⟨W.heap.size + 1, 0, none⟩) 0 0, .slice ra (thOf s j).regs.length rc]).run Tryz.prog ((W.alloc (.cells #[.int .i64 ((thOf s j).pc : Int), nilV, nilV] 95)).alloc (.cells #[] 3)) = .ok (.slice (some ⟨g1, 0, none⟩) (thOf s j).regs.length p1) w1 ∧
      w1.heap[W.heap.size]? = some (.cells #[.int .i64 ((thOf s j).pc : Int), nilV, nilV] 95) ∧ Below w.heap.size w w1 ∧
      (AppS #[93, 93] 93 #[.slice (some ⟨w1.heap.size, 0, none⟩) 0 0, .slice qa (thOf s j).wait.length qc]).run Tryz.prog ((w1.setCell ⟨W.heap.size, 1, none⟩ (.slice (some ⟨g1, 0, none⟩) (thOf s j).regs.length p1)).alloc (.cells #[] 177)) = .ok (.slice (some ⟨g2, 0, none⟩) (thOf s j).wait.length p2) w2 ∧
      w2.heap[W.heap.size]? = some (.cells #[.int .i64 ((thOf s j).pc : Int), .slice (some ⟨g1, 0, none⟩) (thOf s j).regs.length p1, nilV] 95) ∧
      w2.cell? ⟨cb, 5, none⟩ = some (.slice a j c) ∧
      (AppS #[87, 87] 87 #[.slice a j c, .slice (some ⟨w2.heap.size, 0, none⟩) 1 1]).run Tryz.prog ((w2.setCell ⟨W.heap.size, 2, none⟩ (.slice (some ⟨g2, 0, none⟩) (thOf s j).wait.length p2)).alloc (.cells #[.int .i64 ((thOf s j).pc : Int), .slice (some ⟨g1, 0, none⟩) (thOf s j).regs.length p1, .slice (some ⟨g2, 0, none⟩) (thOf s j).wait.length p2] 95)).drew = .ok (.slice (some ⟨g3, 0, none⟩) (j + 1) p3) w3 ∧
      w3.cell? ⟨cb, 5, none⟩ = some (.slice a j c) ∧ w3.frozen? ⟨cb, 5, none⟩ = false ∧ cb < W.heap.size ∧
      Hid (Cpy w (w3.setCell ⟨cb, 5, none⟩ (.slice (some ⟨g3, 0, none⟩) (j + 1) p3)) cb P s (j + 1)) := by
  obtain ⟨⟨v, hD, hv⟩, hb⟩ := h
  have hBz := hb.size
  have hlt : cb < W.heap.size := lt_of_cell hD.c5
  obtain ⟨TC, hTC⟩ : ∃ o : Obj, o = .cells #[.int .i64 ((thOf s j).pc : Int), nilV, nilV] 95 := ⟨_, rfl⟩
  have hb0 : Below W.heap.size W (W.alloc TC) := (Below.refl _ _).alloc (Nat.le_refl _) _
  have hbw0 : Below w.heap.size w (W.alloc TC) := hb.trans (hb0.mono hBz)
  obtain ⟨g1, p1, w1, r1, o1, k1, l1, m1⟩ := app_src (W.alloc TC) w.heap.size hbw0.size ra (thOf s j).regs rc (IIn.below hLR hbw0) (by omega)
  have b1 := keep_grown k1 rfl
  have hT1 : w1.heap[W.heap.size]? = some TC := (b1.block _ (by simp)).trans (heap_alloc_new _ _)
  have hb1 : Below W.heap.size W w1 := hb0.trans (b1.mono hb0.size)
  have hbw1 : Below w.heap.size w w1 := hb.trans (hb1.mono hBz)
  rw [World.size_alloc] at r1 l1
  obtain ⟨y1, hy1⟩ : ∃ y : Value, y = .slice (some ⟨g1, 0, none⟩) (thOf s j).regs.length p1 := ⟨_, rfl⟩
  have e1 : y1.ownBlock = some g1 := by rw [hy1]; rfl
  obtain ⟨W1, hW1⟩ : ∃ X, X = w1.setCell ⟨W.heap.size, 1, none⟩ y1 := ⟨_, rfl⟩
  have hz1 : W1.heap.size = w1.heap.size := by rw [hW1]; simp [World.setCell]
  have hc1 : Below W.heap.size W W1 := by rw [hW1]; exact hb1.setCell (Nat.le_refl _) _
  have hcw1 : Below w.heap.size w W1 := hb.trans (hc1.mono hBz)
  rw [← hy1] at o1
  have o1' : W1.ownsRow w.heap.size 3 1 y1 (thOf s j).regs.length (intsV (thOf s j).regs) := by rw [hW1]; exact own_set o1 (by rw [e1]; simp; omega) _
  obtain ⟨g2, p2, w2, r2, o2, b2, l2, m2⟩ := app_srcW W1 w.heap.size hcw1.size qa (thOf s j).wait qc (hWI.below hcw1) (by omega)
  rw [hz1] at r2 l2
  have hU1 : W1.heap[W.heap.size]? = some (.cells #[.int .i64 ((thOf s j).pc : Int), y1, nilV] 95) := by
    rw [hW1]; exact (heap_set_same (hT1.trans (congrArg some hTC))).trans rfl
  have hT2 := (b2.block _ (by rw [hz1]; exact box_lt hT1)).trans hU1
  have hb2 : Below W.heap.size W w2 := hc1.trans (b2.mono hc1.size)
  obtain ⟨y2, hy2⟩ : ∃ y : Value, y = .slice (some ⟨g2, 0, none⟩) (thOf s j).wait.length p2 := ⟨_, rfl⟩
  have e2 : y2.ownBlock = some g2 := by rw [hy2]; rfl
  obtain ⟨W2, hW2⟩ : ∃ X, X = w2.setCell ⟨W.heap.size, 2, none⟩ y2 := ⟨_, rfl⟩
  have hz2 : W2.heap.size = w2.heap.size := by rw [hW2]; simp [World.setCell]
  have hc2 : Below W.heap.size W W2 := by rw [hW2]; exact hb2.setCell (Nat.le_refl _) _
  have hcw2 : Below w.heap.size w W2 := hb.trans (hc2.mono hBz)
  rw [← hy2] at o2
  have hw1z := m1
  have o2' : W2.ownsRow w.heap.size 177 3 y2 (thOf s j).wait.length (waitV (thOf s j).wait) := by rw [hW2]; exact own_set o2 (by rw [e2]; simp; omega) _
  have o1'' : W2.ownsRow w.heap.size 3 1 y1 (thOf s j).regs.length (intsV (thOf s j).regs) := by rw [hW2]; exact own_set (own_below o1' b2) (by rw [e1]; simp; omega) _
  have hD2 := hD.below hc2
  obtain ⟨a, c, hvt⟩ := fam_form (hD2.fam.own .thr)
  have hjl : rN { s with ths := s.ths.take j, fell := false } .thr = j := by show (s.ths.take j).length = j; rw [List.length_take]; omega
  rw [hjl] at hvt
  have c5 := (hD.below hb2).c5
  rw [hvt] at c5
  obtain ⟨g3, p3, w3, r3, o3, k3, a3⟩ := app_row (T := 87) Tryz.underlying87 infoThread rfl (by omega) (hD2.fam.own .thr) (Below.refl _ W2).drew hcw2.size 1 #[.int .i64 ((thOf s j).pc : Int), y1, y2] rfl (by rw [hy1, hy2]; simp [Value.oneCell']) (by omega) (by rw [hjl]; omega) (by omega)
  have hbd : Below W2.heap.size W2 (W2.drew.alloc (.cells #[.int .i64 ((thOf s j).pc : Int), y1, y2] 95)) := ((Below.refl _ _).drew).alloc (by simp) _
  have hD3 := hD2.below hbd
  have hsl : ({ s with ths := s.ths.take j, fell := false } : Sx).ths.length = j := hjl
  have hP := hD3.pushTh (x := thOf s j) (own_below o1'' hbd) (own_below o2' hbd) e1 e2 (by omega) (by rw [hsl]; exact (hv j (Nat.le_refl _)).1) (by rw [hsl]; exact (hv j (Nat.le_refl _)).2) (fun q e => by have := hD.fam.lt e; omega) (fun q e => by have := hD.fam.lt e; omega) (g := g3) (c := p3) (H := W2.drew.heap.size + 1) o3 k3 a3 (by simp)
  have hne : some cb ≠ (v .thr).ownBlock := fun e => absurd (hD.fam.apart _ _ cb hD.bblk e.symm) (by simp)
  rw [hsl] at hP
  have hte : s.ths.take (j + 1) = s.ths.take j ++ [thOf s j] := by
    have e : thOf s j = s.ths[j] := by unfold thOf; rw [List.getD_eq_getElem?_getD, List.getElem?_eq_getElem hj]; rfl
    rw [List.take_add_one, List.getElem?_eq_getElem hj, e]
    rfl
  have hP' : DSt (w3.setCell ⟨cb, 5, none⟩ (.slice (some ⟨g3, 0, none⟩) (j + 1) p3)) w.heap.size P cb (upd (upd (upd v (.regs j) y1) (.wait j) y2) .thr (.slice (some ⟨g3, 0, none⟩) (j + 1) p3)) { s with ths := s.ths.take (j + 1), fell := false } := by rw [hte]; exact hP
  have hbk : Below w.heap.size w w3 := (hcw2.trans (hbd.mono hcw2.size)).grown k3 (by have := hbd.size; have := hcw2.size; omega) (fun k hk => hD.fam.low .thr k hk)
  have c5d : (W2.drew.alloc (.cells #[.int .i64 ((thOf s j).pc : Int), y1, y2] 95)).cell? ⟨cb, 5, none⟩ = some (.slice a j c) := by
    have := hD3.c5
    rwa [hvt] at this
  have f5 := hD3.fam.frozen hD3.bblk 5
  have hcz : cb < (W2.drew.alloc (.cells #[.int .i64 ((thOf s j).pc : Int), y1, y2] 95)).heap.size := lt_of_cell c5d
  rw [hvt] at r3
  rw [hjl] at r3
  rw [hW2, hy2, hy1, show (w2.setCell ⟨W.heap.size, 2, none⟩ (.slice (some ⟨g2, 0, none⟩) (thOf s j).wait.length p2)).drew.heap.size = w2.heap.size by simp [World.setCell]] at r3
  rw [hTC] at r1 hT1
  rw [hW1, hy1] at r2
  rw [hy1] at hT2
  exact ⟨g1, p1, w1, g2, p2, w2, a, c, g3, p3, w3, r1, hT1, hbw1, r2, hT2, c5, r3, k3.cell c5d hne, (k3.frozen_far ⟨cb, 5, none⟩ hcz hne).trans f5, hlt, ⟨⟨_, hP', fun t ht => ⟨by rw [upd_ne _ _ (by simp), upd_ne _ _ (by simp), upd_ne _ _ (by simp; omega)]; exact (hv t (by omega)).1, by rw [upd_ne _ _ (by simp), upd_ne _ _ (by simp; omega), upd_ne _ _ (by simp)]; exact (hv t (by omega)).2⟩⟩, hbk.setCell hcb _⟩⟩

attribute [local go_sem ↓] appS_eq
set_option maxRecDepth 100000 in
set_option maxHeartbeats 3200000 in
theorem copy_any (w : World) (B sb : Nat) (P : Pg) (v : Rl → Value) (s : Sx) (L : Nat → Nat) (m lk rg : Nat) (hn0 : 0 < P.n) (hs : DSt w B P sb v s) (ho : SOk P.n L m lk rg P.mode s) (hf : s.fell = false) (hN : P.n ≤ 4) (hm64 : m ≤ 64) (hlk4 : lk ≤ 4) (hrg : rg ≤ 200) (hpl : s.prints.length ≤ 100000) :
    Calls Tryz.prog 64 #[.pointer (some ⟨sb, 0, none⟩)] w fun e w' => ∃ cb v', e = .returned (.pointer (some ⟨cb, 0, none⟩)) ∧ DSt w' w.heap.size P cb v' s ∧ Below w.heap.size w w' := by
  have hl := ho.ths
  obtain ⟨tb, tc, hth, htb, _⟩ := hs.thrB (by omega)
  have c0 := hs.c0
  have c1 : w.cell? ⟨sb, 1, none⟩ = some (.slice P.wa P.m P.wc) := hs.fam.cell hs.bblk rfl
  have c2 : w.cell? ⟨sb, 2, none⟩ = some (.int .i64 P.lk) := hs.fam.cell hs.bblk rfl
  have c3 : w.cell? ⟨sb, 3, none⟩ = some (.int .i64 P.rg) := hs.fam.cell hs.bblk rfl
  have c4 := hs.c4
  have c9 := hs.c9
  rw [hf] at c9
  obtain ⟨wa, wc, hwv⟩ := hs.wordsV
  obtain ⟨oa, oc, hov⟩ := hs.ownV
  obtain ⟨pa, pc, hpv⟩ := hs.printsV
  have hW : LI w wa s.words := IsI.iin (B := B) (c := wc) ⟨rfl, by have := hs.fam.own .words; rw [hwv] at this; exact this⟩
  have hO : LI w oa s.own := IsI.iin (B := B) (c := oc) ⟨rfl, by have := hs.fam.own .own; rw [hov] at this; exact this⟩
  have hR : LI w pa s.prints := IsI.iin (B := B) (c := pc) ⟨rfl, by have := hs.fam.own .prints; rw [hpv] at this; exact this⟩
  have c6 := hs.c6
  have c7 := hs.c7
  have c8 := hs.c8
  rw [hwv] at c6
  rw [hov] at c7
  rw [hpv] at c8
  have hwl := ho.words
  have hol := ho.own
  obtain ⟨SC, hSC⟩ : ∃ o : Obj, o = .cells #[.slice P.ca P.n P.cc, .slice P.wa P.m P.wc, .int .i64 P.lk, .int .i64 P.rg, .int .i64 P.mode, nilV, nilV, nilV, nilV, .bool false] 89 := ⟨_, rfl⟩
  have hb0 : Below w.heap.size w (w.alloc SC).drew := ((Below.refl _ _).alloc (Nat.le_refl _) _).drew
  have hD0 : DSt (w.alloc SC).drew w.heap.size P w.heap.size (v0 w.heap.size) s0 := (DSt.start (w.alloc SC) w.heap.size P w.heap.size (Nat.le_refl _) (by rw [heap_alloc_new, hSC])).below (Below.refl _ _).drew
  obtain ⟨g1, p1, w1, hrun1, hD1, hr1, hv1, hb1, _, _⟩ := hD0.src (by simp) wa s.words wc (IIn.below hW hb0) (by omega)
  have hB1 : Below w.heap.size w w1 := hb0.trans (hb1.mono hb0.size)
  have q6 : w1.cell? ⟨w.heap.size, 6, none⟩ = some nilV := hD1.c6
  have f6 : w1.frozen? ⟨w.heap.size, 6, none⟩ = false := hD1.fam.frozen hD1.bblk 6
  have hD1' := hD1.layWords (x := .slice (some ⟨g1, 0, none⟩) s.words.length p1) (l := s.words) rfl rfl hv1 hr1
  obtain ⟨W1, hW1⟩ : ∃ W, W = w1.setCell ⟨w.heap.size, 6, none⟩ (.slice (some ⟨g1, 0, none⟩) s.words.length p1) := ⟨_, rfl⟩
  rw [← hW1] at hD1'
  have hB1' : Below w.heap.size w W1 := by rw [hW1]; exact hB1.setCell (Nat.le_refl _) _
  have d7 := (hB1'.cell (lt_of_cell c7)).trans c7
  obtain ⟨g2, p2, w2, hrun2, hD2, hr2, hv2, hb2, _, _⟩ := hD1'.src hB1'.size oa s.own oc (IIn.below hO hB1') (by omega)
  have hB2 : Below w.heap.size w w2 := hB1'.trans (hb2.mono hB1'.size)
  have q7 : w2.cell? ⟨w.heap.size, 7, none⟩ = some nilV := hD2.c7
  have f7 : w2.frozen? ⟨w.heap.size, 7, none⟩ = false := hD2.fam.frozen hD2.bblk 7
  have hD2' := hD2.layOwn (x := .slice (some ⟨g2, 0, none⟩) s.own.length p2) (l := s.own) rfl rfl hv2 hr2
  obtain ⟨W2, hW2⟩ : ∃ W, W = w2.setCell ⟨w.heap.size, 7, none⟩ (.slice (some ⟨g2, 0, none⟩) s.own.length p2) := ⟨_, rfl⟩
  rw [← hW2] at hD2'
  have hB2' : Below w.heap.size w W2 := by rw [hW2]; exact hB2.setCell (Nat.le_refl _) _
  have d8 := (hB2'.cell (lt_of_cell c8)).trans c8
  obtain ⟨g3, p3, w3, hrun3, hD3, hr3, hv3, hb3, _, _⟩ := hD2'.src hB2'.size pa s.prints pc (IIn.below hR hB2') (by omega)
  have hB3 : Below w.heap.size w w3 := hB2'.trans (hb3.mono hB2'.size)
  have q8 : w3.cell? ⟨w.heap.size, 8, none⟩ = some nilV := hD3.c8
  have f8 : w3.frozen? ⟨w.heap.size, 8, none⟩ = false := hD3.fam.frozen hD3.bblk 8
  have hD3' := hD3.layPrints (x := .slice (some ⟨g3, 0, none⟩) s.prints.length p3) (l := s.prints) rfl rfl hv3 hr3
  have HC0 : Hid (Cpy w (w3.setCell ⟨w.heap.size, 8, none⟩ (.slice (some ⟨g3, 0, none⟩) s.prints.length p3)) w.heap.size P s 0) := ⟨⟨_, hD3', fun t _ => ⟨by rw [upd_ne _ _ (by simp), upd_ne _ _ (by simp), upd_ne _ _ (by simp)]; rfl, by rw [upd_ne _ _ (by simp), upd_ne _ _ (by simp), upd_ne _ _ (by simp)]; rfl⟩⟩, hB3.setCell (Nat.le_refl _) _⟩
  have c5 := hs.c5
  rw [hth, hl] at c5
  have HT : Hid (∀ t, t < P.n → ∃ ra rc qa qc, w.cell? ⟨tb, t * 3, none⟩ = some (.int .i64 (thOf s t).pc) ∧ w.cell? ⟨tb, t * 3 + 1, none⟩ = some (.slice ra (thOf s t).regs.length rc) ∧ w.cell? ⟨tb, t * 3 + 2, none⟩ = some (.slice qa (thOf s t).wait.length qc) ∧ (thOf s t).regs.length = rg ∧ (thOf s t).wait.length ≤ 3 ∧ LI w ra (thOf s t).regs ∧ WIn w qa (thOf s t).wait) := fun t ht => by
    obtain ⟨ra, rc, hr⟩ := hs.regsV t
    obtain ⟨qa, qc, hq⟩ := hs.waitV t
    refine ⟨ra, rc, qa, qc, hs.pc htb (by omega), by rw [← hr]; exact hs.regs htb (by omega), by rw [← hq]; exact hs.wait htb (by omega), ho.regs t ht, ho.wlen t ht, ?_, hs.win hq⟩
    exact IsI.iin (B := B) (c := rc) ⟨rfl, by have := hs.fam.own (.regs t); rw [hr] at this; exact this⟩
  have HL : Hid (s.ths.length = P.n ∧ s.fell = false) := ⟨hl, hf⟩
  have lsb : sb < w.heap.size := lt_of_cell c0
  have nsb : ¬ sb = w.heap.size := by omega
  have nbs : ¬ w.heap.size = sb := by omega
  have e7 := (hB1.cell (lt_of_cell c7)).trans c7
  have e8 := (hB2.cell (lt_of_cell c8)).trans c8
  have hz1 : W1.heap.size = w1.heap.size := by rw [hW1]; simp [World.setCell]
  have hz2 : W2.heap.size = w2.heap.size := by rw [hW2]; simp [World.setCell]
  have d7u := cell_up d7
  have d8u := cell_up d8
  rw [hW1] at d7u
  rw [hW2] at d8u
  rw [hz1, hW1] at hrun2
  rw [hz2, hW2] at hrun3
  have hrun1' : (AppS #[23, 23] 23 #[.slice (some ⟨w.heap.size + 1, 0, none⟩) 0 0, .slice wa s.words.length wc]).run Tryz.prog ((w.alloc (.cells #[.slice P.ca P.n P.cc, .slice P.wa P.m P.wc, .int .i64 P.lk, .int .i64 P.rg, .int .i64 P.mode, nilV, nilV, nilV, nilV, .bool false] 89)).alloc (.cells #[] 3)).drew = .ok (.slice (some ⟨g1, 0, none⟩) s.words.length p1) w1 := by
    rw [hSC] at hrun1
    have e : (w.alloc (.cells #[.slice P.ca P.n P.cc, .slice P.wa P.m P.wc, .int .i64 P.lk, .int .i64 P.rg, .int .i64 P.mode, nilV, nilV, nilV, nilV, .bool false] 89)).drew.heap.size = w.heap.size + 1 := by simp
    rw [e] at hrun1
    exact hrun1
  clear hrun1
  have d6 := cell_up c6
  obtain ⟨PA, hPA⟩ : ∃ x, P.ca = x := ⟨_, rfl⟩
  obtain ⟨n, hn⟩ : ∃ n, P.n = n := ⟨_, rfl⟩
  obtain ⟨k6, hk6⟩ : ∃ k, s.words.length = k := ⟨_, rfl⟩
  obtain ⟨k7, hk7⟩ : ∃ k, s.own.length = k := ⟨_, rfl⟩
  obtain ⟨k8, hk8⟩ : ∃ k, s.prints.length = k := ⟨_, rfl⟩
  rw [hk6] at hrun1' hrun2 c6 d6 hwl d7u
  rw [hk7] at hrun2 hrun3 c7 d7 e7 hol d7u d8u
  subst hwl hol
  rw [hk8] at hrun3 HC0 c8 d8 e8 hpl d8u
  clear d7 d8 e7 e8
  rw [hn, hPA] at hrun1'
  rw [hn, hPA] at c0
  rw [hn] at c5 HT HL hN
  clear hD0 hD1 hD1' hD2 hD2' hD3 hD3' hr1 hr2 hr3 hv1 hv2 hv3 hb0 hb1 hb2 hb3 hB1 hB1' hB2 hB2' hB3 hW hO hR hs ho hSC hW1 hW2 hz1 hz2 hn0 hwv hov hpv hth htb hl hf
  go_enter Tryz.func64, Tryz.ntmps64
  go_wp2_with fail
  refine region_tail 13 (by kernel_rfl) (by kernel_rfl) ?_
  simp only [List.take_succ_cons, List.take_zero, List.drop_succ_cons, List.drop_zero]
  repeat still_step
  refine wpStill_nil ?_
  go_wp2
  go_loopw [4] (fun i wr => ∃ j : Nat, j ≤ n ∧ i = .int .i64 j ∧ Hid (Cpy w wr w.heap.size P s j)) (fun i _ => n - (intOf i).toNat)
  case atStart => exact ⟨0, Nat.zero_le _, rfl, HC0⟩
  case round =>
    obtain ⟨j, hj, rfl, HJ⟩ := hrel
    have hbr := HJ.out.below
    have c5r := (hbr.cell (lt_of_cell c5)).trans c5
    by_cases hlt : j < n
    · obtain ⟨ra, rc, qa, qc, k0, k1, k2, hrl, hwl, hLR, hWI⟩ := HT.out j hlt
      obtain ⟨g1, p1, w1, g2, p2, w2, a, c, g3, p3, w3, r1, t1, bw1, r2, t2, c5c, r3, c53, f53, lcb, HN⟩ := HJ.out.push (Nat.le_refl _) (by rw [HL.out.1]; exact hlt) (by omega) ra rc qa qc hLR hWI (by omega) hwl
      have k0r := (hbr.cell (lt_of_cell k0)).trans k0
      have k1r := cell_up2 ((hbr.cell (lt_of_cell k1)).trans k1)
      have c5u := cell_up2 c5r
      obtain ⟨y1, hy1⟩ : ∃ y : Value, y = .slice (some ⟨g1, 0, none⟩) (thOf s j).regs.length p1 := ⟨_, rfl⟩
      obtain ⟨y2, hy2⟩ : ∃ y : Value, y = .slice (some ⟨g2, 0, none⟩) (thOf s j).wait.length p2 := ⟨_, rfl⟩
      have hbs1 : Below w.heap.size w (w1.setCell ⟨wr.heap.size, 1, none⟩ y1) := bw1.setCell (by show w.heap.size ≤ wr.heap.size; omega) _
      have c5v := cell_up ((hbs1.cell (lt_of_cell c5)).trans c5)
      have k2v := cell_up ((hbs1.cell (lt_of_cell k2)).trans k2)
      have a0 : w1.cell? ⟨wr.heap.size, 0, none⟩ = some (.int .i64 ((thOf s j).pc : Int)) := box_cell t1 rfl
      have a1 : w1.cell? ⟨wr.heap.size, 1, none⟩ = some nilV := box_cell t1 rfl
      have a2 : w1.cell? ⟨wr.heap.size, 2, none⟩ = some nilV := box_cell t1 rfl
      have af : ∀ i, w1.frozen? ⟨wr.heap.size, i, none⟩ = false := fun i => box_free t1
      rw [← hy1] at t2 r2 r3
      rw [← hy2] at r3
      have b0 : w2.cell? ⟨wr.heap.size, 0, none⟩ = some (.int .i64 ((thOf s j).pc : Int)) := box_cell t2 rfl
      have b1 : w2.cell? ⟨wr.heap.size, 1, none⟩ = some y1 := box_cell t2 rfl
      have b2 : w2.cell? ⟨wr.heap.size, 2, none⟩ = some nilV := box_cell t2 rfl
      have bf : ∀ i, w2.frozen? ⟨wr.heap.size, i, none⟩ = false := fun i => box_free t2
      have U : (w2.setCell ⟨wr.heap.size, 2, none⟩ y2).heap[wr.heap.size]? = some (.cells #[.int .i64 ((thOf s j).pc : Int), y1, y2] 95) := (heap_set_same t2).trans rfl
      have u0 : ∀ o, ((w2.setCell ⟨wr.heap.size, 2, none⟩ y2).alloc o).cell? ⟨wr.heap.size, 0, none⟩ = some (.int .i64 ((thOf s j).pc : Int)) := cell_up (box_cell U rfl)
      have u1 : ∀ o, ((w2.setCell ⟨wr.heap.size, 2, none⟩ y2).alloc o).cell? ⟨wr.heap.size, 1, none⟩ = some y1 := cell_up (box_cell U rfl)
      have u2 : ∀ o, ((w2.setCell ⟨wr.heap.size, 2, none⟩ y2).alloc o).cell? ⟨wr.heap.size, 2, none⟩ = some y2 := cell_up (box_cell U rfl)
      have v5 : (w2.setCell ⟨wr.heap.size, 2, none⟩ y2).cell? ⟨w.heap.size, 5, none⟩ = some (.slice a j c) := (World.cell?_of_block (Below.heap_setCell _ _ _ _ (by show w.heap.size ≠ wr.heap.size; omega))).trans c5c
      have v5u := cell_up v5
      obtain ⟨q, hq⟩ : ∃ m, (thOf s j).wait.length = m := ⟨_, rfl⟩
      obtain ⟨pcj, hpc⟩ : ∃ m : Nat, (thOf s j).pc = m := ⟨_, rfl⟩
      have HY : Hid (y1 = .slice (some ⟨g1, 0, none⟩) rg p1 ∧ y2 = .slice (some ⟨g2, 0, none⟩) q p2) := ⟨by rw [hy1, hrl], by rw [hy2, hq]⟩
      rw [hrl] at r1 k1r
      rw [hq] at r2 k2v
      rw [hpc] at r1 k0r a0 b0 u0 r3
      obtain ⟨z1, z2⟩ := HY.out
      clear hy1 hy2 HY U t1 t2 hbs1
      subst z1 z2
      have nd : ¬ w.heap.size = wr.heap.size := by omega
      have dn : ¬ wr.heap.size = w.heap.size := by omega
      clear hLR hWI hrl hq hpc HT HJ bw1 HC0 hrun1' hrun2 hrun3 d7u d8u q6 q7 q8 f6 f7 f8 c0 c1 c2 c3 c4 c6 c7 c8 c9 d6 k0 k1 k2
      go_wp2
      go_region
      all_goals go_wp2
      all_goals go_roundw
      case rel => exact ⟨j + 1, by omega, by go_num, HN⟩
      case measure => simp [intOf]; omega
    · obtain rfl : j = n := by omega
      have HFIN : Hid (∃ v', DSt wr w.heap.size P w.heap.size v' s) := by
        obtain ⟨v', h1, _⟩ := HJ.out.ex
        have e : ({ s with ths := s.ths.take j, fell := false } : Sx) = s := by
          rw [List.take_of_length_le (by rw [HL.out.1]; exact Nat.le_refl _), ← HL.out.2]
        rw [e] at h1
        exact ⟨v', h1⟩
      clear HC0 hrun1' hrun2 hrun3 d7u d8u q6 q7 q8 f6 f7 f8 HT HJ HL
      go_wp2
      go_ret
      obtain ⟨v', h1⟩ := HFIN.out
      exact ⟨_, v', rfl, h1, hbr⟩
end

section
open Go.RowKit

/-- The last of the first n whose sum is h; -1: none. -/
def lastS (f : Nat → Nat) (h : Nat) : Nat → Int
  | 0 => -1
  | n + 1 => if f n = h then (n : Int) else lastS f h n
section
variable {f : Nat → Nat} {h : Nat}
theorem last_lt : ∀ n, lastS f h n < n
  | 0 => by show (-1 : Int) < _; omega
  | n + 1 => by
    unfold lastS
    split
    · omega
    · have := last_lt n; omega
theorem last_low : ∀ n, -1 ≤ lastS f h n
  | 0 => by show (-1 : Int) ≤ -1; omega
  | n + 1 => by
    unfold lastS
    split
    · omega
    · exact last_low n
/-- The last one is of the sum, and none behind it is. -/
theorem last_is : ∀ n i, lastS f h n = (i : Nat) → f i = h ∧ ∀ j, i < j → j < n → f j ≠ h
  | 0, i, e => by
    have : (-1 : Int) = (i : Nat) := e
    omega
  | n + 1, i, e => by
    unfold lastS at e
    by_cases hn : f n = h
    · rw [if_pos hn] at e
      obtain rfl : n = i := by omega
      exact ⟨hn, fun j h1 h2 => by omega⟩
    · rw [if_neg hn] at e
      obtain ⟨h1, h2⟩ := last_is n i e
      refine ⟨h1, fun j h3 h4 => ?_⟩
      rcases Nat.lt_or_ge j n with h5 | h5
      · exact h2 j h3 h5
      · obtain rfl : j = n := by omega
        exact hn
theorem last_none : ∀ n, lastS f h n < 0 → ∀ j, j < n → f j ≠ h
  | 0, _, j, hj => absurd hj (Nat.not_lt_zero _)
  | n + 1, e, j, hj => by
    unfold lastS at e
    by_cases hn : f n = h
    · rw [if_pos hn] at e; omega
    · rw [if_neg hn] at e
      rcases Nat.lt_or_ge j n with h5 | h5
      · exact last_none n e j h5
      · obtain rfl : j = n := by omega
        exact hn
theorem last_congr {g : Nat → Nat} : ∀ n, (∀ i, i < n → g i = f i) → lastS g h n = lastS f h n
  | 0, _ => rfl
  | n + 1, e => by
    unfold lastS
    rw [e n (by omega), last_congr n (fun i hi => e i (by omega))]
end
end

section
open Go.RowKit

section
variable {ι : Type} {w w' : World} {vf vf' : ι → Value}
/-- Something that lies outside of rows that have turned is as it was, and still outside. -/
theorem DSt.moved {B : Nat} {P : Pg} {sb : Nat} {v : Rl → Value} {s : Sx} (h : DSt w B P sb v s) (ho : ∀ r g, (v r).ownBlock = some g → ∀ q, (vf q).ownBlock ≠ some g) (hm : Moved w w' vf vf') : DSt w' B P sb v s ∧ ∀ r g, (v r).ownBlock = some g → ∀ q, (vf' q).ownBlock ≠ some g :=
  ⟨⟨⟨fun r => fam_keeps (h.fam.own r) (fun g hg => hm.block g (h.fam.lt hg) (ho r g hg)), h.fam.apart⟩, h.box⟩, fun r g hg => hm.out (h.fam.lt hg) (ho r g hg)⟩
theorem IsI.moved {B : Nat} {a : Option Addr} {len c : Nat} {xs : List Int} (h : IsI w B a len c xs) (ho : ∀ g, (Value.slice a len c).ownBlock = some g → ∀ q, (vf q).ownBlock ≠ some g) (hm : Moved w w' vf vf') : IsI w' B a len c xs ∧ ∀ g, (Value.slice a len c).ownBlock = some g → ∀ q, (vf' q).ownBlock ≠ some g :=
  ⟨⟨h.is, fam_keeps h.own (fun g hg => hm.block g (h.own.lt g hg).2 (ho g hg))⟩, fun g hg => hm.out (h.own.lt g hg).2 (ho g hg)⟩
/-- A list of numbers that lies outside of rows. -/
def LIo (w : World) (vf : ι → Value) (a : Option Addr) (x : List Int) : Prop := ∀ i, i < x.length → ∃ b o, a = some ⟨b, o, none⟩ ∧ w.cell? ⟨b, o + i, none⟩ = some (.int .i64 (x.getD i 0)) ∧ ∀ q, (vf q).ownBlock ≠ some b
theorem LIo.li {a : Option Addr} {x : List Int} (h : LIo w vf a x) : LI w a x := fun i hi => by
  obtain ⟨b, o, h1, h2, _⟩ := h i hi
  exact ⟨b, o, h1, h2⟩
theorem LIo.moved {a : Option Addr} {x : List Int} (h : LIo w vf a x) (hm : Moved w w' vf vf') : LIo w' vf' a x := fun i hi => by
  obtain ⟨b, o, h1, h2, h3⟩ := h i hi
  exact ⟨b, o, h1, (hm.cell (a := ⟨b, o + i, none⟩) (lt_of_cell h2) h3).trans h2, hm.out (lt_of_cell h2) h3⟩
theorem IsI.lio {B : Nat} {a : Option Addr} {len c : Nat} {xs : List Int} (h : IsI w B a len c xs) (ho : ∀ g, (Value.slice a len c).ownBlock = some g → ∀ q, (vf q).ownBlock ≠ some g) : LIo w vf a xs := fun i hi => by
  obtain ⟨g, cap, h1, h2, _, _⟩ := fam_block h.own (by have := h.is; omega)
  simp only [Value.slice.injEq] at h1
  exact ⟨g, 0, h1.1, by simpa using fam_cell h.own h2 (intsV_at hi), ho g h2⟩
end

/-- The rows of a space. -/
inductive Sr where
  | box
  | st
  | ks
  | hd
  | bf
deriving DecidableEq
def sTy : Sr → TypeId
  | .box => 39
  | .st => 86
  | .ks => 23
  | _ => 3
def sSz : Sr → Nat
  | .box => 6
  | _ => 1
/-- What a space holds: where its states lie, the states, where their numbers lie, the outcomes, whether there are too many. -/
structure Sd where
  sbs : List Nat
  ss : List Sx
  ks : List (Option Addr × Nat)
  ends : Value
  full : Bool
def keyL (d : Sd) (i : Nat) : List Int := numsX (d.ss.getD i default)
def sumsD (d : Sd) (i : Nat) : Nat := sumL (keyL d i)
def keyV (d : Sd) (i : Nat) : Value := .slice (d.ks.getD i default).1 (keyL d i).length (d.ks.getD i default).2
def headsD (d : Sd) : List Int := (List.range 4096).map fun h => lastS (sumsD d) h d.ss.length
def beforeD (d : Sd) : List Int := (List.range d.ss.length).map fun i => lastS (sumsD d) (sumsD d i) i
def sN (d : Sd) : Sr → Nat
  | .box => 1
  | .hd => 4096
  | _ => d.ss.length
def sX (v : Sr → Value) (d : Sd) : Sr → List Value
  | .box => [v .st, v .ks, v .hd, v .bf, d.ends, .bool d.full]
  | .st => d.sbs.map fun b => .pointer (some ⟨b, 0, none⟩)
  | .ks => (List.range d.ss.length).map (keyV d)
  | .hd => intsV (headsD d)
  | .bf => intsV (beforeD d)
structure SpIn (w : World) (B : Nat) (P : Pg) (pb : Nat) (v : Sr → Value) (d : Sd) : Prop where
  fam : Fam w B sTy sSz v (sN d) (sX v d)
  box : v .box = boxV pb
  len : d.sbs.length = d.ss.length
  klen : d.ks.length = d.ss.length
  states : ∀ i, i < d.ss.length → ∃ B' v', DSt w B' P (d.sbs.getD i 0) v' (d.ss.getD i default) ∧ ∀ r g, (v' r).ownBlock = some g → ∀ q, (v q).ownBlock ≠ some g
  keys : ∀ i, i < d.ss.length → ∃ B', IsI w B' (d.ks.getD i default).1 (keyL d i).length (d.ks.getD i default).2 (keyL d i) ∧ ∀ g, (keyV d i).ownBlock = some g → ∀ q, (v q).ownBlock ≠ some g
section
variable {w w1 : World} {B : Nat} {P : Pg} {pb : Nat} {v : Sr → Value} {d : Sd}
theorem SpIn.below (h : SpIn w B P pb v d) (hb : Below w.heap.size w w1) : SpIn w1 B P pb v d :=
  ⟨h.fam.below hb, h.box, h.len, h.klen, fun i hi => by
    obtain ⟨B', v', h1, h2⟩ := h.states i hi
    exact ⟨B', v', h1.below hb, h2⟩, fun i hi => by
    obtain ⟨B', h1, h2⟩ := h.keys i hi
    exact ⟨B', h1.below hb, h2⟩⟩
theorem SpIn.bblk (h : SpIn w B P pb v d) : (v .box).ownBlock = some pb := by rw [h.box]; rfl
theorem SpIn.c0 (h : SpIn w B P pb v d) : w.cell? ⟨pb, 0, none⟩ = some (v .st) := h.fam.cell h.bblk rfl
theorem SpIn.c1 (h : SpIn w B P pb v d) : w.cell? ⟨pb, 1, none⟩ = some (v .ks) := h.fam.cell h.bblk rfl
theorem SpIn.c2 (h : SpIn w B P pb v d) : w.cell? ⟨pb, 2, none⟩ = some (v .hd) := h.fam.cell h.bblk rfl
theorem SpIn.c3 (h : SpIn w B P pb v d) : w.cell? ⟨pb, 3, none⟩ = some (v .bf) := h.fam.cell h.bblk rfl
theorem SpIn.c4 (h : SpIn w B P pb v d) : w.cell? ⟨pb, 4, none⟩ = some d.ends := h.fam.cell h.bblk rfl
theorem SpIn.c5 (h : SpIn w B P pb v d) : w.cell? ⟨pb, 5, none⟩ = some (.bool d.full) := h.fam.cell h.bblk rfl
theorem SpIn.hdB (h : SpIn w B P pb v d) : ∃ hb hc, v .hd = .slice (some ⟨hb, 0, none⟩) 4096 hc ∧ (v .hd).ownBlock = some hb := by
  obtain ⟨g, c, h1, h2, _, _⟩ := fam_block (h.fam.own .hd) (by show 0 < 4096; omega)
  exact ⟨g, c, h1, h2⟩
theorem SpIn.head (h : SpIn w B P pb v d) {hb k : Nat} (e : (v .hd).ownBlock = some hb) (hk : k < 4096) : w.cell? ⟨hb, k, none⟩ = some (.int .i64 (lastS (sumsD d) k d.ss.length)) := by
  refine h.fam.cell e (u := .int .i64 _) ?_
  show (intsV (headsD d))[k]? = _
  unfold intsV headsD
  rw [List.map_map, List.getElem?_map, List.getElem?_range hk]
  rfl
theorem SpIn.bfB (h : SpIn w B P pb v d) (hn : 0 < d.ss.length) : ∃ hb hc, v .bf = .slice (some ⟨hb, 0, none⟩) d.ss.length hc ∧ (v .bf).ownBlock = some hb := by
  obtain ⟨g, c, h1, h2, _, _⟩ := fam_block (h.fam.own .bf) (by exact hn)
  exact ⟨g, c, h1, h2⟩
theorem SpIn.before (h : SpIn w B P pb v d) {hb i : Nat} (e : (v .bf).ownBlock = some hb) (hi : i < d.ss.length) : w.cell? ⟨hb, i, none⟩ = some (.int .i64 (lastS (sumsD d) (sumsD d i) i)) := by
  refine h.fam.cell e (u := .int .i64 _) ?_
  show (intsV (beforeD d))[i]? = _
  unfold intsV beforeD
  rw [List.map_map, List.getElem?_map, List.getElem?_range hi]
  rfl
theorem SpIn.ksB (h : SpIn w B P pb v d) (hn : 0 < d.ss.length) : ∃ hb hc, v .ks = .slice (some ⟨hb, 0, none⟩) d.ss.length hc ∧ (v .ks).ownBlock = some hb := by
  obtain ⟨g, c, h1, h2, _, _⟩ := fam_block (h.fam.own .ks) (by exact hn)
  exact ⟨g, c, h1, h2⟩
theorem SpIn.key (h : SpIn w B P pb v d) {hb i : Nat} (e : (v .ks).ownBlock = some hb) (hi : i < d.ss.length) : w.cell? ⟨hb, i, none⟩ = some (keyV d i) := by
  refine h.fam.cell e ?_
  show ((List.range d.ss.length).map (keyV d))[i]? = _
  rw [List.getElem?_map, List.getElem?_range hi]
  rfl
end
end

section
open Go.RowKit

theorem infoP : (Tryz.prog.info? 86).map (fun i => (i.zero, i.size, i.bytes)) = some (some (.pointer none), 1, 8) := by kernel_rfl
theorem infoL : (Tryz.prog.info? 23).map (fun i => (i.zero, i.size, i.bytes)) = some (some nilV, 1, 24) := by kernel_rfl

section
variable {ι : Type} [DecidableEq ι] {w w1 : World} {B : Nat} {ty : ι → TypeId} {sz : ι → Nat} {v : ι → Value} {n : ι → Nat} {xs : ι → List Value}
/-- A row that grew. -/
theorem Fam.grew (h : Fam w B ty sz v n xs) {r : ι} {g m c H : Nat} {ys : List Value} (hown : w1.ownsRow B (ty r) (sz r) (.slice (some ⟨g, 0, none⟩) m c) m ys) (hgrow : w.grownBy w1 (v r).ownBlock) (hat : (v r).ownBlock = some g ∨ g = H) (hH : w.heap.size ≤ H) :
    Fam w1 B ty sz (upd v r (.slice (some ⟨g, 0, none⟩) m c)) (upd n r m) (upd xs r ys) :=
  h.grow (r := r) (n1 := upd n r m) (xs1 := upd xs r ys) hown hgrow hat hH (upd_self _ _ _) (fun _ hq => upd_ne _ _ hq) (upd_self _ _ _) (fun _ hq => upd_ne _ _ hq)
theorem Fam.store (h : Fam w B ty sz v n xs) {r : ι} {g : Nat} (e : (v r).ownBlock = some g) (i : Nat) (u : Value) : Fam (w.setCell ⟨g, i, none⟩ u) B ty sz v n (upd xs r ((xs r).set i u)) :=
  h.put e i u (fun _ => rfl) (upd_self _ _ _) (fun _ hq => upd_ne _ _ hq)
end

/-- One state more. -/
def Sd.push (d : Sd) (xb : Nat) (sx : Sx) (ka : Option Addr) (kc : Nat) : Sd := ⟨d.sbs ++ [xb], d.ss ++ [sx], d.ks ++ [(ka, kc)], d.ends, d.full || decide (4000 < d.ss.length + 1)⟩
section
variable {d : Sd} {xb : Nat} {sx : Sx} {ka : Option Addr} {kc : Nat}
theorem push_ss {i : Nat} (hi : i < d.ss.length) : (d.push xb sx ka kc).ss.getD i default = d.ss.getD i default := by
  show (d.ss ++ [sx]).getD i default = _
  simp [List.getD, List.getElem?_append_left hi]
theorem push_new : (d.push xb sx ka kc).ss.getD d.ss.length default = sx := by
  show (d.ss ++ [sx]).getD d.ss.length default = _
  simp [List.getD]
theorem push_len : (d.push xb sx ka kc).ss.length = d.ss.length + 1 := by
  show (d.ss ++ [sx]).length = _
  simp
theorem push_key {i : Nat} (hi : i < d.ss.length) : keyL (d.push xb sx ka kc) i = keyL d i := by unfold keyL; rw [push_ss hi]
theorem push_keyN : keyL (d.push xb sx ka kc) d.ss.length = numsX sx := by unfold keyL; rw [push_new]
theorem push_sum {i : Nat} (hi : i < d.ss.length) : sumsD (d.push xb sx ka kc) i = sumsD d i := by unfold sumsD; rw [push_key hi]
theorem push_sumN : sumsD (d.push xb sx ka kc) d.ss.length = sumL (numsX sx) := by unfold sumsD; rw [push_keyN]
theorem push_before : beforeD (d.push xb sx ka kc) = beforeD d ++ [lastS (sumsD d) (sumL (numsX sx)) d.ss.length] := by
  unfold beforeD
  rw [push_len, List.range_succ, List.map_append]
  congr 1
  · refine List.map_congr_left fun i hi => ?_
    have hi' : i < d.ss.length := by simpa using hi
    rw [push_sum hi', last_congr i (fun j hj => push_sum (by omega))]
  · simp only [List.map_cons, List.map_nil]
    rw [push_sumN, last_congr d.ss.length (fun j hj => push_sum hj)]
theorem push_heads {h : Nat} (hh : sumL (numsX sx) = h) : headsD (d.push xb sx ka kc) = (headsD d).set h (d.ss.length : Nat) := by
  have hlt : h < 4096 := by rw [← hh]; exact sumL_lt _
  unfold headsD
  refine List.ext_getElem? fun i => ?_
  rw [List.getElem?_set, List.getElem?_map, List.getElem?_map]
  by_cases hi : i < 4096
  · rw [List.getElem?_range hi]
    by_cases he : h = i
    · subst he
      rw [if_pos rfl, if_pos (by simpa using hlt), push_len]
      show some (lastS _ h (d.ss.length + 1)) = _
      unfold lastS
      rw [if_pos (by rw [push_sumN]; exact hh)]
    · rw [if_neg he, push_len]
      show some (lastS _ i (d.ss.length + 1)) = some _
      rw [show lastS (sumsD (d.push xb sx ka kc)) i (d.ss.length + 1) = lastS (sumsD (d.push xb sx ka kc)) i d.ss.length by
        conv => lhs; unfold lastS
        rw [if_neg (by rw [push_sumN, hh]; exact he)], last_congr d.ss.length (fun j hj => push_sum hj)]
  · rw [List.getElem?_eq_none (by simpa using Nat.le_of_not_lt hi)]
    have hne : ¬ h = i := by omega
    rw [if_neg hne]
    rfl
theorem push_kv {i : Nat} (hk : d.ks.length = d.ss.length) (hi : i < d.ss.length) : keyV (d.push xb sx ka kc) i = keyV d i := by
  unfold keyV
  rw [push_key hi]
  have e : (d.push xb sx ka kc).ks.getD i default = d.ks.getD i default := by
    show (d.ks ++ [(ka, kc)]).getD i default = _
    simp [List.getD, List.getElem?_append_left (show i < d.ks.length by omega)]
  rw [e]
theorem push_kvN (hk : d.ks.length = d.ss.length) : keyV (d.push xb sx ka kc) d.ss.length = .slice ka (numsX sx).length kc := by
  unfold keyV
  rw [push_keyN]
  have e : (d.push xb sx ka kc).ks.getD d.ss.length default = (ka, kc) := by
    show (d.ks ++ [(ka, kc)]).getD d.ss.length default = _
    rw [← hk]
    simp [List.getD]
  rw [e]
theorem push_kvs (hk : d.ks.length = d.ss.length) : (List.range (d.push xb sx ka kc).ss.length).map (keyV (d.push xb sx ka kc)) = (List.range d.ss.length).map (keyV d) ++ [.slice ka (numsX sx).length kc] := by
  rw [push_len, List.range_succ, List.map_append]
  congr 1
  · exact List.map_congr_left fun i hi => push_kv hk (by simpa using hi)
  · simp only [List.map_cons, List.map_nil]
    rw [push_kvN hk]
end
end

section
open Go.RowKit

/-- What put leaves: a state that was there already, or one more. -/
def SputQ (w : World) (B : Nat) (P : Pg) (pb : Nat) (v : Sr → Value) (d : Sd) (xb : Nat) (sx : Sx) (e : Ending) (w' : World) : Prop := e = .returned (.tuple #[]) ∧
  (((∃ i, i < d.ss.length ∧ keyL d i = numsX sx) ∧ Below w.heap.size w w') ∨ ((∀ i, i < d.ss.length → keyL d i ≠ numsX sx) ∧ ∃ v' ka kc, SpIn w' B P pb v' (d.push xb sx ka kc) ∧ Moved w w' v v'))

attribute [local go_sem ↓] appS_eq
set_option maxRecDepth 100000 in
set_option maxHeartbeats 3200000 in
theorem sput_any (w : World) (B : Nat) (P : Pg) (pb : Nat) (v : Sr → Value) (d : Sd) (L : Nat → Nat) (m lk rg Bx xb : Nat) (vx : Rl → Value) (sx : Sx) (hS : SpIn w B P pb v d) (hx : DSt w Bx P xb vx sx) (hxo : ∀ r g, (vx r).ownBlock = some g → ∀ q, (v q).ownBlock ≠ some g) (ho : SOk P.n L m lk rg P.mode sx) (hn0 : 0 < P.n) (hN : P.n ≤ 4) (hm64 : m ≤ 64) (hlk4 : lk ≤ 4) (hrg : rg ≤ 200) (hpl : sx.prints.length ≤ 20000) (hd : d.ss.length ≤ 5000) (hkl : ∀ i, i < d.ss.length → (keyL d i).length ≤ 100000) :
    Calls Tryz.prog 60 #[.pointer (some ⟨pb, 0, none⟩), .pointer (some ⟨xb, 0, none⟩)] w (SputQ w B P pb v d xb sx) := by
  have HNM := Hid.out (p := Hid _) (nums_any w Bx xb P vx sx L m lk rg hn0 hx ho hN hm64 hlk4 hrg (by omega))
  have HNL : Hid ((numsX sx).length ≤ 100000) := by
    have h1 := numA_len sx (rg := rg) (fun t ht => ho.regs t (by rw [← ho.ths]; exact ht)) (fun t ht => ho.wlen t (by rw [← ho.ths]; exact ht)) sx.ths.length (Nat.le_refl _)
    have h2 : (11 + rg) * sx.ths.length ≤ 211 * 4 := Nat.mul_le_mul (by omega) (by rw [ho.ths]; exact hN)
    have h3 := ho.words
    have h4 := ho.own
    show (sx.ths.flatMap numT ++ sx.words ++ sx.own ++ sx.prints).length ≤ 100000
    rw [← numA_all]
    simp only [List.length_append]
    omega
  obtain ⟨hb, hc, hhv, hhb⟩ := hS.hdB
  have c2 := hS.c2
  rw [hhv] at c2
  have HHD : Hid (∀ k, k < 4096 → w.cell? ⟨hb, k, none⟩ = some (.int .i64 (lastS (sumsD d) k d.ss.length))) := fun k hk => hS.head hhb hk
  have HSP := Hid.out (p := Hid _) hS
  have HHB : Hid ((v .hd).ownBlock = some hb) := hhb
  obtain ⟨n, hnn⟩ : ∃ n, d.ss.length = n := ⟨_, rfl⟩
  have HN : Hid (d.ss.length = n) := hnn
  rw [hnn] at HHD hd hkl
  have HKL := Hid.out (p := Hid _) hkl
  have HX : Hid (DSt w Bx P xb vx sx ∧ ∀ r g, (vx r).ownBlock = some g → ∀ q, (v q).ownBlock ≠ some g) := ⟨hx, hxo⟩
  clear hx hxo ho hS hnn hkl hhv hhb
  go_enter Tryz.func60, Tryz.ntmps60
  go_wp2_with fail
  refine Calls.mono HNM.out ?_
  rintro e w1 ⟨la, ll, lc, rfl, hI1, hb1⟩
  have hLI : LI w1 la (numsX sx) := fun i hi => hI1.iin i (by rw [← hI1.is]; exact hi)
  have HI1 := Hid.out (p := Hid _) hI1
  have c21 := (hb1.cell (lt_of_cell c2)).trans c2
  obtain ⟨l, hl⟩ : ∃ l, numsX sx = l := ⟨_, rfl⟩
  have HLX : Hid (numsX sx = l) := hl
  have hll : ll = l.length := by rw [← hl]; exact hI1.is.symm
  subst hll
  rw [hl] at hLI HNL
  have hsm := sumL_lt l
  have hh1 := (hb1.cell (lt_of_cell (HHD.out _ hsm))).trans (HHD.out _ hsm)
  have HSM := Hid.out (p := Hid _) (sum_any la l lc HNL.out w1 hLI)
  clear HNM hI1 hl
  go_wp2_with fail
  refine Calls.mono HSM.out ?_
  rintro e w2 ⟨rfl, rfl⟩
  obtain ⟨h, hh⟩ : ∃ h, sumL l = h := ⟨_, rfl⟩
  have HH : Hid (sumL l = h) := hh
  rw [hh] at hsm hh1 ⊢
  clear hh HSM
  go_wp2_with fail
  have HROW : Hid (∀ i, i < n → ∃ kb kc ka kl c bb bc, w2.cell? ⟨pb, 1, none⟩ = some (.slice (some ⟨kb, 0, none⟩) n kc) ∧ w2.cell? ⟨kb, i, none⟩ = some (.slice ka kl c) ∧ kl = (keyL d i).length ∧ LI w2 ka (keyL d i) ∧ w2.cell? ⟨pb, 3, none⟩ = some (.slice (some ⟨bb, 0, none⟩) n bc) ∧ w2.cell? ⟨bb, i, none⟩ = some (.int .i64 (lastS (sumsD d) (sumsD d i) i))) := fun i hi => by
    have hS := HSP.out.below hb1
    have hi' : i < d.ss.length := by rw [HN.out]; exact hi
    obtain ⟨kb, kc, e1, e2⟩ := hS.ksB (by omega)
    obtain ⟨bb, bc, e3, e4⟩ := hS.bfB (by omega)
    obtain ⟨_, h1, _⟩ := hS.keys i hi'
    have c1 := hS.c1
    have c3 := hS.c3
    rw [e1, HN.out] at c1
    rw [e3, HN.out] at c3
    exact ⟨kb, kc, _, _, _, bb, bc, c1, hS.key e2 hi', rfl, h1.iin, c3, hS.before e4 hi'⟩
  go_loopw [6] (fun i wr => ∃ mm : Nat, mm ≤ n ∧ i = .int .i64 (lastS (sumsD d) h mm) ∧ Hid (∀ j, mm ≤ j → j < n → keyL d j ≠ l) ∧ Below w2.heap.size w2 wr) (fun i _ => (intOf i + 1).toNat)
  case atStart => exact ⟨n, Nat.le_refl _, rfl, fun j h1 h2 => by omega, Below.refl _ _⟩
  case round =>
    obtain ⟨mm, hmm, rfl, HNO, hbr⟩ := hrel
    have hlow := last_low (f := sumsD d) (h := h) mm
    have hlt := last_lt (f := sumsD d) (h := h) mm
    have HLI := Hid.out (p := Hid _) (last_is (f := sumsD d) (h := h) mm)
    have HLN := Hid.out (p := Hid _) (last_none (f := sumsD d) (h := h) mm)
    obtain ⟨q, hq⟩ : ∃ q, lastS (sumsD d) h mm = q := ⟨_, rfl⟩
    rw [hq] at hlow hlt HLI HLN ⊢
    by_cases h0 : 0 ≤ q
    · obtain ⟨i, rfl⟩ : ∃ i : Nat, q = i := ⟨q.toNat, by omega⟩
      have hin : i < n := by omega
      obtain ⟨kb, kc, ka, kl, c, bb, bc, r1, r2, hkl2, r3, r4, r5⟩ := HROW.out i hin
      have r1r := (hbr.cell (lt_of_cell r1)).trans r1
      have r2r := (hbr.cell (lt_of_cell r2)).trans r2
      subst hkl2
      have HCI := Hid.out (p := Hid _) (rints_any ka la (keyL d i) l c lc (HKL.out i hin) HNL.out wr (IIn.below r3 hbr) (IIn.below hLI hbr))
      have HSI : Hid (sumsD d i = h) := (HLI.out i rfl).1
      clear hq
      go_wp2_with fail
      refine Calls.mono HCI.out ?_
      rintro e w3 ⟨rfl, hb3⟩
      have hB3 : Below w2.heap.size w2 w3 := hbr.trans (hb3.mono hbr.size)
      have r4r := (hB3.cell (lt_of_cell r4)).trans r4
      have r5r := (hB3.cell (lt_of_cell r5)).trans r5
      by_cases hk : keyL d i = l
      · have HR : Hid (SputQ w B P pb v d xb sx (.returned (.tuple #[])) w3) := ⟨rfl, Or.inl ⟨⟨i, by rw [HN.out]; exact hin, by rw [hk, HLX.out]⟩, hb1.trans (hB3.mono hb1.size)⟩⟩
        rw [decide_eq_true hk]
        clear HCI HLI HLN HNO HROW
        go_wp2
        go_end0
        exact HR.out
      · rw [decide_eq_false hk]
        have HNX : Hid (∀ j, i ≤ j → j < n → keyL d j ≠ l) := fun j h1 h2 e => by
          rcases Nat.lt_or_ge j mm with h3 | h3
          · rcases Nat.eq_or_lt_of_le h1 with h4 | h4
            · subst h4; exact hk e
            · exact (HLI.out i rfl).2 j h4 h3 (by show sumL (keyL d j) = h; rw [e]; exact HH.out)
          · exact HNO.out j h3 h2 e
        rw [HSI.out] at r5r
        have hl2 := last_lt (f := sumsD d) (h := h) i
        have hl3 := last_low (f := sumsD d) (h := h) i
        clear HCI HLI HLN HNO HROW r5 hk
        go_wp2
        go_roundw
        case rel => exact ⟨i, by omega, rfl, HNX, hB3⟩
        case measure => simp [intOf]; omega
    · have HNO2 : Hid (∀ j, j < n → keyL d j ≠ l) := fun j h2 e => by
        rcases Nat.lt_or_ge j mm with h3 | h3
        · exact HLN.out (by omega) j h3 (by show sumL (keyL d j) = h; rw [e]; exact HH.out)
        · exact HNO.out j h3 h2 e
      clear HROW HNO HLI HLN
      have hBW : Below w.heap.size w wr := hb1.trans (hbr.mono hb1.size)
      have hS0 := HSP.out.below hBW
      have hNn := HN.out
      have hBz : B ≤ wr.heap.size := Nat.le_trans (hS0.fam.low .box pb hS0.bblk) (Nat.le_of_lt (hS0.fam.lt hS0.bblk))
      obtain ⟨ba, bc, hbv⟩ := fam_form (hS0.fam.own .bf)
      have hbl : sN d .bf = n := hNn
      rw [hbl] at hbv
      obtain ⟨g1, c1, w3, r1, o1, k1, a1⟩ := app_row (T := 23) Tryz.underlying23 infoI rfl (by omega) (hS0.fam.own .bf) (Below.refl _ wr).drew hBz 1 #[.int .i64 (lastS (sumsD d) h n)] rfl (by simp [Value.oneCell']) (by omega) (by rw [hbl]; omega) (by omega)
      have hbd1 : Below wr.heap.size wr (wr.drew.alloc (.cells #[.int .i64 (lastS (sumsD d) h n)] 3)) := ((Below.refl _ _).drew).alloc (by simp) _
      have F0 := hS0.fam.below hbd1
      obtain ⟨y1, hy1⟩ : ∃ y : Value, y = .slice (some ⟨g1, 0, none⟩) (n + 1) c1 := ⟨_, rfl⟩
      rw [hbl] at o1 r1
      have G1 := F0.grew (r := .bf) o1 k1 a1 (by simp)
      rw [← hy1] at G1
      have M0 : Moved wr (wr.drew.alloc (.cells #[.int .i64 (lastS (sumsD d) h n)] 3)) v v := Moved.of_below hbd1
      have M1 := M0.grow (r := .bf) (m := n + 1) (c := c1) k1 a1 (by simp)
      rw [← hy1] at M1
      have pbk : (v .box).ownBlock = some pb := hS0.bblk
      have hbk : (v .hd).ownBlock = some hb := HHB.out
      have npb : ¬ pb = hb := F0.ne pbk hbk (by decide)
      have nbp : ¬ hb = pb := fun e => npb e.symm
      -- the list of those ahead
      have F1 := G1.store (r := .box) (g := pb) (by rw [upd_ne _ _ (by decide)]; exact pbk) 3 y1
      have N1 := M1.put (r := .box) (g := pb) (by rw [upd_ne _ _ (by decide)]; exact pbk) 3 y1
      have F1d := F1.drew
      have N1d := N1.drew
      -- the last one of the sum
      have F2 := F1d.store (r := .hd) (g := hb) (by rw [upd_ne _ _ (by decide)]; exact hbk) h (.int .i64 (n : Nat))
      have N2 := N1d.put (r := .hd) (g := hb) (by rw [upd_ne _ _ (by decide)]; exact hbk) h (.int .i64 (n : Nat))
      obtain ⟨W2, hW2⟩ : ∃ W, W = (w3.setCell ⟨pb, 3, none⟩ y1).drew.setCell ⟨hb, h, none⟩ (.int .i64 (n : Nat)) := ⟨_, rfl⟩
      rw [← hW2] at F2 N2
      have hB2 : B ≤ W2.heap.size := Nat.le_trans hBz N2.size
      -- the states
      obtain ⟨sa, sc, hsv⟩ := fam_form (F2.own .st)
      obtain ⟨g3, c3, w5, r3, o3, k3, a3⟩ := app_row (T := 36) Tryz.underlying36 infoP rfl (by omega) (F2.own .st) (Below.refl _ W2) hB2 1 #[.pointer (some ⟨xb, 0, none⟩)] rfl (by simp [Value.oneCell']) (by omega) (by show d.ss.length + 1 ≤ _; omega) (by omega)
      have hsl : upd (sN d) Sr.bf (n + 1) Sr.st = n := by rw [upd_ne _ _ (by decide)]; exact hNn
      rw [hsl] at hsv o3 r3
      obtain ⟨y3, hy3⟩ : ∃ y : Value, y = .slice (some ⟨g3, 0, none⟩) (n + 1) c3 := ⟨_, rfl⟩
      have hbd3 : Below W2.heap.size W2 (W2.alloc (.cells #[.pointer (some ⟨xb, 0, none⟩)] 86)) := (Below.refl _ _).alloc (Nat.le_refl _) _
      have G3 := (F2.below hbd3).grew (r := .st) o3 k3 a3 (by simp)
      have M3 := (N2.alloc (.cells #[.pointer (some ⟨xb, 0, none⟩)] 86)).grow (r := .st) (m := n + 1) (c := c3) k3 a3 (by simp)
      rw [← hy3] at G3 M3
      have F3 := G3.store (r := .box) (g := pb) (by rw [upd_ne _ _ (by decide), upd_ne _ _ (by decide)]; exact pbk) 0 y3
      have N3 := M3.put (r := .box) (g := pb) (by rw [upd_ne _ _ (by decide), upd_ne _ _ (by decide)]; exact pbk) 0 y3
      obtain ⟨W3, hW3⟩ : ∃ W, W = w5.setCell ⟨pb, 0, none⟩ y3 := ⟨_, rfl⟩
      rw [← hW3] at F3 N3
      have hB3 : B ≤ W3.heap.size := Nat.le_trans hBz N3.size
      -- their numbers
      have hkl : upd (upd (sN d) Sr.bf (n + 1)) Sr.st (n + 1) Sr.ks = n := by rw [upd_ne _ _ (by decide), upd_ne _ _ (by decide)]; exact hNn
      obtain ⟨ka, kc, hkv⟩ := fam_form (F3.own .ks)
      obtain ⟨g4, c4, w6, r4, o4, k4, a4⟩ := app_row (T := 37) Tryz.underlying37 infoL rfl (by omega) (F3.own .ks) (Below.refl _ W3) hB3 1 #[.slice la l.length lc] rfl (by simp [Value.oneCell']) (by omega) (by rw [hkl]; omega) (by omega)
      rw [hkl] at hkv o4 r4
      obtain ⟨y4, hy4⟩ : ∃ y : Value, y = .slice (some ⟨g4, 0, none⟩) (n + 1) c4 := ⟨_, rfl⟩
      have hbd4 : Below W3.heap.size W3 (W3.alloc (.cells #[.slice la l.length lc] 23)) := (Below.refl _ _).alloc (Nat.le_refl _) _
      have G4 := (F3.below hbd4).grew (r := .ks) o4 k4 a4 (by simp)
      have M4 := (N3.alloc (.cells #[.slice la l.length lc] 23)).grow (r := .ks) (m := n + 1) (c := c4) k4 a4 (by simp)
      rw [← hy4] at G4 M4
      have pb4 : (upd (upd (upd v Sr.bf y1) Sr.st y3) Sr.ks y4 .box).ownBlock = some pb := by rw [upd_ne _ _ (by decide), upd_ne _ _ (by decide), upd_ne _ _ (by decide)]; exact pbk
      have F4 := G4.store (r := .box) (g := pb) pb4 1 y4
      have N4 := M4.put (r := .box) (g := pb) pb4 1 y4
      have F5 := F4.store (r := .box) (g := pb) pb4 5 (.bool (d.full || decide (4000 < n + 1)))
      have N5 := N4.put (r := .box) (g := pb) pb4 5 (.bool (d.full || decide (4000 < n + 1)))
      have HR : Hid (SputQ w B P pb v d xb sx (.returned (.tuple #[])) ((w6.setCell ⟨pb, 1, none⟩ y4).setCell ⟨pb, 5, none⟩ (.bool (d.full || decide (4000 < n + 1))))) := by
        refine ⟨rfl, Or.inr ⟨fun i hi => by rw [HLX.out]; exact HNO2.out i (by rw [← hNn]; exact hi), upd (upd (upd v Sr.bf y1) Sr.st y3) Sr.ks y4, la, lc, ⟨F5.same (fun q => ?_) (fun q => ?_), ?_, ?_, ?_, fun i hi => ?_, fun i hi => ?_⟩, (Moved.of_below hBW).trans N5⟩⟩
        · cases q with
          | box => rfl
          | hd => rfl
          | st => show (d.push xb sx la lc).ss.length = n + 1; rw [push_len, hNn]
          | ks => show (d.push xb sx la lc).ss.length = n + 1; rw [push_len, hNn]
          | bf => show (d.push xb sx la lc).ss.length = n + 1; rw [push_len, hNn]
        · have hsum : sumL (numsX sx) = h := by rw [HLX.out]; exact HH.out
          cases q with
          | box =>
            show [y3, y4, v .hd, y1, d.ends, .bool (d.full || decide (4000 < d.ss.length + 1))] = _
            rw [hNn]
            rfl
          | st =>
            show (d.sbs ++ [xb]).map (fun b => Value.pointer (some ⟨b, 0, none⟩)) = d.sbs.map (fun b => Value.pointer (some ⟨b, 0, none⟩)) ++ [.pointer (some ⟨xb, 0, none⟩)]
            simp
          | ks =>
            have e := push_kvs (d := d) (xb := xb) (sx := sx) (ka := la) (kc := lc) hS0.klen
            rw [HLX.out] at e
            exact e
          | hd =>
            show intsV (headsD (d.push xb sx la lc)) = (intsV (headsD d)).set h (.int .i64 (n : Nat))
            rw [push_heads hsum, intsV_set, hNn]
          | bf =>
            show intsV (beforeD (d.push xb sx la lc)) = intsV (beforeD d) ++ [.int .i64 (lastS (sumsD d) h n)]
            rw [push_before, hsum, hNn]
            simp [intsV]
        · rw [upd_ne _ _ (by decide), upd_ne _ _ (by decide), upd_ne _ _ (by decide)]; exact hS0.box
        · show (d.sbs ++ [xb]).length = (d.ss ++ [sx]).length
          rw [List.length_append, List.length_append, hS0.len]; rfl
        · show (d.ks ++ [(la, lc)]).length = (d.ss ++ [sx]).length
          rw [List.length_append, List.length_append, hS0.klen]; rfl
        · rw [push_len] at hi
          rcases Nat.lt_or_ge i d.ss.length with h1 | h1
          · obtain ⟨B', v', q1, q2⟩ := hS0.states i h1
            obtain ⟨q3, q4⟩ := q1.moved q2 N5
            refine ⟨B', v', ?_, q4⟩
            rw [push_ss h1, show (d.push xb sx la lc).sbs.getD i 0 = d.sbs.getD i 0 by show (d.sbs ++ [xb]).getD i 0 = _; simp [List.getD, List.getElem?_append_left (show i < d.sbs.length by rw [hS0.len]; exact h1)]]
            exact q3
          · obtain rfl : i = d.ss.length := by omega
            obtain ⟨q3, q4⟩ := (HX.out.1.below hBW).moved HX.out.2 N5
            refine ⟨Bx, vx, ?_, q4⟩
            rw [push_new, show (d.push xb sx la lc).sbs.getD d.ss.length 0 = xb by show (d.sbs ++ [xb]).getD d.ss.length 0 = _; rw [← hS0.len]; simp [List.getD]]
            exact q3
        · rw [push_len] at hi
          rcases Nat.lt_or_ge i d.ss.length with h1 | h1
          · obtain ⟨B', q1, q2⟩ := hS0.keys i h1
            obtain ⟨q3, q4⟩ := q1.moved q2 N5
            refine ⟨B', ?_, by rw [push_kv hS0.klen h1]; exact q4⟩
            rw [push_key h1, show (d.push xb sx la lc).ks.getD i default = d.ks.getD i default by show (d.ks ++ [(la, lc)]).getD i default = _; simp [List.getD, List.getElem?_append_left (show i < d.ks.length by rw [hS0.klen]; exact h1)]]
            exact q3
          · obtain rfl : i = d.ss.length := by omega
            obtain ⟨q3, q4⟩ := IsI.moved (vf := v) (HI1.out.below hbr) (fun g hg q e => by
              have h1 := (HI1.out.own.lt g hg).1
              have h2 := HSP.out.fam.lt e
              omega) N5
            refine ⟨w.heap.size, ?_, by rw [push_kvN hS0.klen, HLX.out]; exact q4⟩
            rw [push_keyN, show (d.push xb sx la lc).ks.getD d.ss.length default = (la, lc) by show (d.ks ++ [(la, lc)]).getD d.ss.length default = _; rw [← hS0.klen]; simp [List.getD], HLX.out]
            rw [HLX.out] at q3
            exact q3
      have e3 := hS0.c3
      rw [hbv] at e3
      have e2 := (hBW.cell (lt_of_cell c2)).trans c2
      have eh := (hBW.cell (lt_of_cell (HHD.out _ hsm))).trans (HHD.out _ hsm)
      have e3u := cell_up e3
      have e2u := cell_up e2
      have ehu := cell_up eh
      have hhv : v .hd = .slice (some ⟨hb, 0, none⟩) 4096 hc := by
        have := hS0.c2
        rw [e2] at this
        exact (Option.some.inj this).symm
      have hsv' : v .st = .slice sa n sc := hsv
      have hkv' : v .ks = .slice ka n kc := hkv
      have pk1 : (upd v Sr.bf y1 .box).ownBlock = some pb := by rw [upd_ne _ _ (by decide)]; exact pbk
      have pk3 : (upd (upd v Sr.bf y1) Sr.st y3 .box).ownBlock = some pb := by rw [upd_ne _ _ (by decide), upd_ne _ _ (by decide)]; exact pbk
      have hk1 : (upd v Sr.bf y1 .hd).ownBlock = some hb := by rw [upd_ne _ _ (by decide)]; exact hbk
      have p0 : w3.cell? ⟨pb, 0, none⟩ = some (.slice sa n sc) := (G1.cell pk1 rfl).trans (congrArg some hsv')
      have p1 : w3.cell? ⟨pb, 1, none⟩ = some (.slice ka n kc) := (G1.cell pk1 rfl).trans (congrArg some hkv')
      have p2 : w3.cell? ⟨pb, 2, none⟩ = some (.slice (some ⟨hb, 0, none⟩) 4096 hc) := (G1.cell pk1 rfl).trans (congrArg some hhv)
      have p3 : w3.cell? ⟨pb, 3, none⟩ = some (.slice ba n bc) := (G1.cell pk1 rfl).trans (congrArg some hbv)
      have p5 : w3.cell? ⟨pb, 5, none⟩ = some (.bool d.full) := G1.cell pk1 rfl
      have pf : ∀ i, w3.frozen? ⟨pb, i, none⟩ = false := fun i => G1.frozen pk1 i
      have ph : w3.cell? ⟨hb, h, none⟩ = some (.int .i64 (lastS (sumsD d) h n)) := (k1.cell (cell_up (a := ⟨hb, h, none⟩) (w := wr.drew) eh _) (fun e => absurd (F0.apart _ _ hb hbk e.symm) (by decide)))
      have phf : ∀ i, w3.frozen? ⟨hb, i, none⟩ = false := fun i => G1.frozen hk1 i
      have q0 : w5.cell? ⟨pb, 0, none⟩ = some (.slice sa n sc) := (G3.cell pk3 rfl).trans (congrArg some hsv')
      have q1 : w5.cell? ⟨pb, 1, none⟩ = some (.slice ka n kc) := (G3.cell pk3 rfl).trans (congrArg some hkv')
      have q5 : w5.cell? ⟨pb, 5, none⟩ = some (.bool d.full) := G3.cell pk3 rfl
      have qf : ∀ i, w5.frozen? ⟨pb, i, none⟩ = false := fun i => G3.frozen pk3 i
      have s0 : w6.cell? ⟨pb, 0, none⟩ = some y3 := G4.cell pb4 rfl
      have s1 : w6.cell? ⟨pb, 1, none⟩ = some (.slice ka n kc) := (G4.cell pb4 rfl).trans (congrArg some hkv')
      have s5 : w6.cell? ⟨pb, 5, none⟩ = some (.bool d.full) := G4.cell pb4 rfl
      have sf : ∀ i, w6.frozen? ⟨pb, i, none⟩ = false := fun i => G4.frozen pb4 i
      have z2 : W2.heap.size = w3.heap.size := by rw [hW2]; simp [World.setCell]
      have z3 : W3.heap.size = w5.heap.size := by rw [hW3]; simp [World.setCell]
      rw [hbv, show wr.drew.heap.size = wr.heap.size from rfl] at r1
      have hrun1 : (AppS #[23, 23] 23 #[.slice ba n bc, .slice (some ⟨wr.heap.size, 0, none⟩) 1 1]).run Tryz.prog (wr.alloc (.cells #[.int .i64 (lastS (sumsD d) h n)] 3)).drew = .ok y1 w3 := by rw [hy1]; exact r1
      rw [hsv, z2, hW2] at r3
      have hrun3 : (AppS #[36, 36] 36 #[.slice sa n sc, .slice (some ⟨w3.heap.size, 0, none⟩) 1 1]).run Tryz.prog (((w3.setCell ⟨pb, 3, none⟩ y1).setCell ⟨hb, h, none⟩ (.int .i64 (n : Nat))).alloc (.cells #[.pointer (some ⟨xb, 0, none⟩)] 86)).drew = .ok y3 w5 := by rw [hy3]; exact r3
      rw [hkv, z3, hW3] at r4
      have hrun4 : (AppS #[37, 37] 37 #[.slice ka n kc, .slice (some ⟨w5.heap.size, 0, none⟩) 1 1]).run Tryz.prog ((w5.setCell ⟨pb, 0, none⟩ y3).alloc (.cells #[.slice la l.length lc] 23)) = .ok y4 w6 := by rw [hy4]; exact r4
      obtain ⟨fu, hfu⟩ : ∃ b, d.full = b := ⟨_, rfl⟩
      rw [hfu] at HR p5 q5 s5
      have lpb : pb < wr.heap.size := lt_of_cell e3
      have lhb : hb < wr.heap.size := lt_of_cell eh
      clear F0 F1 F1d F2 F3 F4 F5 G1 G3 G4 M0 M1 M3 M4 N1 N1d N2 N3 N4 N5 hbd1 hbd3 hbd4 r1 r3 r4 o1 o3 o4 k1 k3 k4 a1 a3 a4 hW2 hW3 z2 z3 hsv hkv hsv' hkv' hhv hbv pk1 pk3 hk1 pb4 hB2 hB3 hsl hkl hbl hS0 HNO2 hfu
      subst hy1 hy3 hy4
      clear HX HSP HHD HKL HI1 HLX hLI hBW
      have ed : decide (4000 < n + 1) = decide ((4000 : Int) < (n : Int) + 1) := by
        by_cases hc : 4000 < n + 1
        · rw [decide_eq_true hc, decide_eq_true (by omega)]
        · rw [decide_eq_false hc, decide_eq_false (by omega)]
      rw [ed] at HR
      clear ed
      cases fu with
      | true =>
        rw [Bool.true_or] at HR
        go_wp2
        go_region
        all_goals go_wp2
        all_goals go_region
        all_goals go_wp2
        all_goals go_end0
        all_goals exact HR.out
      | false =>
        rw [Bool.false_or] at HR
        go_wp2
        go_region
        all_goals go_wp2
        all_goals go_region
        all_goals go_wp2
        all_goals go_end0
        all_goals exact HR.out
end

end Go.Proofs.YtipdnfpomdcenabGreatDoor
