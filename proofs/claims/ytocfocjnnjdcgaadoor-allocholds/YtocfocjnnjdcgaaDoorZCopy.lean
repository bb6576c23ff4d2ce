/-
  A state's copy, by the document: its rows, one behind the other.
-/
import Derived.Test.YtocfocjnnjdcgaaDoorZNum
import Derived.Test.YtocfocjnnjdcgaaDoorRDo5
namespace Go.Proofs.YtocfocjnnjdcgaaDoor
open Go.RowKit

section
variable {w w1 : World} {B : Nat} {P : Pg} {sb : Nat} {v : Rl → Value} {s : Sx}
/-- The locks. -/
theorem DSt.layOwn (h : DSt w B P sb v s) {g : Nat} {x : Value} {l : List Int} (hx : x.ownBlock = some g) (h0 : (v .own).ownBlock = none) (hg : ∀ q, (v q).ownBlock ≠ some g) (hown : w.ownsRow B 3 1 x l.length (intsV l)) :
    DSt (w.setCell ⟨sb, 7, none⟩ x) B P sb (upd v .own x) { s with own := l } := by
  have h1 := h.fam.lay (r := .own) (n1 := rN { s with own := l }) (xs1 := fun q => if q = .own then intsV l else rX P v s q) hx h0 hg (by rw [if_pos rfl]; exact hown) (fun q hq => by cases q <;> first | rfl | exact absurd rfl hq) (fun q hq => if_neg hq)
  refine ⟨h1.put (r := .box) (by rw [upd_ne _ _ (by decide)]; exact h.bblk) 7 _ (fun q => rfl) ?_ (fun q hq => ?_), by rw [upd_ne _ _ (by decide)]; exact h.box⟩
  · rw [if_neg (by decide)]
    simp only [rX, upd_self]
    rw [upd_ne _ _ (by decide), upd_ne _ _ (by decide), upd_ne _ _ (by decide)]
    rfl
  · cases q with
    | box => exact absurd rfl hq
    | own => rw [if_pos rfl]; rfl
    | thr =>
      rw [if_neg (by decide)]
      refine rows3_congr fun a b _ => ?_
      unfold thrC
      rw [upd_ne _ _ (by simp), upd_ne _ _ (by simp)]
      rfl
    | words => rw [if_neg (by decide)]; rfl
    | prints => rw [if_neg (by decide)]; rfl
    | regs u => rw [if_neg (by simp)]; rfl
    | wait u => rw [if_neg (by simp)]; rfl
/-- The prints. -/
theorem DSt.layPrints (h : DSt w B P sb v s) {g : Nat} {x : Value} {l : List Int} (hx : x.ownBlock = some g) (h0 : (v .prints).ownBlock = none) (hg : ∀ q, (v q).ownBlock ≠ some g) (hown : w.ownsRow B 3 1 x l.length (intsV l)) :
    DSt (w.setCell ⟨sb, 8, none⟩ x) B P sb (upd v .prints x) { s with prints := l } := by
  have h1 := h.fam.lay (r := .prints) (n1 := rN { s with prints := l }) (xs1 := fun q => if q = .prints then intsV l else rX P v s q) hx h0 hg (by rw [if_pos rfl]; exact hown) (fun q hq => by cases q <;> first | rfl | exact absurd rfl hq) (fun q hq => if_neg hq)
  refine ⟨h1.put (r := .box) (by rw [upd_ne _ _ (by decide)]; exact h.bblk) 8 _ (fun q => rfl) ?_ (fun q hq => ?_), by rw [upd_ne _ _ (by decide)]; exact h.box⟩
  · rw [if_neg (by decide)]
    simp only [rX, upd_self]
    rw [upd_ne _ _ (by decide), upd_ne _ _ (by decide), upd_ne _ _ (by decide)]
    rfl
  · cases q with
    | box => exact absurd rfl hq
    | prints => rw [if_pos rfl]; rfl
    | thr =>
      rw [if_neg (by decide)]
      refine rows3_congr fun a b _ => ?_
      unfold thrC
      rw [upd_ne _ _ (by simp), upd_ne _ _ (by simp)]
      rfl
    | own => rw [if_neg (by decide)]; rfl
    | words => rw [if_neg (by decide)]; rfl
    | regs u => rw [if_neg (by simp)]; rfl
    | wait u => rw [if_neg (by simp)]; rfl
/-- One thread more, with its registers and what waits in new blocks. -/
theorem DSt.pushTh (h : DSt w B P sb v s) {x : Th} {yr yw : Value} {gr gw : Nat} (hr : w.ownsRow B 3 1 yr x.regs.length (intsV x.regs)) (hw : w.ownsRow B 168 3 yw x.wait.length (Go.Proofs.YtocfocjnnjdcgaaDoor.waitV x.wait)) (er : yr.ownBlock = some gr) (ew : yw.ownBlock = some gw) (hrw : gr ≠ gw) (hr0 : v (.regs s.ths.length) = nilV) (hw0 : v (.wait s.ths.length) = nilV) (hrf : ∀ q, (v q).ownBlock ≠ some gr) (hwf : ∀ q, (v q).ownBlock ≠ some gw)
    {g c H : Nat} (hown : w1.ownsRow B 159 3 (.slice (some ⟨g, 0, none⟩) (s.ths.length + 1) c) (s.ths.length + 1) (rows3 s.ths.length (thrC v s) ++ [.int .i64 x.pc, yr, yw])) (hgrow : w.grownBy w1 (v .thr).ownBlock) (hat : (v .thr).ownBlock = some g ∨ g = H) (hH : w.heap.size ≤ H) :
    DSt (w1.setCell ⟨sb, 5, none⟩ (.slice (some ⟨g, 0, none⟩) (s.ths.length + 1) c)) B P sb (upd (upd (upd v (.regs s.ths.length) yr) (.wait s.ths.length) yw) .thr (.slice (some ⟨g, 0, none⟩) (s.ths.length + 1) c)) { s with ths := s.ths ++ [x] } := by
  obtain ⟨z, hz⟩ : ∃ x : Value, x = .slice (some ⟨g, 0, none⟩) (s.ths.length + 1) c := ⟨_, rfl⟩
  have hd : thOf s s.ths.length = default := by unfold thOf; simp [List.getD]
  have h0 := h.fam.lay (r := .regs s.ths.length) (n1 := fun q => if q = .regs s.ths.length then x.regs.length else rN s q) (xs1 := fun q => if q = .regs s.ths.length then intsV x.regs else rX P v s q) er (by rw [hr0]; rfl) hrf (by rw [if_pos rfl, if_pos rfl]; exact hr) (fun q hq => if_neg hq) (fun q hq => if_neg hq)
  have h0' := h0.lay (r := .wait s.ths.length) (x := yw) (n1 := fun q => if q = .wait s.ths.length then x.wait.length else if q = .regs s.ths.length then x.regs.length else rN s q) (xs1 := fun q => if q = .wait s.ths.length then Go.Proofs.YtocfocjnnjdcgaaDoor.waitV x.wait else if q = .regs s.ths.length then intsV x.regs else rX P v s q) ew (by rw [upd_ne _ _ (by simp), hw0]; rfl) (fun q e => by
    by_cases hq : q = .regs s.ths.length
    · subst hq
      rw [upd_self, er] at e
      exact hrw (by simpa using e)
    · rw [upd_ne _ _ hq] at e
      exact hwf q e) (by rw [if_pos rfl, if_pos rfl]; exact hw) (fun q hq => if_neg hq) (fun q hq => if_neg hq)
  have h1 := h0'.grow (r := .thr) (n1 := rN { s with ths := s.ths ++ [x] }) (xs1 := fun q => if q = .thr then rows3 s.ths.length (thrC v s) ++ [.int .i64 x.pc, yr, yw] else if q = .wait s.ths.length then Go.Proofs.YtocfocjnnjdcgaaDoor.waitV x.wait else if q = .regs s.ths.length then intsV x.regs else rX P v s q) hown (by rw [upd_ne _ _ (by simp), upd_ne _ _ (by simp)]; exact hgrow) (by rw [upd_ne _ _ (by simp), upd_ne _ _ (by simp)]; exact hat) hH (by show (s.ths ++ [x]).length = _; simp) (fun q hq => by
    cases q with
    | thr => exact absurd rfl hq
    | regs u =>
      rw [if_neg (by simp)]
      show (thOf { s with ths := s.ths ++ [x] } u).regs.length = _
      rw [thOf_push]
      by_cases hu : u = s.ths.length
      · rw [if_pos hu, if_pos (by rw [hu])]
      · rw [if_neg hu, if_neg (by simpa using hu)]; rfl
    | wait u =>
      show (thOf { s with ths := s.ths ++ [x] } u).wait.length = _
      rw [thOf_push]
      by_cases hu : u = s.ths.length
      · rw [if_pos hu, if_pos (by rw [hu])]
      · rw [if_neg hu, if_neg (by simpa using hu), if_neg (by simp)]; rfl
    | box => rw [if_neg (by simp), if_neg (by simp)]; rfl
    | words => rw [if_neg (by simp), if_neg (by simp)]; rfl
    | own => rw [if_neg (by simp), if_neg (by simp)]; rfl
    | prints => rw [if_neg (by simp), if_neg (by simp)]; rfl) (if_pos rfl) (fun q hq => if_neg hq)
  rw [← hz] at *
  refine ⟨h1.put (r := .box) (by rw [upd_ne _ _ (by decide), upd_ne _ _ (by simp), upd_ne _ _ (by simp)]; exact h.bblk) 5 _ (fun q => rfl) ?_ (fun q hq => ?_), by rw [upd_ne _ _ (by decide), upd_ne _ _ (by simp), upd_ne _ _ (by simp)]; exact h.box⟩
  · rw [if_neg (by decide), if_neg (by simp), if_neg (by simp)]
    simp only [rX, upd_self]
    rw [upd_ne _ _ (by decide), upd_ne _ _ (by simp), upd_ne _ _ (by simp), upd_ne _ _ (by decide), upd_ne _ _ (by simp), upd_ne _ _ (by simp), upd_ne _ _ (by decide), upd_ne _ _ (by simp), upd_ne _ _ (by simp)]
    rfl
  · cases q with
    | box => exact absurd rfl hq
    | thr =>
      rw [if_pos rfl]
      show rows3 (s.ths ++ [x]).length (thrC _ { s with ths := s.ths ++ [x] }) = _
      rw [List.length_append, List.length_singleton, rows3_snoc]
      congr 1
      · refine rows3_congr fun a b ha => ?_
        unfold thrC
        have e1 : thOf { s with ths := s.ths ++ [x] } a = thOf s a := by rw [thOf_push, if_neg (by omega)]
        rw [e1, upd_ne _ _ (by simp), upd_ne _ _ (by simp), upd_ne _ _ (by simp; omega), upd_ne _ _ (by simp), upd_ne _ _ (by simp; omega), upd_ne _ _ (by simp)]
      · have e1 : thOf { s with ths := s.ths ++ [x] } s.ths.length = x := by rw [thOf_push, if_pos rfl]
        unfold thrC
        rw [e1]
        simp only [if_true]
        rw [upd_ne _ _ (by simp), upd_ne _ _ (by simp), upd_self, upd_ne _ _ (by simp), upd_self]
        simp
    | regs u =>
      rw [if_neg (by simp), if_neg (by simp)]
      show intsV (thOf { s with ths := s.ths ++ [x] } u).regs = _
      rw [thOf_push]
      by_cases hu : u = s.ths.length
      · rw [if_pos hu, if_pos (by rw [hu])]
      · rw [if_neg hu, if_neg (by simpa using hu)]; rfl
    | wait u =>
      rw [if_neg (by simp)]
      show Go.Proofs.YtocfocjnnjdcgaaDoor.waitV (thOf { s with ths := s.ths ++ [x] } u).wait = _
      rw [thOf_push]
      by_cases hu : u = s.ths.length
      · rw [if_pos hu, if_pos (by rw [hu])]
      · rw [if_neg hu, if_neg (by simpa using hu), if_neg (by simp)]; rfl
    | words => rw [if_neg (by simp), if_neg (by simp), if_neg (by simp)]; rfl
    | own => rw [if_neg (by simp), if_neg (by simp), if_neg (by simp)]; rfl
    | prints => rw [if_neg (by simp), if_neg (by simp), if_neg (by simp)]; rfl
end

theorem keep_grown {W w3 : World} {d : Nat} {o : Obj} (hg : (W.alloc o).grownBy w3 (some d)) (hd : d = W.heap.size) : Below W.heap.size W w3 :=
  ⟨hg.os, hg.tape, hg.output, by have := hg.size; simp at this; omega, fun k hk => (hg.block k (by simp; omega) (fun e => by simp at e; omega)).trans (by have := ((Below.refl W.heap.size W).alloc (Nat.le_refl _) o).block k hk; exact this)⟩
/-- 'append([]int{}, l...)' beside a state. -/
theorem DSt.src {W : World} {B : Nat} {P : Pg} {cb : Nat} {v : Rl → Value} {st : Sx} (h : DSt W B P cb v st) (hB : B ≤ W.heap.size) (sa : Option Addr) (l : List Int) (c : Nat) (hs : LI W sa l) (hl : l.length ≤ 1000000) :
    ∃ g cap w3, (AppS #[23, 23] 23 #[.slice (some ⟨W.heap.size, 0, none⟩) 0 0, .slice sa l.length c]).run Tryd.prog (W.alloc (.cells #[] 3)) = .ok (.slice (some ⟨g, 0, none⟩) l.length cap) w3 ∧ DSt w3 B P cb v st ∧ w3.ownsRow B 3 1 (.slice (some ⟨g, 0, none⟩) l.length cap) l.length (intsV l) ∧ (∀ q, (v q).ownBlock ≠ some g) ∧ Below W.heap.size W w3 ∧ W.heap.size ≤ g ∧ g < w3.heap.size := by
  obtain ⟨g, cap, w3, r1, r2, r3, r4, r5⟩ := app_src W B hB sa l c hs (by omega)
  have hb := keep_grown r3 rfl
  exact ⟨g, cap, w3, r1, h.below hb, r2, fun q e => by have := h.fam.lt e; omega, hb, r4, r5⟩
/-- 'append([]Wait{}, l...)'. -/
theorem app_srcW (W : World) (B : Nat) (hB : B ≤ W.heap.size) (sa : Option Addr) (l : List Wt) (c : Nat) (hsrc : WIn W sa l) (hl : l.length ≤ 1000) :
    ∃ g cap w3, (AppS #[157, 157] 157 #[.slice (some ⟨W.heap.size, 0, none⟩) 0 0, .slice sa l.length c]).run Tryd.prog (W.alloc (.cells #[] 168)) = .ok (.slice (some ⟨g, 0, none⟩) l.length cap) w3 ∧ w3.ownsRow B 168 3 (.slice (some ⟨g, 0, none⟩) l.length cap) l.length (waitV l) ∧ Below W.heap.size W w3 ∧ W.heap.size ≤ g ∧ g < w3.heap.size := by
  obtain ⟨i, hi, hz0, hz1, hz2⟩ := info_is infoWait
  have hown := World.ownsRow_made (base := B) (e := 168) (size := 3) W #[] 0 hB (by decide) rfl
  cases l with
  | nil =>
    refine ⟨W.heap.size, 0, W.alloc (.cells #[] 168), ?_, hown, (Below.refl _ _).alloc (Nat.le_refl _) _, Nat.le_refl _, by simp⟩
    have hs : Src Tryd.prog i.size 157 (.slice sa 0 c) 0 [] (W.alloc (.cells #[] 168)) := by
      cases sa with
      | none => exact Src.ofNil _ Tryd.underlying157 c
      | some a => exact Src.ofSlice _ Tryd.underlying157 a 0 c [] (by simp) (fun j u h => by simp at h) (fun u h => by cases h)
    have := run_append_room_src (P := Tryd.prog) (W.alloc (.cells #[] 168)) 157 157 157 168 i Tryd.underlying157 hi W.heap.size 0 0 0 (.slice sa 0 c) 0 [] hs (Nat.le_refl _) (fun j h => by simp at h) (fun j h => by simp at h)
    exact this
  | cons x r =>
    obtain ⟨b, o, rfl, _⟩ := hsrc 0 (by simp)
    have hnews : ∀ j u, (waitV (x :: r))[j]? = some u → (W.alloc (.cells #[] 168)).cell? ((⟨b, o, none⟩ : Addr).add j) = some u := fun j u hu => by
      unfold waitV at hu
      rw [rows3_at] at hu
      by_cases hj : j < (x :: r).length * 3
      · rw [if_pos hj] at hu
        obtain ⟨b', o', e, h0, h1, h2⟩ := hsrc (j / 3) (by omega)
        simp only [Option.some.injEq, Addr.mk.injEq, and_true] at e
        obtain ⟨rfl, rfl⟩ := e
        have hadd : (⟨b, o, none⟩ : Addr).add j = ⟨b, o + j, none⟩ := by unfold Addr.add; split <;> simp_all
        rw [hadd]
        refine cell_up ?_ _
        unfold waitC at hu
        by_cases h3 : j % 3 = 0
        · rw [if_pos h3] at hu
          rw [show o + j = o + j / 3 * 3 by omega, h0, hu]
        · rw [if_neg h3] at hu
          by_cases h4 : j % 3 = 1
          · rw [if_pos h4] at hu
            rw [show o + j = o + j / 3 * 3 + 1 by omega, h1, hu]
          · rw [if_neg h4] at hu
            rw [show o + j = o + j / 3 * 3 + 2 by omega, h2, hu]
      · rw [if_neg hj] at hu
        cases hu
    have hone : ∀ u ∈ waitV (x :: r), u.oneCell' = true := fun u hu => by
      unfold waitV rows3 at hu
      obtain ⟨k, _, rfl⟩ := List.mem_map.mp hu
      exact waitC_one _ _
    obtain ⟨g, cap, w3, r1, r2, r3, r4, r5⟩ := run_append_lies (P := Tryd.prog) (W.alloc (.cells #[] 168)) 157 157 B 168 i _ 3 24 Tryd.underlying157 hi hz0 hz1 hz2 rfl (by omega) _ 0 [] hown ⟨b, o, none⟩ (x :: r).length c (waitV (x :: r)) (rows3_len _ _) hnews hone (by simp) (by unfold maxLen; omega) (by omega) (by simp; omega) (W.heap.size + 1) (by simp)
    rw [Nat.zero_add] at r1 r2
    refine ⟨g, cap, w3, r1, r2, keep_grown r3 rfl, ?_, r5⟩
    rcases r4 with r4 | r4
    · have : W.heap.size = g := by simpa [Value.ownBlock] using r4
      omega
    · omega

/-- A state that is being copied: its first j threads are. -/
structure Cpy (w W : World) (cb : Nat) (P : Pg) (s : Sx) (j : Nat) : Prop where
  ex : ∃ v, DSt W w.heap.size P cb v { s with ths := s.ths.take j, fell := false } ∧ ∀ t, j ≤ t → v (.regs t) = nilV ∧ v (.wait t) = nilV
  below : Below w.heap.size w W

theorem own_below {w w' : World} {B : Nat} {e : TypeId} {size : Nat} {v : Value} {n : Nat} {xs : List Value} (h : w.ownsRow B e size v n xs) (hb : Below w.heap.size w w') : w'.ownsRow B e size v n xs := fam_keeps h (fun g hg => hb.block g (h.lt g hg).2)
theorem own_set {w : World} {B : Nat} {e : TypeId} {size : Nat} {v : Value} {n : Nat} {xs : List Value} (h : w.ownsRow B e size v n xs) {d i : Nat} (hd : v.ownBlock ≠ some d) (u : Value) : (w.setCell ⟨d, i, none⟩ u).ownsRow B e size v n xs := fam_keeps h (fun _ hg => Below.heap_setCell _ _ _ _ (fun x => hd (hg.trans (congrArg some x))))
/-- One thread more is copied. -/
theorem Cpy.push {w W : World} {cb : Nat} {P : Pg} {s : Sx} {j : Nat} (h : Cpy w W cb P s j) (hcb : w.heap.size ≤ cb) (hj : j < s.ths.length) (hj4 : j ≤ 10) (ra : Option Addr) (rc : Nat) (qa : Option Addr) (qc : Nat) (hLR : LI w ra (thOf s j).regs) (hWI : WIn w qa (thOf s j).wait) (hrl : (thOf s j).regs.length ≤ 1000) (hwl : (thOf s j).wait.length ≤ 3) :
    ∃ g1 p1 w1 g2 p2 w2 a c g3 p3 w3,
      (AppS #[23, 23] 23 #[.slice (some ⟨W.heap.size + 1, 0, none⟩) 0 0, .slice ra (thOf s j).regs.length rc]).run Tryd.prog ((W.alloc (.cells #[.int .i64 ((thOf s j).pc : Int), nilV, nilV] 159)).alloc (.cells #[] 3)) = .ok (.slice (some ⟨g1, 0, none⟩) (thOf s j).regs.length p1) w1 ∧
      w1.heap[W.heap.size]? = some (.cells #[.int .i64 ((thOf s j).pc : Int), nilV, nilV] 159) ∧ Below w.heap.size w w1 ∧
      (AppS #[157, 157] 157 #[.slice (some ⟨w1.heap.size, 0, none⟩) 0 0, .slice qa (thOf s j).wait.length qc]).run Tryd.prog ((w1.setCell ⟨W.heap.size, 1, none⟩ (.slice (some ⟨g1, 0, none⟩) (thOf s j).regs.length p1)).alloc (.cells #[] 168)) = .ok (.slice (some ⟨g2, 0, none⟩) (thOf s j).wait.length p2) w2 ∧
      w2.heap[W.heap.size]? = some (.cells #[.int .i64 ((thOf s j).pc : Int), .slice (some ⟨g1, 0, none⟩) (thOf s j).regs.length p1, nilV] 159) ∧
      w2.cell? ⟨cb, 5, none⟩ = some (.slice a j c) ∧
      (AppS #[134, 134] 134 #[.slice a j c, .slice (some ⟨w2.heap.size, 0, none⟩) 1 1]).run Tryd.prog ((w2.setCell ⟨W.heap.size, 2, none⟩ (.slice (some ⟨g2, 0, none⟩) (thOf s j).wait.length p2)).alloc (.cells #[.int .i64 ((thOf s j).pc : Int), .slice (some ⟨g1, 0, none⟩) (thOf s j).regs.length p1, .slice (some ⟨g2, 0, none⟩) (thOf s j).wait.length p2] 159)).drew = .ok (.slice (some ⟨g3, 0, none⟩) (j + 1) p3) w3 ∧
      w3.cell? ⟨cb, 5, none⟩ = some (.slice a j c) ∧ w3.frozen? ⟨cb, 5, none⟩ = false ∧ cb < W.heap.size ∧
      Hid (Cpy w (w3.setCell ⟨cb, 5, none⟩ (.slice (some ⟨g3, 0, none⟩) (j + 1) p3)) cb P s (j + 1)) := by
  obtain ⟨⟨v, hD, hv⟩, hb⟩ := h
  have hBz := hb.size
  have hlt : cb < W.heap.size := lt_of_cell hD.c5
  obtain ⟨TC, hTC⟩ : ∃ o : Obj, o = .cells #[.int .i64 ((thOf s j).pc : Int), nilV, nilV] 159 := ⟨_, rfl⟩
  have hb0 : Below W.heap.size W (W.alloc TC) := (Below.refl _ _).alloc (Nat.le_refl _) _
  have hbw0 : Below w.heap.size w (W.alloc TC) := hb.trans (hb0.mono hBz)
  obtain ⟨g1, p1, w1, r1, o1, k1, l1, m1⟩ := app_src (W.alloc TC) w.heap.size hbw0.size ra (thOf s j).regs rc (IIn.below hLR hbw0) (by omega)
  have b1 := keep_grown k1 rfl
  have hT1 : w1.heap[W.heap.size]? = some TC := (b1.block _ (by simp)).trans (heap_alloc_new _ _)
  have hb1 : Below W.heap.size W w1 := hb0.trans (b1.mono hb0.size)
  have hbw1 : Below w.heap.size w w1 := hb.trans (hb1.mono hBz)
  rw [World.size_alloc] at r1 l1
  obtain ⟨y1, hy1⟩ : ∃ y : Value, y = .slice (some ⟨g1, 0, none⟩) (thOf s j).regs.length p1 := ⟨_, rfl⟩
  have e1 : y1.ownBlock = some g1 := by rw [hy1]; rfl
  obtain ⟨W1, hW1⟩ : ∃ X, X = w1.setCell ⟨W.heap.size, 1, none⟩ y1 := ⟨_, rfl⟩
  have hz1 : W1.heap.size = w1.heap.size := by rw [hW1]; simp [World.setCell]
  have hc1 : Below W.heap.size W W1 := by rw [hW1]; exact hb1.setCell (Nat.le_refl _) _
  have hcw1 : Below w.heap.size w W1 := hb.trans (hc1.mono hBz)
  rw [← hy1] at o1
  have o1' : W1.ownsRow w.heap.size 3 1 y1 (thOf s j).regs.length (intsV (thOf s j).regs) := by rw [hW1]; exact own_set o1 (by rw [e1]; simp; omega) _
  obtain ⟨g2, p2, w2, r2, o2, b2, l2, m2⟩ := app_srcW W1 w.heap.size hcw1.size qa (thOf s j).wait qc (hWI.below hcw1) (by omega)
  rw [hz1] at r2 l2
  have hU1 : W1.heap[W.heap.size]? = some (.cells #[.int .i64 ((thOf s j).pc : Int), y1, nilV] 159) := by
    rw [hW1]; exact (heap_set_same (hT1.trans (congrArg some hTC))).trans rfl
  have hT2 := (b2.block _ (by rw [hz1]; exact box_lt hT1)).trans hU1
  have hb2 : Below W.heap.size W w2 := hc1.trans (b2.mono hc1.size)
  obtain ⟨y2, hy2⟩ : ∃ y : Value, y = .slice (some ⟨g2, 0, none⟩) (thOf s j).wait.length p2 := ⟨_, rfl⟩
  have e2 : y2.ownBlock = some g2 := by rw [hy2]; rfl
  obtain ⟨W2, hW2⟩ : ∃ X, X = w2.setCell ⟨W.heap.size, 2, none⟩ y2 := ⟨_, rfl⟩
  have hz2 : W2.heap.size = w2.heap.size := by rw [hW2]; simp [World.setCell]
  have hc2 : Below W.heap.size W W2 := by rw [hW2]; exact hb2.setCell (Nat.le_refl _) _
  have hcw2 : Below w.heap.size w W2 := hb.trans (hc2.mono hBz)
  rw [← hy2] at o2
  have hw1z := m1
  have o2' : W2.ownsRow w.heap.size 168 3 y2 (thOf s j).wait.length (waitV (thOf s j).wait) := by rw [hW2]; exact own_set o2 (by rw [e2]; simp; omega) _
  have o1'' : W2.ownsRow w.heap.size 3 1 y1 (thOf s j).regs.length (intsV (thOf s j).regs) := by rw [hW2]; exact own_set (own_below o1' b2) (by rw [e1]; simp; omega) _
  have hD2 := hD.below hc2
  obtain ⟨a, c, hvt⟩ := fam_form (hD2.fam.own .thr)
  have hjl : rN { s with ths := s.ths.take j, fell := false } .thr = j := by show (s.ths.take j).length = j; rw [List.length_take]; omega
  rw [hjl] at hvt
  have c5 := (hD.below hb2).c5
  rw [hvt] at c5
  obtain ⟨g3, p3, w3, r3, o3, k3, a3⟩ := app_row (T := 134) Tryd.underlying134 infoThread rfl (by omega) (hD2.fam.own .thr) (Below.refl _ W2).drew hcw2.size 1 #[.int .i64 ((thOf s j).pc : Int), y1, y2] rfl (by rw [hy1, hy2]; simp [Value.oneCell']) (by omega) (by rw [hjl]; omega) (by omega)
  have hbd : Below W2.heap.size W2 (W2.drew.alloc (.cells #[.int .i64 ((thOf s j).pc : Int), y1, y2] 159)) := ((Below.refl _ _).drew).alloc (by simp) _
  have hD3 := hD2.below hbd
  have hsl : ({ s with ths := s.ths.take j, fell := false } : Sx).ths.length = j := hjl
  have hP := hD3.pushTh (x := thOf s j) (own_below o1'' hbd) (own_below o2' hbd) e1 e2 (by omega) (by rw [hsl]; exact (hv j (Nat.le_refl _)).1) (by rw [hsl]; exact (hv j (Nat.le_refl _)).2) (fun q e => by have := hD.fam.lt e; omega) (fun q e => by have := hD.fam.lt e; omega) (g := g3) (c := p3) (H := W2.drew.heap.size + 1) o3 k3 a3 (by simp)
  have hne : some cb ≠ (v .thr).ownBlock := fun e => absurd (hD.fam.apart _ _ cb hD.bblk e.symm) (by simp)
  rw [hsl] at hP
  have hte : s.ths.take (j + 1) = s.ths.take j ++ [thOf s j] := by
    have e : thOf s j = s.ths[j] := by unfold thOf; rw [List.getD_eq_getElem?_getD, List.getElem?_eq_getElem hj]; rfl
    rw [List.take_add_one, List.getElem?_eq_getElem hj, e]
    rfl
  have hP' : DSt (w3.setCell ⟨cb, 5, none⟩ (.slice (some ⟨g3, 0, none⟩) (j + 1) p3)) w.heap.size P cb (upd (upd (upd v (.regs j) y1) (.wait j) y2) .thr (.slice (some ⟨g3, 0, none⟩) (j + 1) p3)) { s with ths := s.ths.take (j + 1), fell := false } := by rw [hte]; exact hP
  have hbk : Below w.heap.size w w3 := (hcw2.trans (hbd.mono hcw2.size)).grown k3 (by have := hbd.size; have := hcw2.size; omega) (fun k hk => hD.fam.low .thr k hk)
  have c5d : (W2.drew.alloc (.cells #[.int .i64 ((thOf s j).pc : Int), y1, y2] 159)).cell? ⟨cb, 5, none⟩ = some (.slice a j c) := by
    have := hD3.c5
    rwa [hvt] at this
  have f5 := hD3.fam.frozen hD3.bblk 5
  have hcz : cb < (W2.drew.alloc (.cells #[.int .i64 ((thOf s j).pc : Int), y1, y2] 159)).heap.size := lt_of_cell c5d
  rw [hvt] at r3
  rw [hjl] at r3
  rw [hW2, hy2, hy1, show (w2.setCell ⟨W.heap.size, 2, none⟩ (.slice (some ⟨g2, 0, none⟩) (thOf s j).wait.length p2)).drew.heap.size = w2.heap.size by simp [World.setCell]] at r3
  rw [hTC] at r1 hT1
  rw [hW1, hy1] at r2
  rw [hy1] at hT2
  exact ⟨g1, p1, w1, g2, p2, w2, a, c, g3, p3, w3, r1, hT1, hbw1, r2, hT2, c5, r3, k3.cell c5d hne, (k3.frozen_far ⟨cb, 5, none⟩ hcz hne).trans f5, hlt, ⟨⟨_, hP', fun t ht => ⟨by rw [upd_ne _ _ (by simp), upd_ne _ _ (by simp), upd_ne _ _ (by simp; omega)]; exact (hv t (by omega)).1, by rw [upd_ne _ _ (by simp), upd_ne _ _ (by simp; omega), upd_ne _ _ (by simp)]; exact (hv t (by omega)).2⟩⟩, hbk.setCell hcb _⟩⟩

attribute [local go_sem ↓] appS_eq
set_option maxRecDepth 100000 in
set_option maxHeartbeats 3200000 in
theorem copy_any (w : World) (B sb : Nat) (P : Pg) (v : Rl → Value) (s : Sx) (L : Nat → Nat) (m lk rg : Nat) (hn0 : 0 < P.n) (hs : DSt w B P sb v s) (ho : SOk P.n L m lk rg P.mode s) (hf : s.fell = false) (hN : P.n ≤ 4) (hm64 : m ≤ 64) (hlk4 : lk ≤ 4) (hrg : rg ≤ 200) (hpl : s.prints.length ≤ 100000) :
    Calls Tryd.prog 79 #[.pointer (some ⟨sb, 0, none⟩)] w fun e w' => ∃ cb v', e = .returned (.pointer (some ⟨cb, 0, none⟩)) ∧ DSt w' w.heap.size P cb v' s ∧ Below w.heap.size w w' := by
  have hl := ho.ths
  obtain ⟨tb, tc, hth, htb, _⟩ := hs.thrB (by omega)
  have c0 := hs.c0
  have c1 : w.cell? ⟨sb, 1, none⟩ = some (.slice P.wa P.m P.wc) := hs.fam.cell hs.bblk rfl
  have c2 : w.cell? ⟨sb, 2, none⟩ = some (.int .i64 P.lk) := hs.fam.cell hs.bblk rfl
  have c3 : w.cell? ⟨sb, 3, none⟩ = some (.int .i64 P.rg) := hs.fam.cell hs.bblk rfl
  have c4 := hs.c4
  have c9 := hs.c9
  rw [hf] at c9
  obtain ⟨wa, wc, hwv⟩ := hs.wordsV
  obtain ⟨oa, oc, hov⟩ := hs.ownV
  obtain ⟨pa, pc, hpv⟩ := hs.printsV
  have hW : LI w wa s.words := IsI.iin (B := B) (c := wc) ⟨rfl, by have := hs.fam.own .words; rw [hwv] at this; exact this⟩
  have hO : LI w oa s.own := IsI.iin (B := B) (c := oc) ⟨rfl, by have := hs.fam.own .own; rw [hov] at this; exact this⟩
  have hR : LI w pa s.prints := IsI.iin (B := B) (c := pc) ⟨rfl, by have := hs.fam.own .prints; rw [hpv] at this; exact this⟩
  have c6 := hs.c6
  have c7 := hs.c7
  have c8 := hs.c8
  rw [hwv] at c6
  rw [hov] at c7
  rw [hpv] at c8
  have hwl := ho.words
  have hol := ho.own
  obtain ⟨SC, hSC⟩ : ∃ o : Obj, o = .cells #[.slice P.ca P.n P.cc, .slice P.wa P.m P.wc, .int .i64 P.lk, .int .i64 P.rg, .int .i64 P.mode, nilV, nilV, nilV, nilV, .bool false] 136 := ⟨_, rfl⟩
  have hb0 : Below w.heap.size w (w.alloc SC).drew := ((Below.refl _ _).alloc (Nat.le_refl _) _).drew
  have hD0 : DSt (w.alloc SC).drew w.heap.size P w.heap.size (v0 w.heap.size) s0 := (DSt.start (w.alloc SC) w.heap.size P w.heap.size (Nat.le_refl _) (by rw [heap_alloc_new, hSC])).below (Below.refl _ _).drew
  obtain ⟨g1, p1, w1, hrun1, hD1, hr1, hv1, hb1, _, _⟩ := hD0.src (by simp) wa s.words wc (IIn.below hW hb0) (by omega)
  have hB1 : Below w.heap.size w w1 := hb0.trans (hb1.mono hb0.size)
  have q6 : w1.cell? ⟨w.heap.size, 6, none⟩ = some nilV := hD1.c6
  have f6 : w1.frozen? ⟨w.heap.size, 6, none⟩ = false := hD1.fam.frozen hD1.bblk 6
  have hD1' := hD1.layWords (x := .slice (some ⟨g1, 0, none⟩) s.words.length p1) (l := s.words) rfl rfl hv1 hr1
  obtain ⟨W1, hW1⟩ : ∃ W, W = w1.setCell ⟨w.heap.size, 6, none⟩ (.slice (some ⟨g1, 0, none⟩) s.words.length p1) := ⟨_, rfl⟩
  rw [← hW1] at hD1'
  have hB1' : Below w.heap.size w W1 := by rw [hW1]; exact hB1.setCell (Nat.le_refl _) _
  have d7 := (hB1'.cell (lt_of_cell c7)).trans c7
  obtain ⟨g2, p2, w2, hrun2, hD2, hr2, hv2, hb2, _, _⟩ := hD1'.src hB1'.size oa s.own oc (IIn.below hO hB1') (by omega)
  have hB2 : Below w.heap.size w w2 := hB1'.trans (hb2.mono hB1'.size)
  have q7 : w2.cell? ⟨w.heap.size, 7, none⟩ = some nilV := hD2.c7
  have f7 : w2.frozen? ⟨w.heap.size, 7, none⟩ = false := hD2.fam.frozen hD2.bblk 7
  have hD2' := hD2.layOwn (x := .slice (some ⟨g2, 0, none⟩) s.own.length p2) (l := s.own) rfl rfl hv2 hr2
  obtain ⟨W2, hW2⟩ : ∃ W, W = w2.setCell ⟨w.heap.size, 7, none⟩ (.slice (some ⟨g2, 0, none⟩) s.own.length p2) := ⟨_, rfl⟩
  rw [← hW2] at hD2'
  have hB2' : Below w.heap.size w W2 := by rw [hW2]; exact hB2.setCell (Nat.le_refl _) _
  have d8 := (hB2'.cell (lt_of_cell c8)).trans c8
  obtain ⟨g3, p3, w3, hrun3, hD3, hr3, hv3, hb3, _, _⟩ := hD2'.src hB2'.size pa s.prints pc (IIn.below hR hB2') (by omega)
  have hB3 : Below w.heap.size w w3 := hB2'.trans (hb3.mono hB2'.size)
  have q8 : w3.cell? ⟨w.heap.size, 8, none⟩ = some nilV := hD3.c8
  have f8 : w3.frozen? ⟨w.heap.size, 8, none⟩ = false := hD3.fam.frozen hD3.bblk 8
  have hD3' := hD3.layPrints (x := .slice (some ⟨g3, 0, none⟩) s.prints.length p3) (l := s.prints) rfl rfl hv3 hr3
  have HC0 : Hid (Cpy w (w3.setCell ⟨w.heap.size, 8, none⟩ (.slice (some ⟨g3, 0, none⟩) s.prints.length p3)) w.heap.size P s 0) := ⟨⟨_, hD3', fun t _ => ⟨by rw [upd_ne _ _ (by simp), upd_ne _ _ (by simp), upd_ne _ _ (by simp)]; rfl, by rw [upd_ne _ _ (by simp), upd_ne _ _ (by simp), upd_ne _ _ (by simp)]; rfl⟩⟩, hB3.setCell (Nat.le_refl _) _⟩
  have c5 := hs.c5
  rw [hth, hl] at c5
  have HT : Hid (∀ t, t < P.n → ∃ ra rc qa qc, w.cell? ⟨tb, t * 3, none⟩ = some (.int .i64 (thOf s t).pc) ∧ w.cell? ⟨tb, t * 3 + 1, none⟩ = some (.slice ra (thOf s t).regs.length rc) ∧ w.cell? ⟨tb, t * 3 + 2, none⟩ = some (.slice qa (thOf s t).wait.length qc) ∧ (thOf s t).regs.length = rg ∧ (thOf s t).wait.length ≤ 3 ∧ LI w ra (thOf s t).regs ∧ WIn w qa (thOf s t).wait) := fun t ht => by
    obtain ⟨ra, rc, hr⟩ := hs.regsV t
    obtain ⟨qa, qc, hq⟩ := hs.waitV t
    refine ⟨ra, rc, qa, qc, hs.pc htb (by omega), by rw [← hr]; exact hs.regs htb (by omega), by rw [← hq]; exact hs.wait htb (by omega), ho.regs t ht, ho.wlen t ht, ?_, hs.win hq⟩
    exact IsI.iin (B := B) (c := rc) ⟨rfl, by have := hs.fam.own (.regs t); rw [hr] at this; exact this⟩
  have HL : Hid (s.ths.length = P.n ∧ s.fell = false) := ⟨hl, hf⟩
  have lsb : sb < w.heap.size := lt_of_cell c0
  have nsb : ¬ sb = w.heap.size := by omega
  have nbs : ¬ w.heap.size = sb := by omega
  have e7 := (hB1.cell (lt_of_cell c7)).trans c7
  have e8 := (hB2.cell (lt_of_cell c8)).trans c8
  have hz1 : W1.heap.size = w1.heap.size := by rw [hW1]; simp [World.setCell]
  have hz2 : W2.heap.size = w2.heap.size := by rw [hW2]; simp [World.setCell]
  have d7u := cell_up d7
  have d8u := cell_up d8
  rw [hW1] at d7u
  rw [hW2] at d8u
  rw [hz1, hW1] at hrun2
  rw [hz2, hW2] at hrun3
  have hrun1' : (AppS #[23, 23] 23 #[.slice (some ⟨w.heap.size + 1, 0, none⟩) 0 0, .slice wa s.words.length wc]).run Tryd.prog ((w.alloc (.cells #[.slice P.ca P.n P.cc, .slice P.wa P.m P.wc, .int .i64 P.lk, .int .i64 P.rg, .int .i64 P.mode, nilV, nilV, nilV, nilV, .bool false] 136)).alloc (.cells #[] 3)).drew = .ok (.slice (some ⟨g1, 0, none⟩) s.words.length p1) w1 := by
    rw [hSC] at hrun1
    have e : (w.alloc (.cells #[.slice P.ca P.n P.cc, .slice P.wa P.m P.wc, .int .i64 P.lk, .int .i64 P.rg, .int .i64 P.mode, nilV, nilV, nilV, nilV, .bool false] 136)).drew.heap.size = w.heap.size + 1 := by simp
    rw [e] at hrun1
    exact hrun1
  clear hrun1
  have d6 := cell_up c6
  obtain ⟨PA, hPA⟩ : ∃ x, P.ca = x := ⟨_, rfl⟩
  obtain ⟨n, hn⟩ : ∃ n, P.n = n := ⟨_, rfl⟩
  obtain ⟨k6, hk6⟩ : ∃ k, s.words.length = k := ⟨_, rfl⟩
  obtain ⟨k7, hk7⟩ : ∃ k, s.own.length = k := ⟨_, rfl⟩
  obtain ⟨k8, hk8⟩ : ∃ k, s.prints.length = k := ⟨_, rfl⟩
  rw [hk6] at hrun1' hrun2 c6 d6 hwl d7u
  rw [hk7] at hrun2 hrun3 c7 d7 e7 hol d7u d8u
  subst hwl hol
  rw [hk8] at hrun3 HC0 c8 d8 e8 hpl d8u
  clear d7 d8 e7 e8
  rw [hn, hPA] at hrun1'
  rw [hn, hPA] at c0
  rw [hn] at c5 HT HL hN
  clear hD0 hD1 hD1' hD2 hD2' hD3 hD3' hr1 hr2 hr3 hv1 hv2 hv3 hb0 hb1 hb2 hb3 hB1 hB1' hB2 hB2' hB3 hW hO hR hs ho hSC hW1 hW2 hz1 hz2 hn0 hwv hov hpv hth htb hl hf
  go_enter Tryd.func79, Tryd.ntmps79
  go_wp2_with fail
  refine region_tail 13 (by kernel_rfl) (by kernel_rfl) ?_
  simp only [List.take_succ_cons, List.take_zero, List.drop_succ_cons, List.drop_zero]
  repeat still_step
  refine wpStill_nil ?_
  go_wp2
  go_loopw [4] (fun i wr => ∃ j : Nat, j ≤ n ∧ i = .int .i64 j ∧ Hid (Cpy w wr w.heap.size P s j)) (fun i _ => n - (intOf i).toNat)
  case atStart => exact ⟨0, Nat.zero_le _, rfl, HC0⟩
  case round =>
    obtain ⟨j, hj, rfl, HJ⟩ := hrel
    have hbr := HJ.out.below
    have c5r := (hbr.cell (lt_of_cell c5)).trans c5
    by_cases hlt : j < n
    · obtain ⟨ra, rc, qa, qc, k0, k1, k2, hrl, hwl, hLR, hWI⟩ := HT.out j hlt
      obtain ⟨g1, p1, w1, g2, p2, w2, a, c, g3, p3, w3, r1, t1, bw1, r2, t2, c5c, r3, c53, f53, lcb, HN⟩ := HJ.out.push (Nat.le_refl _) (by rw [HL.out.1]; exact hlt) (by omega) ra rc qa qc hLR hWI (by omega) hwl
      have k0r := (hbr.cell (lt_of_cell k0)).trans k0
      have k1r := cell_up2 ((hbr.cell (lt_of_cell k1)).trans k1)
      have c5u := cell_up2 c5r
      obtain ⟨y1, hy1⟩ : ∃ y : Value, y = .slice (some ⟨g1, 0, none⟩) (thOf s j).regs.length p1 := ⟨_, rfl⟩
      obtain ⟨y2, hy2⟩ : ∃ y : Value, y = .slice (some ⟨g2, 0, none⟩) (thOf s j).wait.length p2 := ⟨_, rfl⟩
      have hbs1 : Below w.heap.size w (w1.setCell ⟨wr.heap.size, 1, none⟩ y1) := bw1.setCell (by show w.heap.size ≤ wr.heap.size; omega) _
      have c5v := cell_up ((hbs1.cell (lt_of_cell c5)).trans c5)
      have k2v := cell_up ((hbs1.cell (lt_of_cell k2)).trans k2)
      have a0 : w1.cell? ⟨wr.heap.size, 0, none⟩ = some (.int .i64 ((thOf s j).pc : Int)) := box_cell t1 rfl
      have a1 : w1.cell? ⟨wr.heap.size, 1, none⟩ = some nilV := box_cell t1 rfl
      have a2 : w1.cell? ⟨wr.heap.size, 2, none⟩ = some nilV := box_cell t1 rfl
      have af : ∀ i, w1.frozen? ⟨wr.heap.size, i, none⟩ = false := fun i => box_free t1
      rw [← hy1] at t2 r2 r3
      rw [← hy2] at r3
      have b0 : w2.cell? ⟨wr.heap.size, 0, none⟩ = some (.int .i64 ((thOf s j).pc : Int)) := box_cell t2 rfl
      have b1 : w2.cell? ⟨wr.heap.size, 1, none⟩ = some y1 := box_cell t2 rfl
      have b2 : w2.cell? ⟨wr.heap.size, 2, none⟩ = some nilV := box_cell t2 rfl
      have bf : ∀ i, w2.frozen? ⟨wr.heap.size, i, none⟩ = false := fun i => box_free t2
      have U : (w2.setCell ⟨wr.heap.size, 2, none⟩ y2).heap[wr.heap.size]? = some (.cells #[.int .i64 ((thOf s j).pc : Int), y1, y2] 159) := (heap_set_same t2).trans rfl
      have u0 : ∀ o, ((w2.setCell ⟨wr.heap.size, 2, none⟩ y2).alloc o).cell? ⟨wr.heap.size, 0, none⟩ = some (.int .i64 ((thOf s j).pc : Int)) := cell_up (box_cell U rfl)
      have u1 : ∀ o, ((w2.setCell ⟨wr.heap.size, 2, none⟩ y2).alloc o).cell? ⟨wr.heap.size, 1, none⟩ = some y1 := cell_up (box_cell U rfl)
      have u2 : ∀ o, ((w2.setCell ⟨wr.heap.size, 2, none⟩ y2).alloc o).cell? ⟨wr.heap.size, 2, none⟩ = some y2 := cell_up (box_cell U rfl)
      have v5 : (w2.setCell ⟨wr.heap.size, 2, none⟩ y2).cell? ⟨w.heap.size, 5, none⟩ = some (.slice a j c) := (World.cell?_of_block (Below.heap_setCell _ _ _ _ (by show w.heap.size ≠ wr.heap.size; omega))).trans c5c
      have v5u := cell_up v5
      obtain ⟨q, hq⟩ : ∃ m, (thOf s j).wait.length = m := ⟨_, rfl⟩
      obtain ⟨pcj, hpc⟩ : ∃ m : Nat, (thOf s j).pc = m := ⟨_, rfl⟩
      have HY : Hid (y1 = .slice (some ⟨g1, 0, none⟩) rg p1 ∧ y2 = .slice (some ⟨g2, 0, none⟩) q p2) := ⟨by rw [hy1, hrl], by rw [hy2, hq]⟩
      rw [hrl] at r1 k1r
      rw [hq] at r2 k2v
      rw [hpc] at r1 k0r a0 b0 u0 r3
      obtain ⟨z1, z2⟩ := HY.out
      clear hy1 hy2 HY U t1 t2 hbs1
      subst z1 z2
      have nd : ¬ w.heap.size = wr.heap.size := by omega
      have dn : ¬ wr.heap.size = w.heap.size := by omega
      clear hLR hWI hrl hq hpc HT HJ bw1 HC0 hrun1' hrun2 hrun3 d7u d8u q6 q7 q8 f6 f7 f8 c0 c1 c2 c3 c4 c6 c7 c8 c9 d6 k0 k1 k2
      go_wp2
      go_region
      all_goals go_wp2
      all_goals go_roundw
      case rel => exact ⟨j + 1, by omega, by go_num, HN⟩
      case measure => simp [intOf]; omega
    · obtain rfl : j = n := by omega
      have HFIN : Hid (∃ v', DSt wr w.heap.size P w.heap.size v' s) := by
        obtain ⟨v', h1, _⟩ := HJ.out.ex
        have e : ({ s with ths := s.ths.take j, fell := false } : Sx) = s := by
          rw [List.take_of_length_le (by rw [HL.out.1]; exact Nat.le_refl _), ← HL.out.2]
        rw [e] at h1
        exact ⟨v', h1⟩
      clear HC0 hrun1' hrun2 hrun3 d7u d8u q6 q7 q8 f6 f7 f8 HT HJ HL
      go_wp2
      go_ret
      obtain ⟨v', h1⟩ := HFIN.out
      exact ⟨_, v', rfl, h1, hbr⟩

end Go.Proofs.YtocfocjnnjdcgaaDoor
