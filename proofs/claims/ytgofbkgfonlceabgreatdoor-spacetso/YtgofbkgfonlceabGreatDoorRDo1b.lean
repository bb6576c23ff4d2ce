/-
  A state that is being begun: its words, one lock more, one thread more.
  Moves of the document's run: the orders that a thread's registers alone have to do with.
-/
import Derived.Test.YtgofbkgfonlceabGreatDoorRAble
import Derived.Deep.AppendSrc
import Derived.Deep.OwnRows
import Derived.Test.YtgofbkgfonlceabGreatDoorRDoP
namespace Go.Proofs.YtgofbkgfonlceabGreatDoor
section
open Go.RowKit

section
variable {w w1 : World} {B : Nat} {P : Pg} {sb : Nat} {v : Rl → Value} {s : Sx}
/-- One lock more. -/
theorem DSt.pushOwn (h : DSt w B P sb v s) {g c H : Nat} {a : Int} (hown : w1.ownsRow B 3 1 (.slice (some ⟨g, 0, none⟩) (s.own.length + 1) c) (s.own.length + 1) (intsV s.own ++ [.int .i64 a])) (hgrow : w.grownBy w1 (v .own).ownBlock) (hat : (v .own).ownBlock = some g ∨ g = H) (hH : w.heap.size ≤ H) :
    DSt (w1.setCell ⟨sb, 7, none⟩ (.slice (some ⟨g, 0, none⟩) (s.own.length + 1) c)) B P sb (upd v .own (.slice (some ⟨g, 0, none⟩) (s.own.length + 1) c)) { s with own := s.own ++ [a] } := by
  obtain ⟨x, hx⟩ : ∃ x : Value, x = .slice (some ⟨g, 0, none⟩) (s.own.length + 1) c := ⟨_, rfl⟩
  have h1 := h.fam.grow (r := .own) (n1 := rN { s with own := s.own ++ [a] }) (xs1 := fun q => if q = .own then intsV s.own ++ [.int .i64 a] else rX P v s q) hown hgrow hat hH (by simp [rN]) (fun q hq => by cases q <;> first | rfl | exact absurd rfl hq) (if_pos rfl) (fun q hq => if_neg hq)
  rw [← hx] at h1 ⊢
  refine ⟨h1.put (r := .box) (by rw [upd_ne _ _ (by decide)]; exact h.bblk) 7 _ (fun q => rfl) ?_ (fun q hq => ?_), by rw [upd_ne _ _ (by decide)]; exact h.box⟩
  · rw [if_neg (by decide)]
    simp only [rX, upd_self]
    rw [upd_ne _ _ (by decide), upd_ne _ _ (by decide), upd_ne _ _ (by decide)]
    rfl
  · cases q with
    | box => exact absurd rfl hq
    | own => rw [if_pos rfl]; simp [rX, intsV]
    | thr =>
      rw [if_neg (by decide)]
      refine rows3_congr fun a b _ => ?_
      unfold thrC
      rw [upd_ne _ _ (by simp), upd_ne _ _ (by simp)]
      rfl
    | words => rw [if_neg (by decide)]; rfl
    | prints => rw [if_neg (by decide)]; rfl
    | regs u => rw [if_neg (by simp)]; rfl
    | wait u => rw [if_neg (by simp)]; rfl
/-- The words. -/
theorem DSt.layWords (h : DSt w B P sb v s) {g : Nat} {x : Value} {l : List Int} (hx : x.ownBlock = some g) (h0 : (v .words).ownBlock = none) (hg : ∀ q, (v q).ownBlock ≠ some g) (hown : w.ownsRow B 3 1 x l.length (intsV l)) :
    DSt (w.setCell ⟨sb, 6, none⟩ x) B P sb (upd v .words x) { s with words := l } := by
  have h1 := h.fam.lay (r := .words) (n1 := rN { s with words := l }) (xs1 := fun q => if q = .words then intsV l else rX P v s q) hx h0 hg (by rw [if_pos rfl]; exact hown) (fun q hq => by cases q <;> first | rfl | exact absurd rfl hq) (fun q hq => if_neg hq)
  refine ⟨h1.put (r := .box) (by rw [upd_ne _ _ (by decide)]; exact h.bblk) 6 _ (fun q => rfl) ?_ (fun q hq => ?_), by rw [upd_ne _ _ (by decide)]; exact h.box⟩
  · rw [if_neg (by decide)]
    simp only [rX, upd_self]
    rw [upd_ne _ _ (by decide), upd_ne _ _ (by decide), upd_ne _ _ (by decide)]
    rfl
  · cases q with
    | box => exact absurd rfl hq
    | words => rw [if_pos rfl]; rfl
    | thr =>
      rw [if_neg (by decide)]
      refine rows3_congr fun a b _ => ?_
      unfold thrC
      rw [upd_ne _ _ (by simp), upd_ne _ _ (by simp)]
      rfl
    | own => rw [if_neg (by decide)]; rfl
    | prints => rw [if_neg (by decide)]; rfl
    | regs u => rw [if_neg (by simp)]; rfl
    | wait u => rw [if_neg (by simp)]; rfl

def newT (rg : Nat) : Th := ⟨0, List.replicate rg 0, []⟩
theorem thOf_push {s : Sx} (x : Th) (u : Nat) : thOf { s with ths := s.ths ++ [x] } u = if u = s.ths.length then x else thOf s u := by
  unfold thOf
  simp only [List.getD]
  by_cases h : u = s.ths.length
  · subst h; simp
  · rw [if_neg h]
    rcases Nat.lt_or_ge u s.ths.length with h1 | h1
    · rw [List.getElem?_append_left h1]
    · rw [List.getElem?_append_right h1, List.getElem?_eq_none h1, List.getElem?_eq_none (by simp; omega)]
/-- One thread more, with its registers in a new block gr. -/
theorem DSt.pushThr (h : DSt w B P sb v s) {rg gr : Nat} (hr : w.ownsRow B 3 1 (.slice (some ⟨gr, 0, none⟩) rg rg) rg (intsV (List.replicate rg 0))) (hr0 : v (.regs s.ths.length) = nilV) (hw0 : v (.wait s.ths.length) = nilV) (hrf : ∀ q, (v q).ownBlock ≠ some gr)
    {g c H : Nat} (hown : w1.ownsRow B 93 3 (.slice (some ⟨g, 0, none⟩) (s.ths.length + 1) c) (s.ths.length + 1) (rows3 s.ths.length (thrC v s) ++ [.int .i64 0, .slice (some ⟨gr, 0, none⟩) rg rg, nilV])) (hgrow : w.grownBy w1 (v .thr).ownBlock) (hat : (v .thr).ownBlock = some g ∨ g = H) (hH : w.heap.size ≤ H) :
    DSt (w1.setCell ⟨sb, 5, none⟩ (.slice (some ⟨g, 0, none⟩) (s.ths.length + 1) c)) B P sb (upd (upd v (.regs s.ths.length) (.slice (some ⟨gr, 0, none⟩) rg rg)) .thr (.slice (some ⟨g, 0, none⟩) (s.ths.length + 1) c)) { s with ths := s.ths ++ [newT rg] } := by
  obtain ⟨x, hx⟩ : ∃ x : Value, x = .slice (some ⟨g, 0, none⟩) (s.ths.length + 1) c := ⟨_, rfl⟩
  obtain ⟨y, hy⟩ : ∃ y : Value, y = .slice (some ⟨gr, 0, none⟩) rg rg := ⟨_, rfl⟩
  have hyb : y.ownBlock = some gr := by rw [hy]; rfl
  have hd : thOf s s.ths.length = default := by unfold thOf; simp [List.getD]
  have h0 := h.fam.lay (r := .regs s.ths.length) (n1 := fun q => if q = .regs s.ths.length then rg else rN s q) (xs1 := fun q => if q = .regs s.ths.length then intsV (List.replicate rg 0) else rX P v s q) hyb (by rw [hr0]; rfl) hrf (by rw [if_pos rfl, if_pos rfl, hy]; exact hr) (fun q hq => if_neg hq) (fun q hq => if_neg hq)
  have h1 := h0.grow (r := .thr) (n1 := rN { s with ths := s.ths ++ [newT rg] }) (xs1 := fun q => if q = .thr then rows3 s.ths.length (thrC v s) ++ [.int .i64 0, y, nilV] else if q = .regs s.ths.length then intsV (List.replicate rg 0) else rX P v s q) (by rw [hy]; exact hown) (by rw [upd_ne _ _ (by simp)]; exact hgrow) (by rw [upd_ne _ _ (by simp)]; exact hat) hH (by simp [rN]) (fun q hq => by
    cases q with
    | thr => exact absurd rfl hq
    | regs u =>
      show (thOf { s with ths := s.ths ++ [newT rg] } u).regs.length = _
      rw [thOf_push]
      by_cases hu : u = s.ths.length
      · rw [if_pos hu, if_pos (by rw [hu])]; simp [newT]
      · rw [if_neg hu, if_neg (by simpa using hu)]; rfl
    | wait u =>
      rw [if_neg (by simp)]
      show (thOf { s with ths := s.ths ++ [newT rg] } u).wait.length = (thOf s u).wait.length
      rw [thOf_push]
      by_cases hu : u = s.ths.length
      · rw [if_pos hu, hu, hd]; rfl
      · rw [if_neg hu]
    | box => rw [if_neg (by simp)]; rfl
    | words => rw [if_neg (by simp)]; rfl
    | own => rw [if_neg (by simp)]; rfl
    | prints => rw [if_neg (by simp)]; rfl) (if_pos rfl) (fun q hq => if_neg hq)
  rw [← hx, ← hy] at *
  refine ⟨h1.put (r := .box) (by rw [upd_ne _ _ (by decide), upd_ne _ _ (by simp)]; exact h.bblk) 5 _ (fun q => rfl) ?_ (fun q hq => ?_), by rw [upd_ne _ _ (by decide), upd_ne _ _ (by simp)]; exact h.box⟩
  · rw [if_neg (by decide), if_neg (by simp)]
    simp only [rX, upd_self]
    rw [upd_ne _ _ (by decide), upd_ne _ _ (by simp), upd_ne _ _ (by decide), upd_ne _ _ (by simp), upd_ne _ _ (by decide), upd_ne _ _ (by simp)]
    rfl
  · cases q with
    | box => exact absurd rfl hq
    | thr =>
      rw [if_pos rfl]
      show rows3 (s.ths ++ [newT rg]).length (thrC _ { s with ths := s.ths ++ [newT rg] }) = _
      rw [List.length_append, List.length_singleton, rows3_snoc]
      congr 1
      · refine rows3_congr fun a b ha => ?_
        unfold thrC
        have e1 : thOf { s with ths := s.ths ++ [newT rg] } a = thOf s a := by rw [thOf_push, if_neg (by omega)]
        rw [e1, upd_ne _ _ (by simp), upd_ne _ _ (by simp; omega), upd_ne _ _ (by simp), upd_ne _ _ (by simp)]
      · have e1 : thOf { s with ths := s.ths ++ [newT rg] } s.ths.length = newT rg := by rw [thOf_push, if_pos rfl]
        unfold thrC
        rw [e1]
        simp only [if_true]
        rw [upd_ne _ _ (by simp), upd_self, upd_ne _ _ (by simp), upd_ne _ _ (by simp), hw0]
        simp [newT]
    | regs u =>
      rw [if_neg (by simp)]
      show intsV (thOf { s with ths := s.ths ++ [newT rg] } u).regs = _
      rw [thOf_push]
      by_cases hu : u = s.ths.length
      · rw [if_pos hu, if_pos (by rw [hu])]; rfl
      · rw [if_neg hu, if_neg (by simpa using hu)]; rfl
    | wait u =>
      rw [if_neg (by simp), if_neg (by simp)]
      show Go.Proofs.YtgofbkgfonlceabGreatDoor.waitV (thOf { s with ths := s.ths ++ [newT rg] } u).wait = Go.Proofs.YtgofbkgfonlceabGreatDoor.waitV (thOf s u).wait
      rw [thOf_push]
      by_cases hu : u = s.ths.length
      · rw [if_pos hu, hu, hd]; rfl
      · rw [if_neg hu]
    | words => rw [if_neg (by simp), if_neg (by simp)]; rfl
    | own => rw [if_neg (by simp), if_neg (by simp)]; rfl
    | prints => rw [if_neg (by simp), if_neg (by simp)]; rfl
end
/-- The state's box alone. -/
def v0 (sb : Nat) : Rl → Value := fun q => if q = .box then boxV sb else nilV
def s0 : Sx := { ths := [], words := [], own := [], prints := [], fell := false }
theorem DSt.start (w : World) (B : Nat) (P : Pg) (sb : Nat) (hB : B ≤ sb) (h : w.heap[sb]? = some (.cells #[.slice P.ca P.n P.cc, .slice P.wa P.m P.wc, .int .i64 P.lk, .int .i64 P.rg, .int .i64 P.mode, nilV, nilV, nilV, nilV, .bool false] 87)) : DSt w B P sb (v0 sb) s0 := by
  refine ⟨⟨fun r => ?_, fun r q g hr hq => ?_⟩, by simp [v0]⟩
  · cases r with
    | box => exact fam_box (xs := [.slice P.ca P.n P.cc, .slice P.wa P.m P.wc, .int .i64 P.lk, .int .i64 P.rg, .int .i64 P.mode, nilV, nilV, nilV, nilV, .bool false]) hB h
    | thr => exact World.ownsRow_nil _ _ _ _
    | words => exact World.ownsRow_nil _ _ _ _
    | own => exact World.ownsRow_nil _ _ _ _
    | prints => exact World.ownsRow_nil _ _ _ _
    | regs t => exact World.ownsRow_nil _ _ _ _
    | wait t => exact World.ownsRow_nil _ _ _ _
  · unfold v0 at hr hq
    split at hr
    · split at hq
      · rename_i h1 h2; rw [h1, h2]
      · simp [Value.ownBlock] at hq
    · simp [Value.ownBlock] at hr

theorem infoThread : (Tryz.prog.info? 93).map (fun i => (i.zero, i.size, i.bytes)) = some (some (.agg #[.int .i64 0, nilV, nilV]), 3, 56) := by kernel_rfl
end

section
open Go.RowKit

set_option maxRecDepth 100000 in
set_option maxHeartbeats 3200000 in
theorem do_5 (w : World) (B sb : Nat) (P : Pg) (v : Rl → Value) (s : Sx) (A : Nat → Option Addr) (L C : Nat → Nat) (X : Nat → Nat → Nat → Int) (m lk rg t : Nat) (mv : Int) (_h0 : 0 ≤ mv) (_h1 : mv ≤ 1000) (hq : mv / 8 = t) (hr : mv % 8 = 0) (hx : Cx w B sb P v s A L C X m lk rg t) (hop : opT X s t 0 = 5) :
    Calls Tryz.prog 65 #[.pointer (some ⟨sb, 0, none⟩), .int .i64 mv] w (DoQ B sb P v w (orderX P.mode (stepS s t) t 5 (opT X s t 1) (opT X s t 2) (opT X s t 3))) := by
  obtain ⟨n, tb, tc, rb, rc, pc, ⟨htn, hn4, hpc4⟩, HPC, c5, HNX, HPRE⟩ := hx.pre
  have htl : t < s.ths.length := by have := hx.ho.ths; have := hx.ht; omega
  have hrl : (thOf s t).regs.length = rg := hx.ho.regs t hx.ht
  have hord := hx.hc.ord t (thOf s t).pc hx.ht hx.hlt
  have hsz := hx.hc.L4 t hx.ht
  have hrg2 := hx.hc.rg2
  change ordE rg m lk (L t) (opT X s t 0) (opT X s t 1) (opT X s t 2) (opT X s t 3) = 0 at hord
  rw [hop] at hord
  rw [hop] at HNX
  obtain ⟨a, ea⟩ : ∃ x, opT X s t 1 = x := ⟨_, rfl⟩
  obtain ⟨b, eb⟩ : ∃ x, opT X s t 2 = x := ⟨_, rfl⟩
  obtain ⟨c, ec⟩ : ∃ x, opT X s t 3 = x := ⟨_, rfl⟩
  rw [ea, eb, ec] at hord HNX ⊢
  clear ea eb ec
  obtain ⟨⟨ia, rfl, ha⟩, ⟨ib, rfl, hb⟩, ⟨ic, rfl, hc⟩⟩ := by
    have h3 := ok_rrr (by omega) hord
    exact (⟨toN h3.1, toN h3.2.1, toN h3.2.2⟩ : _ ∧ _ ∧ _)
  have HST : Hid (orderX P.mode (stepS s t) t 5 (ia : Int) (ib : Int) (ic : Int) = setR (stepS s t) t (ia : Int) (wrap64 (getR s t (ib : Int) * getR s t (ic : Int)))) := by
    show setR (stepS s t) t (ia : Int) _ = _
    simp only [stepS_getR htl, IntWalk.i64_left]
  obtain ⟨Vb, eb⟩ : ∃ x, getR s t (ib : Int) = x := ⟨_, rfl⟩
  have HVb : Hid (getR s t (ib : Int) = Vb) := eb
  obtain ⟨Vc, ec⟩ : ∃ x, getR s t (ic : Int) = x := ⟨_, rfl⟩
  have HVc : Hid (getR s t (ic : Int) = Vc) := ec
  rw [eb, ec] at HST
  clear eb ec
  have HX := Hid.out (p := Hid _) hx
  clear hx hord hop hsz
  go_enter Tryz.func65, Tryz.ntmps65
  go_wp2_with fail
  refine Calls.mono HNX.out ?_
  rintro e w1 ⟨rfl, hb1⟩
  have HP := HPRE.out w1 hb1
  have d5 := HP.c5
  have dp := HP.cp
  have df := HP.cf
  have dr := HP.cr
  have nrt := HP.nrt
  have ntr := HP.ntr
  have lrb := HP.lrb
  have ltb := HP.ltb
  have fa := HP.frz ia
  have wa := HP.regW htl (r := ia) (by omega)
  have wb := HP.regW htl (r := ib) (by omega)
  rw [HVb.out] at wb
  have wc := HP.regW htl (r := ic) (by omega)
  rw [HVc.out] at wc
  obtain ⟨VA, eA⟩ : ∃ x, getR s t (ia : Int) = x := ⟨_, rfl⟩
  rw [eA] at wa
  clear eA
  have HF := Hid.out (p := Hid _) (HP.fin htl ia (wrap64 (Vb * Vc)))
  clear HP HPRE HNX
  go_wp2
  refine region_tail 15 (by kernel_rfl) (by kernel_rfl) ?_
  simp only [List.take_succ_cons, List.take_zero, List.drop_succ_cons, List.drop_zero]
  repeat still_step
  refine wpStill_nil ?_
  all_goals go_wp2
  all_goals go_end0
  all_goals refine ⟨rfl, v, ?_⟩
  all_goals rw [HST.out]
  all_goals exact ⟨(HF.out.1.alloc _).drew, (HF.out.2.alloc _).drew⟩

set_option maxRecDepth 100000 in
set_option maxHeartbeats 3200000 in
theorem do_6 (w : World) (B sb : Nat) (P : Pg) (v : Rl → Value) (s : Sx) (A : Nat → Option Addr) (L C : Nat → Nat) (X : Nat → Nat → Nat → Int) (m lk rg t : Nat) (mv : Int) (_h0 : 0 ≤ mv) (_h1 : mv ≤ 1000) (hq : mv / 8 = t) (hr : mv % 8 = 0) (hx : Cx w B sb P v s A L C X m lk rg t) (hop : opT X s t 0 = 6) :
    Calls Tryz.prog 65 #[.pointer (some ⟨sb, 0, none⟩), .int .i64 mv] w (DoQ B sb P v w (orderX P.mode (stepS s t) t 6 (opT X s t 1) (opT X s t 2) (opT X s t 3))) := by
  obtain ⟨n, tb, tc, rb, rc, pc, ⟨htn, hn4, hpc4⟩, HPC, c5, HNX, HPRE⟩ := hx.pre
  have htl : t < s.ths.length := by have := hx.ho.ths; have := hx.ht; omega
  have hrl : (thOf s t).regs.length = rg := hx.ho.regs t hx.ht
  have hord := hx.hc.ord t (thOf s t).pc hx.ht hx.hlt
  have hsz := hx.hc.L4 t hx.ht
  have hrg2 := hx.hc.rg2
  change ordE rg m lk (L t) (opT X s t 0) (opT X s t 1) (opT X s t 2) (opT X s t 3) = 0 at hord
  rw [hop] at hord
  rw [hop] at HNX
  obtain ⟨a, ea⟩ : ∃ x, opT X s t 1 = x := ⟨_, rfl⟩
  obtain ⟨b, eb⟩ : ∃ x, opT X s t 2 = x := ⟨_, rfl⟩
  obtain ⟨c, ec⟩ : ∃ x, opT X s t 3 = x := ⟨_, rfl⟩
  rw [ea, eb, ec] at hord HNX ⊢
  clear ea eb ec
  obtain ⟨⟨ia, rfl, ha⟩, ⟨ib, rfl, hb⟩, ⟨ic, rfl, hc⟩⟩ := by
    have h3 := ok_rrr (by omega) hord
    exact (⟨toN h3.1, toN h3.2.1, toN h3.2.2⟩ : _ ∧ _ ∧ _)
  have HST : Hid (orderX P.mode (stepS s t) t 6 (ia : Int) (ib : Int) (ic : Int) = setR (stepS s t) t (ia : Int) (bitI (decide (getR s t (ib : Int) < getR s t (ic : Int))))) := by
    show setR (stepS s t) t (ia : Int) _ = _
    simp only [stepS_getR htl]
  obtain ⟨Vb, eb⟩ : ∃ x, getR s t (ib : Int) = x := ⟨_, rfl⟩
  have HVb : Hid (getR s t (ib : Int) = Vb) := eb
  obtain ⟨Vc, ec⟩ : ∃ x, getR s t (ic : Int) = x := ⟨_, rfl⟩
  have HVc : Hid (getR s t (ic : Int) = Vc) := ec
  rw [eb, ec] at HST
  clear eb ec
  have HX := Hid.out (p := Hid _) hx
  clear hx hord hop hsz
  go_enter Tryz.func65, Tryz.ntmps65
  go_wp2_with fail
  refine Calls.mono HNX.out ?_
  rintro e w1 ⟨rfl, hb1⟩
  have HP := HPRE.out w1 hb1
  have d5 := HP.c5
  have dp := HP.cp
  have df := HP.cf
  have dr := HP.cr
  have nrt := HP.nrt
  have ntr := HP.ntr
  have lrb := HP.lrb
  have ltb := HP.ltb
  have fa := HP.frz ia
  have wa := HP.regW htl (r := ia) (by omega)
  have wb := HP.regW htl (r := ib) (by omega)
  rw [HVb.out] at wb
  have wc := HP.regW htl (r := ic) (by omega)
  rw [HVc.out] at wc
  obtain ⟨VA, eA⟩ : ∃ x, getR s t (ia : Int) = x := ⟨_, rfl⟩
  rw [eA] at wa
  clear eA
  have HF := Hid.out (p := Hid _) (HP.fin htl ia (bitI (decide (Vb < Vc))))
  clear HP HPRE HNX
  go_wp2
  refine region_tail 16 (by kernel_rfl) (by kernel_rfl) ?_
  simp only [List.take_succ_cons, List.take_zero, List.drop_succ_cons, List.drop_zero]
  repeat still_step
  still_call (bit_any _ _)
  repeat still_step
  refine wpStill_nil ?_
  all_goals go_wp2
  all_goals go_end0
  all_goals refine ⟨rfl, v, ?_⟩
  all_goals rw [HST.out]
  all_goals exact ⟨(HF.out.1.alloc _).drew, (HF.out.2.alloc _).drew⟩

set_option maxRecDepth 100000 in
set_option maxHeartbeats 3200000 in
theorem do_7 (w : World) (B sb : Nat) (P : Pg) (v : Rl → Value) (s : Sx) (A : Nat → Option Addr) (L C : Nat → Nat) (X : Nat → Nat → Nat → Int) (m lk rg t : Nat) (mv : Int) (_h0 : 0 ≤ mv) (_h1 : mv ≤ 1000) (hq : mv / 8 = t) (hr : mv % 8 = 0) (hx : Cx w B sb P v s A L C X m lk rg t) (hop : opT X s t 0 = 7) :
    Calls Tryz.prog 65 #[.pointer (some ⟨sb, 0, none⟩), .int .i64 mv] w (DoQ B sb P v w (orderX P.mode (stepS s t) t 7 (opT X s t 1) (opT X s t 2) (opT X s t 3))) := by
  obtain ⟨n, tb, tc, rb, rc, pc, ⟨htn, hn4, hpc4⟩, HPC, c5, HNX, HPRE⟩ := hx.pre
  have htl : t < s.ths.length := by have := hx.ho.ths; have := hx.ht; omega
  have hrl : (thOf s t).regs.length = rg := hx.ho.regs t hx.ht
  have hord := hx.hc.ord t (thOf s t).pc hx.ht hx.hlt
  have hsz := hx.hc.L4 t hx.ht
  have hrg2 := hx.hc.rg2
  change ordE rg m lk (L t) (opT X s t 0) (opT X s t 1) (opT X s t 2) (opT X s t 3) = 0 at hord
  rw [hop] at hord
  rw [hop] at HNX
  obtain ⟨a, ea⟩ : ∃ x, opT X s t 1 = x := ⟨_, rfl⟩
  obtain ⟨b, eb⟩ : ∃ x, opT X s t 2 = x := ⟨_, rfl⟩
  obtain ⟨c, ec⟩ : ∃ x, opT X s t 3 = x := ⟨_, rfl⟩
  rw [ea, eb, ec] at hord HNX ⊢
  clear ea eb ec
  obtain ⟨⟨ia, rfl, ha⟩, ⟨ib, rfl, hb⟩, ⟨ic, rfl, hc⟩⟩ := by
    have h3 := ok_rrr (by omega) hord
    exact (⟨toN h3.1, toN h3.2.1, toN h3.2.2⟩ : _ ∧ _ ∧ _)
  have HST : Hid (orderX P.mode (stepS s t) t 7 (ia : Int) (ib : Int) (ic : Int) = setR (stepS s t) t (ia : Int) (bitI (decide (getR s t (ib : Int) = getR s t (ic : Int))))) := by
    show setR (stepS s t) t (ia : Int) _ = _
    simp only [stepS_getR htl]
  obtain ⟨Vb, eb⟩ : ∃ x, getR s t (ib : Int) = x := ⟨_, rfl⟩
  have HVb : Hid (getR s t (ib : Int) = Vb) := eb
  obtain ⟨Vc, ec⟩ : ∃ x, getR s t (ic : Int) = x := ⟨_, rfl⟩
  have HVc : Hid (getR s t (ic : Int) = Vc) := ec
  rw [eb, ec] at HST
  clear eb ec
  have HX := Hid.out (p := Hid _) hx
  clear hx hord hop hsz
  go_enter Tryz.func65, Tryz.ntmps65
  go_wp2_with fail
  refine Calls.mono HNX.out ?_
  rintro e w1 ⟨rfl, hb1⟩
  have HP := HPRE.out w1 hb1
  have d5 := HP.c5
  have dp := HP.cp
  have df := HP.cf
  have dr := HP.cr
  have nrt := HP.nrt
  have ntr := HP.ntr
  have lrb := HP.lrb
  have ltb := HP.ltb
  have fa := HP.frz ia
  have wa := HP.regW htl (r := ia) (by omega)
  have wb := HP.regW htl (r := ib) (by omega)
  rw [HVb.out] at wb
  have wc := HP.regW htl (r := ic) (by omega)
  rw [HVc.out] at wc
  obtain ⟨VA, eA⟩ : ∃ x, getR s t (ia : Int) = x := ⟨_, rfl⟩
  rw [eA] at wa
  clear eA
  have HF := Hid.out (p := Hid _) (HP.fin htl ia (bitI (decide (Vb = Vc))))
  clear HP HPRE HNX
  go_wp2
  refine region_tail 16 (by kernel_rfl) (by kernel_rfl) ?_
  simp only [List.take_succ_cons, List.take_zero, List.drop_succ_cons, List.drop_zero]
  repeat still_step
  still_call (bit_any _ _)
  repeat still_step
  refine wpStill_nil ?_
  all_goals go_wp2
  all_goals go_end0
  all_goals refine ⟨rfl, v, ?_⟩
  all_goals rw [HST.out]
  all_goals exact ⟨(HF.out.1.alloc _).drew, (HF.out.2.alloc _).drew⟩
end

end Go.Proofs.YtgofbkgfonlceabGreatDoor
