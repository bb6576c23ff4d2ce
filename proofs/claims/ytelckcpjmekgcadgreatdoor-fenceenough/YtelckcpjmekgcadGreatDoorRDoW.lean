/-
  A move of the document's run that does one that waits; what can be picked, whichever the mode.
  What holds of all that can be come to; what a run comes to is one of the outcomes; each outcome without stores that wait is one with them: plain functions.
  Steps of the program's run.
-/
import Derived.Test.YtelckcpjmekgcadGreatDoorRMay
import Derived.Test.YtelckcpjmekgcadGreatDoorWorkP
import Derived.Test.YtelckcpjmekgcadGreatDoorPStepP
namespace Go.Proofs.YtelckcpjmekgcadGreatDoor
section
open Go.RowKit

/-- Cells that are stored one behind the other. -/
def putL (xs : List Value) (o : Nat) : List Value → List Value
  | [] => xs
  | u :: us => putL (xs.set o u) (o + 1) us
theorem fam_puts {B : Nat} {e : TypeId} {size : Nat} {v : Value} {n g : Nat} (hg : v.ownBlock = some g) : ∀ (us : List Value) (o : Nat) (w : World) (xs : List Value), w.ownsRow B e size v n xs → (w.setCells g o us).ownsRow B e size v n (putL xs o us)
  | [], _, _, _, h => h
  | u :: us, o, w, _, h => fam_puts hg us (o + 1) (w.setCell ⟨g, o, none⟩ u) _ (fam_put h hg o u)
theorem fam_shrink {w : World} {B : Nat} {e : TypeId} {size : Nat} {n m g cap : Nat} {xs : List Value} (h : w.ownsRow B e size (.slice (some ⟨g, 0, none⟩) n cap) n xs) (hm : m ≤ n) : w.ownsRow B e size (.slice (some ⟨g, 0, none⟩) m cap) m (xs.take (m * size)) := by
  obtain ⟨h0, h1⟩ := h
  have hmul : m * size ≤ n * size := Nat.mul_le_mul_right _ hm
  refine ⟨by rw [List.length_take, h0]; omega, ?_⟩
  rcases h1 with ⟨h1, _⟩ | ⟨g', cap', cur, hv, hg, hh, h2, h3, h4, h5⟩
  · simp at h1
  · simp only [Value.slice.injEq, Option.some.injEq, Addr.mk.injEq, and_true] at hv
    obtain ⟨rfl, _, rfl⟩ := hv
    exact Or.inr ⟨g, cap, cur, rfl, hg, hh, Nat.le_trans hm h2, h3, h4, by rw [← h5, List.take_take, Nat.min_eq_left hmul]⟩
theorem grown_puts (g : Nat) : ∀ (vs : List Value) (o : Nat) (w : World), w.grownBy (w.setCells g o vs) (some g)
  | [], _, _ => ⟨rfl, rfl, rfl, Nat.le_refl _, fun _ _ _ => rfl⟩
  | u :: us, o, w => by
    have h := grown_puts g us (o + 1) (w.setCell ⟨g, o, none⟩ u)
    have hz : (w.setCell ⟨g, o, none⟩ u).heap.size = w.heap.size := by simp [World.setCell]
    exact ⟨h.os, h.tape, h.output, by have := h.size; rw [hz] at this; exact this, fun k hk hne => (h.block k (by rw [hz]; exact hk) hne).trans (Below.heap_setCell _ _ _ _ (fun e => hne (by rw [e])))⟩
theorem waitV_1 (a : Wt) : waitV [a] = [.bool a.lk, .int .i64 a.wh, .int .i64 a.what] := waitV_snoc [] a
theorem waitV_2 (a b : Wt) : waitV [a, b] = [.bool a.lk, .int .i64 a.wh, .int .i64 a.what, .bool b.lk, .int .i64 b.wh, .int .i64 b.what] := by
  rw [show [a, b] = [a] ++ [b] from rfl, waitV_snoc, waitV_1]; rfl
theorem waitV_3 (a b c : Wt) : waitV [a, b, c] = [.bool a.lk, .int .i64 a.wh, .int .i64 a.what, .bool b.lk, .int .i64 b.wh, .int .i64 b.what, .bool c.lk, .int .i64 c.wh, .int .i64 c.what] := by
  rw [show [a, b, c] = [a, b] ++ [c] from rfl, waitV_snoc, waitV_2]; rfl
/-- One taken out of at most three that wait. -/
theorem waitV_cut {l : List Wt} {k : Nat} (hl : l.length ≤ 3) (hk : k < l.length) : (putL (waitV l) (k * 3) ((waitV l).drop ((k + 1) * 3))).take ((l.length - 1) * 3) = waitV (l.eraseIdx k) := by
  match l, k, hl, hk with
  | [a], 0, _, _ => rfl
  | [a, b], 0, _, _ => rw [waitV_2]; rw [show [a, b].eraseIdx 0 = [b] from rfl, waitV_1]; rfl
  | [a, b], 1, _, _ => rw [waitV_2]; rw [show [a, b].eraseIdx 1 = [a] from rfl, waitV_1]; rfl
  | [a, b, c], 0, _, _ => rw [waitV_3]; rw [show [a, b, c].eraseIdx 0 = [b, c] from rfl, waitV_2]; rfl
  | [a, b, c], 1, _, _ => rw [waitV_3]; rw [show [a, b, c].eraseIdx 1 = [a, c] from rfl, waitV_2]; rfl
  | [a, b, c], 2, _, _ => rw [waitV_3]; rw [show [a, b, c].eraseIdx 2 = [a, b] from rfl, waitV_2]; rfl
theorem waitC_one (x : Wt) (j : Nat) : (waitC x j).oneCell' = true := by
  unfold waitC
  split
  · rfl
  · split <;> rfl
theorem waitV_len (l : List Wt) : (waitV l).length = l.length * 3 := rows3_len _ _

/-- What can be picked: an order of a thread that is able, or one that waits and may be done. -/
theorem movesX_mem {L : Nat → Nat} {X : Nat → Nat → Nat → Int} {mode : Int} {s : Sx} {mv : Int} (h : mv ∈ movesX L X mode s) : (∃ t, t < s.ths.length ∧ mv = 8 * (t : Int) ∧ ableT L X s t = true) ∨ ∃ t k, t < s.ths.length ∧ k < (thOf s t).wait.length ∧ mv = 8 * (t : Int) + (k : Int) + 1 ∧ mayW mode (thOf s t).wait k = true := by
  unfold movesX at h
  rw [List.mem_flatMap] at h
  obtain ⟨t, ht, h⟩ := h
  have htn : t < s.ths.length := by simpa using ht
  unfold movesT at h
  rw [List.mem_append] at h
  rcases h with h | h
  · by_cases ha : ableT L X s t = true
    · rw [if_pos ha] at h
      exact Or.inl ⟨t, htn, by simpa using h, ha⟩
    · rw [if_neg ha] at h
      cases h
  · rw [List.mem_map] at h
    obtain ⟨k, hk, e⟩ := h
    rw [List.mem_filter] at hk
    exact Or.inr ⟨t, k, htn, by simpa using hk.1, e.symm, hk.2⟩
theorem doX_wait {X : Nat → Nat → Nat → Int} {mode : Int} {s : Sx} {t k : Nat} (hk : k < 7) : doX X mode s (8 * t + k + 1) = setTh (doneW s ((thOf s t).wait.getD k default)) t { thOf s t with wait := (thOf s t).wait.eraseIdx k } := by
  have hth : ∀ x, thOf (doneW s x) t = thOf s t := fun x => by unfold doneW; split <;> rfl
  unfold doX
  simp only [show (8 * t + k + 1) / 8 = t by omega, show (8 * t + k + 1) % 8 = k + 1 by omega]
  rw [if_pos (by omega)]
  simp only [Nat.add_sub_cancel, hth]
theorem SOk.wait {n : Nat} {L : Nat → Nat} {X : Nat → Nat → Nat → Int} {m lk rg : Nat} {mode : Int} {s : Sx} (h : SOk n L m lk rg mode s) {t k : Nat} (ht : t < n) (hk : k < (thOf s t).wait.length) : SOk n L m lk rg mode (doX X mode s (8 * t + k + 1)) := by
  have hw := h.wlen t ht
  rw [doX_wait (by omega)]
  have h1 := h.done ((thOf s t).wait.getD k default)
  refine h1.th ht (h.pc t ht) (h.regs t ht) ?_ (fun y hy => h.wok t ht y (List.mem_of_mem_eraseIdx hy)) (fun h0 => ?_)
  · have := List.length_eraseIdx_le (thOf s t).wait k
    show ((thOf s t).wait.eraseIdx k).length ≤ 3
    omega
  · show (thOf s t).wait.eraseIdx k = []
    rw [h.bare h0 t ht]; rfl
theorem prints_wait {X : Nat → Nat → Nat → Int} {mode : Int} {s : Sx} {t k : Nat} (hk : k < 7) : (doX X mode s (8 * t + k + 1)).prints = s.prints := by
  rw [doX_wait hk]
  show (doneW s _).prints = _
  unfold doneW
  split <;> rfl
theorem fell_wait {X : Nat → Nat → Nat → Int} {mode : Int} {s : Sx} {t k : Nat} (hk : k < 7) : (doX X mode s (8 * t + k + 1)).fell = s.fell := by
  rw [doX_wait hk]
  show (doneW s _).fell = _
  unfold doneW
  split <;> rfl

attribute [local go_sem ↓] appS_eq
end

section
open Go.RowKit

section
variable {n : Nat} {L : Nat → Nat} {X : Nat → Nat → Nat → Int} {m lk rg : Nat} {mode : Int}
/-- What a move makes of a state that may be. -/
theorem move_ok {s : Sx} (h : SOk n L m lk rg mode s) (hc : COk n L X m lk rg) (hm : 0 ≤ mode) {mv : Int} (hmv : mv ∈ movesX L X mode s) : SOk n L m lk rg mode (doX X mode s mv.toNat) := by
  rcases movesX_mem hmv with ⟨t, ht, rfl, ha⟩ | ⟨t, k, ht, hk, rfl, _⟩
  · rw [show (8 * (t : Int)).toNat = 8 * t by omega]
    exact h.step hc hm (by rw [← h.ths]; exact ht) ha
  · rw [show (8 * (t : Int) + (k : Int) + 1).toNat = 8 * t + k + 1 by omega]
    exact h.wait (by rw [← h.ths]; exact ht) hk
theorem mem_nx {s t : Sx} : t ∈ nxX L X mode s ↔ ∃ mv, mv ∈ movesX L X mode s ∧ doX X mode s mv.toNat = t ∧ t.fell = false := by
  unfold nxX
  rw [List.mem_filterMap]
  constructor
  · rintro ⟨mv, h1, h2⟩
    cases hf : (doX X mode s mv.toNat).fell with
    | true => rw [hf] at h2; cases h2
    | false =>
      rw [hf] at h2
      have e : doX X mode s mv.toNat = t := Option.some.inj h2
      exact ⟨mv, h1, e, by rw [← e]; exact hf⟩
  · rintro ⟨mv, h1, h2, h3⟩
    exact ⟨mv, h1, by rw [h2, h3]; rfl⟩
/-- What holds of all that can be come to. -/
theorem reach_ok {s0 s : Sx} (h0 : SOk n L m lk rg mode s0) (hf : s0.fell = false) (hc : COk n L X m lk rg) (hm : 0 ≤ mode) (h : Rch (nxX L X mode) s0 s) : SOk n L m lk rg mode s ∧ s.fell = false := by
  induction h with
  | base => exact ⟨h0, hf⟩
  | step _ ht ih =>
    obtain ⟨mv, h1, h2, h3⟩ := mem_nx.mp ht
    rw [← h2]
    exact ⟨move_ok ih.1 hc hm h1, by rw [h2]; exact h3⟩
end
theorem th_set {s : Sx} {t : Nat} (ht : t < s.ths.length) (x : Th) : thOf (setTh s t x) t = x := by
  unfold thOf setTh
  simp [List.getD, ht]
theorem set_set (s : Sx) (t : Nat) (x y : Th) : setTh (setTh s t x) t y = setTh s t y := by
  unfold setTh
  simp
section
variable {n : Nat} {L : Nat → Nat} {X : Nat → Nat → Nat → Int} {m lk rg : Nat}
end
end

section
open Go.RowKit

attribute [local go_sem ↓] appS_eq
set_option maxRecDepth 100000 in
set_option maxHeartbeats 3200000 in
theorem step_16 (w : World) (B : Nat) (Q : Cd) (sb mb : Nat) (v : Rp → Value) (s : Sx) (ca : Option Addr) (X : Nat → Nat → Nat → Int) (n m lk rg t : Nat) (hx : Cy w B Q sb mb v s ca X n m lk rg t) (hop : opT X s t 0 = 16) :
    Calls Tryz.prog 89 #[.pointer (some ⟨sb, 0, none⟩), .int .i64 t] w (StepQ B Q sb mb v w (orderX Q.K.mode (stepS s t) t 16 (opT X s t 1) (opT X s t 2) (opT X s t 3))) := by
  obtain ⟨tb, tc, rb, rc, pc, ob, oo, ⟨htn, hn4, hpcl, hL4⟩, hpre⟩ := hx.pre
  have htl : t < s.ths.length := by have := hx.ho.ths; have := hx.ht; omega
  have hrl : (thOf s t).regs.length = rg := hx.ho.regs t hx.ht
  have hord := hx.hc.ord t (thOf s t).pc hx.ht hx.hlt
  have hrg2 := hx.hc.rg2
  have hwl : s.words.length = m := hx.ho.words
  have hol : s.own.length = lk := hx.ho.own
  have hm64 := hx.hc.m64
  have hlk4 := hx.hc.lk4
  have hM := hx.hM
  have hf := hx.hf
  have hthn := hx.ho.ths
  have hsl : (stepS s t).ths.length = s.ths.length := stepS_len s t
  have hsr : (thOf (stepS s t) t).regs.length = rg := by rw [stepS_regs htl]; exact hrl
  have HMPX : Hid (∀ W : World, QSt W B Q sb mb v (stepS s t) → w.heap.size ≤ W.heap.size → MPre W B Q sb mb v (stepS s t) t) := fun W hq hW => hx.mpre hq hW
  have hsf : (stepS s t).fell = false := hf
  change ordE rg m lk (Q.L t) (opT X s t 0) (opT X s t 1) (opT X s t 2) (opT X s t 3) = 0 at hord
  have d1 := hpre.c1
  have dc := hpre.cc
  have dp := hpre.cp
  have df := hpre.cf
  have dr := hpre.cr
  have y0 := hpre.y0
  have y1 := hpre.y1
  have y2 := hpre.y2
  have y3 := hpre.y3
  have nrt := hpre.nrt
  have ntr := hpre.ntr
  have nst := hpre.nst
  have nts := hpre.nts
  have lsb := hpre.lsb
  have lrb := hpre.lrb
  have ltb := hpre.ltb
  have lob := hpre.lob
  rw [hop] at hord y0
  obtain ⟨a, ea⟩ : ∃ x, opT X s t 1 = x := ⟨_, rfl⟩
  obtain ⟨b, eb⟩ : ∃ x, opT X s t 2 = x := ⟨_, rfl⟩
  obtain ⟨c, ec⟩ : ∃ x, opT X s t 3 = x := ⟨_, rfl⟩
  rw [ea, eb, ec] at hord ⊢
  rw [ea] at y1
  rw [eb] at y2
  rw [ec] at y3
  clear ea eb ec
  obtain ⟨ia, rfl, ha⟩ := toN (ok_print hord)
  obtain ⟨LT, hLT⟩ : ∃ x, Q.L t = x := ⟨_, rfl⟩
  rw [hLT] at dc hpcl hL4
  have HP := Hid.out (p := Hid _) hpre
  have HX := Hid.out (p := Hid _) hx
  have HD : Hid (∀ W, W.heap = ((w.setCell ⟨tb, t * 3 + 1, none⟩ (.int .i64 ((pc : Int) + 1))).alloc (.cells #[.int .i64 16, .int .i64 (ia : Int), .int .i64 b, .int .i64 c] 37)).heap → QSt W B Q sb mb v (stepS s t)) := fun W e => (hpre.D.alloc _).same e
  have HM : Hid (∀ W, W.heap = ((w.setCell ⟨tb, t * 3 + 1, none⟩ (.int .i64 ((pc : Int) + 1))).alloc (.cells #[.int .i64 16, .int .i64 (ia : Int), .int .i64 b, .int .i64 c] 37)).heap → W.os = w.os → W.tape = w.tape → W.output = w.output → Moved w W v v) := fun W e e1 e2 e3 => Moved.same (hpre.M.alloc _) e e1 e2 e3
  have hpr := hx.hpr
  have hBw := hx.hB
  have wa := hpre.reg htl (r := ia) (by omega)
  obtain ⟨VA, eA⟩ : ∃ x, getR s t (ia : Int) = x := ⟨_, rfl⟩
  have HST : Hid (orderX Q.K.mode (stepS s t) t 16 (ia : Int) b c = { stepS s t with prints := (stepS s t).prints ++ [(t : Int), VA] }) := by
    show { stepS s t with prints := (stepS s t).prints ++ [(t : Int), getR (stepS s t) t (ia : Int)] } = _
    rw [stepS_getR htl, eA]
  rw [eA] at wa
  clear eA
  obtain ⟨W0, hW0⟩ : ∃ W, W = (w.setCell ⟨tb, t * 3 + 1, none⟩ (.int .i64 ((pc : Int) + 1))) := ⟨_, rfl⟩
  have hDW := hpre.D
  have hMW := hpre.M
  rw [← hW0] at hDW hMW
  obtain ⟨pa, pcap, hpv⟩ := hDW.form .prints
  change v .prints = .slice pa s.prints.length pcap at hpv
  have c2 := hDW.c2
  rw [hpv] at c2
  have f2 := hDW.fam.frozen hDW.bst 2
  have hWs : B ≤ W0.heap.size := by have := hMW.size; omega
  have hsz1 : W0.heap.size = w.heap.size := by rw [hW0]; simp [World.setCell]
  have hb0 : Below W0.heap.size W0 ((W0.alloc (.cells #[.int .i64 16, .int .i64 (ia : Int), .int .i64 b, .int .i64 c] 37)).drew).drew := (((Below.refl _ W0).alloc (Nat.le_refl _) _).drew).drew
  obtain ⟨g, cap, w3, hr1, hr2, hr3, hr4⟩ := app_row (T := 23) Tryz.underlying23 infoI rfl (by omega) (hDW.fam.own .prints) hb0 hWs 2 #[.int .i64 (t : Int), .int .i64 VA] rfl (by simp [Value.oneCell']) (by omega) (by show s.prints.length + 2 ≤ _; omega) (by omega)
  have hne : some sb ≠ (v .prints).ownBlock := fun e => absurd (hDW.fam.apart _ _ sb hDW.bst e.symm) (by simp)
  have q2 := hr3.cell (cell_up2 c2 (.cells #[.int .i64 16, .int .i64 (ia : Int), .int .i64 b, .int .i64 c] 37) (.cells #[.int .i64 (t : Int), .int .i64 VA] 3)) hne
  have hszz : ((W0.alloc (.cells #[.int .i64 16, .int .i64 (ia : Int), .int .i64 b, .int .i64 c] 37)).drew).drew.heap.size = W0.heap.size + 1 := by simp
  have qf : w3.frozen? ⟨sb, 2, none⟩ = false := (hr3.frozen_far ⟨sb, 2, none⟩ (by show sb < _; rw [World.size_alloc, hszz]; omega) hne).trans (frozen_up2 (by show sb < _; omega) f2 _ _)
  have hD1 := (hDW.below (hb0.alloc (by simp) (.cells #[.int .i64 (t : Int), .int .i64 VA] 3))).print (a := (t : Int)) (b := VA) hr2 hr3 hr4 (by simp)
  have hM1 := (((((hMW.alloc (.cells #[.int .i64 16, .int .i64 (ia : Int), .int .i64 b, .int .i64 c] 37)).drew).drew).alloc (.cells #[.int .i64 (t : Int), .int .i64 VA] 3)).grow (r := .prints) (m := s.prints.length + 2) (c := cap) hr3 hr4 (by simp)).put (r := .st) (g := sb) (by rw [upd_ne _ _ (by simp)]; exact hDW.bst) 2 (.slice (some ⟨g, 0, none⟩) (s.prints.length + 2) cap)
  have HF : Hid (∃ v', QSt (w3.setCell ⟨sb, 2, none⟩ (.slice (some ⟨g, 0, none⟩) (s.prints.length + 2) cap)) B Q sb mb v' { stepS s t with prints := (stepS s t).prints ++ [(t : Int), VA] } ∧ Moved w (w3.setCell ⟨sb, 2, none⟩ (.slice (some ⟨g, 0, none⟩) (s.prints.length + 2) cap)) v v') := ⟨_, hD1, hM1⟩
  have hrun : (AppS #[23, 23] 23 #[.slice pa s.prints.length pcap, .slice (some ⟨w.heap.size + 1, 0, none⟩) 2 2]).run Tryz.prog (((w.setCell ⟨tb, t * 3 + 1, none⟩ (.int .i64 ((pc : Int) + 1))).alloc (.cells #[.int .i64 16, .int .i64 (ia : Int), .int .i64 b, .int .i64 c] 37)).alloc (.cells #[.int .i64 (t : Int), .int .i64 VA] 3)).drew.drew = .ok (.slice (some ⟨g, 0, none⟩) (s.prints.length + 2) cap) w3 := by
    have e : ((W0.alloc (.cells #[.int .i64 16, .int .i64 (ia : Int), .int .i64 b, .int .i64 c] 37)).drew).drew.heap.size = w.heap.size + 1 := by rw [← hsz1]; simp
    rw [e, hpv] at hr1
    rw [← hW0]
    exact hr1
  rw [hW0] at c2
  have k2 := cell_up c2
  have k22 := cell_up2 c2
  have c2' := (World.cell?_of_block (w := w) (a := ⟨sb, 2, none⟩) (Below.heap_setCell _ _ _ _ nst)).symm.trans c2
  obtain ⟨np, hnp⟩ : ∃ x, s.prints.length = x := ⟨_, rfl⟩
  rw [hnp] at HF hrun k2 k22 q2 c2' c2 hpr
  clear hord hpv hr1 hr2 hr3 hr4 hne hD1 hM1 hWs hnp hDW hMW hW0 hb0 hsz1 hszz
  clear hx hpre hop hLT
  go_enter Tryz.func89, Tryz.ntmps89
  go_wp2
  go_region
  all_goals go_wp2
  all_goals go_region
  all_goals go_wp2
  all_goals go_ret
  all_goals obtain ⟨v2, hv2⟩ := HF.out
  all_goals refine ⟨?_, v2, ?_⟩
  all_goals rw [HST.out]
  all_goals first | (show _ = Ending.returned (.bool (!s.fell)); rw [hf]; rfl) | exact hv2
end

end Go.Proofs.YtelckcpjmekgcadGreatDoor
