/-
  The document's state ahead of the first step.
  What the document's Run goes by: a script's picks, the run as a plain function, the round's invariant.
  The state of a run of the program as it lies in memory, with all its rows; what a store and an append make of it.
  What the program asks of a memory, whichever it is: its methods, as they are called, and what they do.
-/
import Derived.Test.YtipdnfpomdcenabGreatDoorSOk
import Derived.Test.YtipdnfpomdcenabGreatDoorOrder
namespace Go.Proofs.YtipdnfpomdcenabGreatDoor
section
open Go.RowKit

/-- A list of numbers that came in, as it is read. -/
def SIs (w : World) (a : Option Addr) (l : List Int) : Prop := ∀ i, i < l.length → ∃ b o, a = some ⟨b, o, none⟩ ∧ w.cell? ⟨b, o + i, none⟩ = some (.int .i64 (l.getD i 0))
theorem SIs.below {w w1 : World} {a : Option Addr} {l : List Int} (h : SIs w a l) (hb : Below w.heap.size w w1) : SIs w1 a l := fun i hi => by
  obtain ⟨b, o, e, h1⟩ := h i hi
  exact ⟨b, o, e, (hb.cell (lt_of_cell h1)).trans h1⟩
theorem intsV_one (l : List Int) : ∀ u ∈ intsV l, u.oneCell' = true := fun u hu => by
  simp only [intsV, List.mem_map] at hu
  obtain ⟨x, _, rfl⟩ := hu
  rfl
theorem own_low {w : World} {B B' : Nat} {e : TypeId} {size : Nat} {v : Value} {n : Nat} {xs : List Value} (h : w.ownsRow B e size v n xs) (hB : B' ≤ B) : w.ownsRow B' e size v n xs := by
  refine ⟨h.1, ?_⟩
  rcases h.2 with h0 | ⟨g, cap, cur, hv, hg, r⟩
  · exact Or.inl h0
  · exact Or.inr ⟨g, cap, cur, hv, Nat.le_trans hB hg, r⟩
/-- 'append([]int{}, l...)'. -/
theorem app_src (W : World) (B : Nat) (hB : B ≤ W.heap.size) (sa : Option Addr) (l : List Int) (c : Nat) (hsrc : SIs W sa l) (hl : l.length * 8 ≤ 140737488355328) :
    ∃ g cap w3, (AppS #[23, 23] 23 #[.slice (some ⟨W.heap.size, 0, none⟩) 0 0, .slice sa l.length c]).run Tryz.prog (W.alloc (.cells #[] 3)) = .ok (.slice (some ⟨g, 0, none⟩) l.length cap) w3 ∧ w3.ownsRow B 3 1 (.slice (some ⟨g, 0, none⟩) l.length cap) l.length (intsV l) ∧ (W.alloc (.cells #[] 3)).grownBy w3 (some W.heap.size) ∧ W.heap.size ≤ g ∧ g < w3.heap.size := by
  obtain ⟨i, hi, hz0, hz1, hz2⟩ := info_is infoI
  have hown := World.ownsRow_made (base := B) (e := 3) (size := 1) W #[] 0 hB (by decide) rfl
  cases l with
  | nil =>
    refine ⟨W.heap.size, 0, W.alloc (.cells #[] 3), ?_, hown, ⟨rfl, rfl, rfl, Nat.le_refl _, fun _ _ _ => rfl⟩, Nat.le_refl _, by simp⟩
    have hs : Src Tryz.prog i.size 23 (.slice sa 0 c) 0 [] (W.alloc (.cells #[] 3)) := by
      cases sa with
      | none => exact Src.ofNil _ Tryz.underlying23 c
      | some a => exact Src.ofSlice _ Tryz.underlying23 a 0 c [] (by simp) (fun j u h => by simp at h) (fun u h => by cases h)
    have := run_append_room_src (P := Tryz.prog) (W.alloc (.cells #[] 3)) 23 23 23 3 i Tryz.underlying23 hi W.heap.size 0 0 0 (.slice sa 0 c) 0 [] hs (Nat.le_refl _) (fun j h => by simp at h) (fun j h => by simp at h)
    exact this
  | cons x r =>
    obtain ⟨b, o, rfl, _⟩ := hsrc 0 (by simp)
    have hnews : ∀ j u, (intsV (x :: r))[j]? = some u → (W.alloc (.cells #[] 3)).cell? ((⟨b, o, none⟩ : Addr).add j) = some u := fun j u hu => by
      have hj : j < (x :: r).length := by
        rcases Nat.lt_or_ge j (x :: r).length with h | h
        · exact h
        · rw [List.getElem?_eq_none (by rw [intsV_len]; exact h)] at hu; cases hu
      obtain ⟨b', o', e, h1⟩ := hsrc j hj
      simp only [Option.some.injEq, Addr.mk.injEq, and_true] at e
      obtain ⟨rfl, rfl⟩ := e
      have hadd : (⟨b, o, none⟩ : Addr).add j = ⟨b, o + j, none⟩ := by unfold Addr.add; split <;> simp_all
      rw [intsV_at hj] at hu
      rw [hadd, cell_up h1]
      exact hu
    obtain ⟨g, cap, w3, r1, r2, r3, r4, r5⟩ := run_append_lies (P := Tryz.prog) (W.alloc (.cells #[] 3)) 23 23 B 3 i _ 1 8 Tryz.underlying23 hi hz0 hz1 hz2 rfl (by omega) _ 0 [] hown ⟨b, o, none⟩ (x :: r).length c (intsV (x :: r)) (by rw [intsV_len]; omega) hnews (intsV_one _) (by simp) (by unfold maxLen; omega) (by omega) (by simp; omega) (W.heap.size + 1) (by simp)
    rw [Nat.zero_add] at r1 r2
    refine ⟨g, cap, w3, r1, r2, r3, ?_, r5⟩
    rcases r4 with r4 | r4
    · have : W.heap.size = g := by simpa [Value.ownBlock] using r4
      omega
    · omega
theorem made_ints (n : Nat) : madeCells #[Value.int .i64 0] n = (intsV (List.replicate n 0)).toArray := by
  apply Array.ext'
  simp [madeCells, intsV]
  apply List.ext_getElem?
  intro i
  simp only [List.getElem?_map, List.getElem?_replicate]
  by_cases h : i < n
  · simp [h, Nat.mod_one]
  · simp [h]

attribute [local go_sem ↓] appS_eq
end

section
open Go.RowKit

/-- What is picked by a number of the script. -/
theorem rem_pick (x : Int) {n : Nat} (hn : 0 < n) : (if x.tmod n < 0 then x.tmod n + n else x.tmod n) = x.emod n := by
  have h1 := Int.tmod_eq_emod (a := x) (b := n)
  have h2 := Int.emod_nonneg x (show (n : Int) ≠ 0 by omega)
  have h3 := Int.emod_lt_of_pos x (show (0 : Int) < n by omega)
  have e : x.emod n = x % n := rfl
  rw [e]
  split at h1
  · rw [if_neg (by omega)]; omega
  · have h4 : x % (n : Int) ≠ 0 := fun h => by
      rename_i h5
      exact h5 (Or.inr (Int.dvd_of_emod_eq_zero h))
    have : ((n : Int).natAbs : Int) = n := by omega
    rw [if_pos (by omega)]; omega
theorem pick_lt (k : Nat) (script : List Int) (hk : 0 < k) : (pickX k script).1 < k := by
  unfold pickX
  split
  · exact hk
  · cases script with
    | nil => exact hk
    | cons x r =>
      have h2 := Int.emod_nonneg x (show (k : Int) ≠ 0 by omega)
      have h3 := Int.emod_lt_of_pos x (show (0 : Int) < k by omega)
      show (x.emod k).toNat < k
      have e : x.emod k = x % k := rfl
      rw [e]; omega

/-- A run goes one step on. -/
theorem run_ended {L : Nat → Nat} {X : Nat → Nat → Nat → Int} {mode : Int} {f : Nat} {s : Sx} {k : Nat} {sc : List Int} (h : endedX L s = true) : runX L X mode f s k sc = (s, 0, k) := by
  unfold runX; rw [if_pos h]
theorem run_stuck {L : Nat → Nat} {X : Nat → Nat → Nat → Int} {mode : Int} {f : Nat} {s : Sx} {k : Nat} {sc : List Int} (h : endedX L s = false) (hm : movesX L X mode s = []) : runX L X mode f s k sc = (s, 2, k) := by
  unfold runX; rw [if_neg (by simp [h])]; simp [hm]
theorem run_out {L : Nat → Nat} {X : Nat → Nat → Nat → Int} {mode : Int} {s : Sx} {k : Nat} {sc : List Int} (h : endedX L s = false) (hm : movesX L X mode s ≠ []) : runX L X mode 0 s k sc = (s, 3, k) := by
  unfold runX; rw [if_neg (by simp [h])]
  have : (movesX L X mode s).isEmpty = false := by cases hh : movesX L X mode s with
    | nil => exact absurd hh hm
    | cons a r => rfl
  simp [this]
theorem run_step {L : Nat → Nat} {X : Nat → Nat → Nat → Int} {mode : Int} {f : Nat} {s : Sx} {k : Nat} {sc : List Int} (h : endedX L s = false) (hm : movesX L X mode s ≠ []) : runX L X mode (f + 1) s k sc =
    (if (doX X mode s ((movesX L X mode s).getD (pickX (movesX L X mode s).length sc).1 0).toNat).fell then (doX X mode s ((movesX L X mode s).getD (pickX (movesX L X mode s).length sc).1 0).toNat, 1, k + 1)
     else runX L X mode f (doX X mode s ((movesX L X mode s).getD (pickX (movesX L X mode s).length sc).1 0).toNat) (k + 1) (pickX (movesX L X mode s).length sc).2) := by
  conv => lhs; unfold runX
  rw [if_neg (by simp [h])]
  have : (movesX L X mode s).isEmpty = false := by cases hh : movesX L X mode s with
    | nil => exact absurd hh hm
    | cons a r => rfl
  simp [this]

theorem begin_ok {n : Nat} {L : Nat → Nat} {words : List Int} {lk rg : Nat} {mode : Int} : SOk n L words.length lk rg mode (beginX n words lk rg) := by
  have e : ∀ t, t < n → thOf (beginX n words lk rg) t = { pc := 0, regs := List.replicate ((rg : Int)).toNat 0, wait := [] } := fun t ht => by
    unfold thOf beginX
    simp [List.getD, ht]
  refine ⟨by simp [beginX], fun t ht => ?_, fun t ht => ?_, rfl, by simp [beginX], fun t ht => ?_, fun t ht => ?_, fun _ t ht => ?_⟩
  all_goals rw [e t ht]
  · exact Nat.zero_le _
  · simp
  · simp
  · intro x hx; cases hx

theorem cell_set (w : World) (b o : Nat) (x : Value) : (w.setCell ⟨b, o, none⟩ x).cell? ⟨b, o, none⟩ = if (w.cell? ⟨b, o, none⟩).isSome then some x else none := by
  unfold World.cell? World.setCell
  simp only [Array.getElem?_modify, if_true]
  cases h : w.heap[b]? with
  | none => simp
  | some ob =>
    cases ob with
    | cells c e f =>
      simp only [Option.map_some, Option.isSome_none, Bool.false_eq_true, if_false]
      rw [Array.getElem?_setIfInBounds]
      by_cases ho : o < c.size
      · simp [ho]
      · simp [ho]
    | _ => simp
end

section
open Go.RowKit

/-- The rows of the program's state. -/
inductive Rp where
  | st
  | thr
  | prints
  | regs (t : Nat)
  | mem
  | words
  | own
  | box
  | bufs
  | buf (t : Nat)
deriving DecidableEq

/-- A kind of memory: is it one with buffers; how runs in it are; its own type, those of its box, of a list of stores and of a store; its methods. -/
structure Mk where
  bf : Bool
  mode : Int
  tid : TypeId
  bty : TypeId
  lty : TypeId
  sty : TypeId
  able : Nat
  load : Nat
  store : Nat
  unlock : Nat
  waiting : Nat
  finish : Nat
/-- A program's code as values, the kind of its memory, where the box with buffers lies, how many buffers there are. -/
structure Cd where
  A : Nat → Option Addr
  L : Nat → Nat
  C : Nat → Nat
  K : Mk
  bb : Nat
  nt : Nat
/-- Where the memory's own box lies. -/
def Cd.top (Q : Cd) (mb : Nat) : Nat := if Q.K.bf then Q.bb else mb

def pTy (K : Mk) : Rp → TypeId
  | .st => 111
  | .thr => 140
  | .mem => 118
  | .box => K.bty
  | .bufs => K.lty
  | .buf _ => K.sty
  | _ => 3
def pSz : Rp → Nat
  | .st => 3
  | .thr => 3
  | .mem => 2
  | .box => 2
  | .buf _ => 3
  | _ => 1
def pN (Q : Cd) (s : Sx) : Rp → Nat
  | .st => 1
  | .thr => s.ths.length
  | .prints => s.prints.length
  | .regs t => (thOf s t).regs.length
  | .mem => 1
  | .words => s.words.length
  | .own => s.own.length
  | .box => if Q.K.bf then 1 else 0
  | .bufs => if Q.K.bf then Q.nt else 0
  | .buf t => if Q.K.bf then (thOf s t).wait.length else 0
def pthC (Q : Cd) (v : Rp → Value) (s : Sx) (t j : Nat) : Value := if j = 0 then .slice (Q.A t) (Q.L t) (Q.C t) else if j = 1 then .int .i64 (thOf s t).pc else v (.regs t)
def pX (Q : Cd) (mb : Nat) (v : Rp → Value) (s : Sx) : Rp → List Value
  | .st => [.iface Q.K.tid (.pointer (some ⟨Q.top mb, 0, none⟩)), v .thr, v .prints]
  | .thr => rows3 s.ths.length (pthC Q v s)
  | .prints => intsV s.prints
  | .regs t => intsV (thOf s t).regs
  | .mem => [v .words, v .own]
  | .words => intsV s.words
  | .own => intsV s.own
  | .box => if Q.K.bf then [.pointer (some ⟨mb, 0, none⟩), v .bufs] else []
  | .bufs => if Q.K.bf then (List.range Q.nt).map fun t => v (.buf t) else []
  | .buf t => if Q.K.bf then waitV (thOf s t).wait else []
structure QSt (w : World) (B : Nat) (Q : Cd) (sb mb : Nat) (v : Rp → Value) (s : Sx) : Prop where
  fam : Fam w B (pTy Q.K) pSz v (pN Q s) (pX Q mb v s)
  st : v .st = boxV sb
  mem : v .mem = boxV mb
  box : Q.K.bf = true → v .box = boxV Q.bb

section
variable {w w1 : World} {B : Nat} {Q : Cd} {sb mb : Nat} {v : Rp → Value} {s : Sx}
theorem QSt.below (h : QSt w B Q sb mb v s) (hb : Below w.heap.size w w1) : QSt w1 B Q sb mb v s := ⟨h.fam.below hb, h.st, h.mem, h.box⟩
theorem QSt.same (h : QSt w B Q sb mb v s) (e : w1.heap = w.heap) : QSt w1 B Q sb mb v s := ⟨⟨fun r => fam_keeps (h.fam.own r) (fun g _ => by rw [e]), h.fam.apart⟩, h.st, h.mem, h.box⟩
theorem QSt.alloc (h : QSt w B Q sb mb v s) (o : Obj) : QSt (w.alloc o) B Q sb mb v s := h.below ((Below.refl _ _).alloc (Nat.le_refl _) _)
theorem QSt.bst (h : QSt w B Q sb mb v s) : (v .st).ownBlock = some sb := by rw [h.st]; rfl
theorem QSt.bmem (h : QSt w B Q sb mb v s) : (v .mem).ownBlock = some mb := by rw [h.mem]; rfl
theorem QSt.c0 (h : QSt w B Q sb mb v s) : w.cell? ⟨sb, 0, none⟩ = some (.iface Q.K.tid (.pointer (some ⟨Q.top mb, 0, none⟩))) := h.fam.cell h.bst rfl
theorem QSt.c1 (h : QSt w B Q sb mb v s) : w.cell? ⟨sb, 1, none⟩ = some (v .thr) := h.fam.cell h.bst rfl
theorem QSt.c2 (h : QSt w B Q sb mb v s) : w.cell? ⟨sb, 2, none⟩ = some (v .prints) := h.fam.cell h.bst rfl
theorem QSt.m0 (h : QSt w B Q sb mb v s) : w.cell? ⟨mb, 0, none⟩ = some (v .words) := h.fam.cell h.bmem rfl
theorem QSt.m1 (h : QSt w B Q sb mb v s) : w.cell? ⟨mb, 1, none⟩ = some (v .own) := h.fam.cell h.bmem rfl
theorem QSt.form (h : QSt w B Q sb mb v s) (r : Rp) : ∃ a c, v r = .slice a (pN Q s r) c := fam_form (h.fam.own r)
theorem QSt.blk (h : QSt w B Q sb mb v s) (r : Rp) (hn : 0 < pN Q s r) : ∃ g c, v r = .slice (some ⟨g, 0, none⟩) (pN Q s r) c ∧ (v r).ownBlock = some g ∧ g < w.heap.size := by
  obtain ⟨g, c, h1, h2, _, h4⟩ := fam_block (h.fam.own r) hn
  exact ⟨g, c, h1, h2, h4⟩
theorem QSt.code (h : QSt w B Q sb mb v s) {tb t : Nat} (e : (v .thr).ownBlock = some tb) (ht : t < s.ths.length) : w.cell? ⟨tb, t * 3, none⟩ = some (.slice (Q.A t) (Q.L t) (Q.C t)) := h.fam.cell e (rows3_get (j := 0) ht (by omega))
theorem QSt.pc (h : QSt w B Q sb mb v s) {tb t : Nat} (e : (v .thr).ownBlock = some tb) (ht : t < s.ths.length) : w.cell? ⟨tb, t * 3 + 1, none⟩ = some (.int .i64 (thOf s t).pc) := h.fam.cell e (rows3_get (j := 1) ht (by omega))
theorem QSt.regs (h : QSt w B Q sb mb v s) {tb t : Nat} (e : (v .thr).ownBlock = some tb) (ht : t < s.ths.length) : w.cell? ⟨tb, t * 3 + 2, none⟩ = some (v (.regs t)) := h.fam.cell e (rows3_get (j := 2) ht (by omega))
theorem QSt.reg (h : QSt w B Q sb mb v s) {rb t r : Nat} (e : (v (.regs t)).ownBlock = some rb) (hr : r < (thOf s t).regs.length) : w.cell? ⟨rb, r, none⟩ = some (.int .i64 (getR s t r)) := by
  refine (h.fam.cell e (intsV_at hr)).trans ?_
  simp [getR]
theorem QSt.word (h : QSt w B Q sb mb v s) {rb r : Nat} (e : (v .words).ownBlock = some rb) (hr : r < s.words.length) : w.cell? ⟨rb, r, none⟩ = some (.int .i64 (s.words.getD r 0)) := h.fam.cell e (intsV_at hr)
theorem QSt.owner (h : QSt w B Q sb mb v s) {rb r : Nat} (e : (v .own).ownBlock = some rb) (hr : r < s.own.length) : w.cell? ⟨rb, r, none⟩ = some (.int .i64 (s.own.getD r 0)) := h.fam.cell e (intsV_at hr)

theorem pN_setTh {t : Nat} (ht : t < s.ths.length) {x : Th} (hr : x.regs.length = (thOf s t).regs.length) (hw : x.wait.length = (thOf s t).wait.length) : ∀ q, pN Q (setTh s t x) q = pN Q s q
  | .st => rfl
  | .thr => ths_set _ _ _
  | .words => rfl
  | .own => rfl
  | .prints => rfl
  | .mem => rfl
  | .regs u => by
    show (thOf (setTh s t x) u).regs.length = (thOf s u).regs.length
    rw [thOf_set ht]
    split
    · rename_i h; rw [h]; exact hr
    · rfl
  | .box => rfl
  | .bufs => rfl
  | .buf u => by
    show (if Q.K.bf then (thOf (setTh s t x) u).wait.length else 0) = if Q.K.bf then (thOf s u).wait.length else 0
    rw [thOf_set ht]
    by_cases h : u = t
    · rw [if_pos h, h, hw]
    · rw [if_neg h]
theorem pX_setTh {t : Nat} (ht : t < s.ths.length) {x : Th} : (∀ q, q ≠ .thr → (q = .regs t → x.regs = (thOf s t).regs) → (q = .buf t → x.wait = (thOf s t).wait) → pX Q mb v (setTh s t x) q = pX Q mb v s q)
  | .st, _, _, _ => rfl
  | .thr, h, _, _ => absurd rfl h
  | .words, _, _, _ => rfl
  | .own, _, _, _ => rfl
  | .prints, _, _, _ => rfl
  | .mem, _, _, _ => rfl
  | .box, _, _, _ => rfl
  | .bufs, _, _, _ => rfl
  | .buf u, _, _, h => by
    show (if Q.K.bf then waitV (thOf (setTh s t x) u).wait else []) = if Q.K.bf then waitV (thOf s u).wait else []
    rw [thOf_set ht]
    by_cases e : u = t
    · subst e; rw [if_pos rfl, h rfl]
    · rw [if_neg e]
  | .regs u, _, h, _ => by
    show intsV (thOf (setTh s t x) u).regs = intsV (thOf s u).regs
    rw [thOf_set ht]
    split
    · rename_i e; subst e; rw [h rfl]
    · rfl
theorem pX_thr {t : Nat} (ht : t < s.ths.length) {x : Th} (hp : x.pc = (thOf s t).pc) : pX Q mb v (setTh s t x) .thr = pX Q mb v s .thr := by
  show rows3 (setTh s t x).ths.length (pthC Q v (setTh s t x)) = rows3 s.ths.length (pthC Q v s)
  rw [ths_set]
  refine rows3_congr fun a b _ => ?_
  unfold pthC
  rw [thOf_set ht]
  by_cases h1 : a = t
  · subst h1; rw [if_pos rfl, hp]
  · rw [if_neg h1]
theorem QSt.setPc (h : QSt w B Q sb mb v s) {tb t : Nat} (e : (v .thr).ownBlock = some tb) (ht : t < s.ths.length) (k : Nat) : QSt (w.setCell ⟨tb, t * 3 + 1, none⟩ (.int .i64 k)) B Q sb mb v (setTh s t { thOf s t with pc := k }) := by
  refine ⟨h.fam.put (r := .thr) e (t * 3 + 1) _ (pN_setTh ht rfl rfl) ?_ (fun q hq => pX_setTh ht q hq (fun _ => rfl) (fun _ => rfl)), h.st, h.mem, h.box⟩
  show rows3 (setTh s t _).ths.length (pthC Q v (setTh s t _)) = (rows3 s.ths.length (pthC Q v s)).set (t * 3 + 1) _
  rw [ths_set]
  refine rows3_set (by omega) ?_ ?_
  · simp [pthC, thOf_set ht]
  · intro a b _ hab
    simp only [pthC, thOf_set ht]
    by_cases h1 : a = t
    · subst h1
      have : b ≠ 1 := fun e => hab ⟨rfl, e⟩
      simp [this]
    · simp [h1]
theorem QSt.setReg (h : QSt w B Q sb mb v s) {rb t : Nat} (e : (v (.regs t)).ownBlock = some rb) (ht : t < s.ths.length) (r : Nat) (x : Int) : QSt (w.setCell ⟨rb, r, none⟩ (.int .i64 x)) B Q sb mb v (setR s t r x) := by
  refine ⟨h.fam.put (r := .regs t) e r _ (pN_setTh ht (by simp) rfl) ?_ (fun q hq => ?_), h.st, h.mem, h.box⟩
  · show intsV (thOf (setR s t r x) t).regs = (intsV (thOf s t).regs).set r _
    rw [setR, thOf_set ht, if_pos rfl, intsV_set]
    simp
  · by_cases h1 : q = .thr
    · subst h1; exact pX_thr ht rfl
    · exact pX_setTh ht q h1 (fun e => absurd e hq) (fun _ => rfl)
theorem QSt.setWord (h : QSt w B Q sb mb v s) {rb : Nat} (e : (v .words).ownBlock = some rb) (r : Nat) (x : Int) : QSt (w.setCell ⟨rb, r, none⟩ (.int .i64 x)) B Q sb mb v { s with words := s.words.set r x } := by
  refine ⟨h.fam.put (r := .words) e r _ (fun q => ?_) ?_ (fun q hq => ?_), h.st, h.mem, h.box⟩
  · cases q <;> first | rfl | simp [pN]
  · exact intsV_set _ _ _
  · cases q <;> first | rfl | exact absurd rfl hq
theorem QSt.setOwn (h : QSt w B Q sb mb v s) {rb : Nat} (e : (v .own).ownBlock = some rb) (r : Nat) (x : Int) : QSt (w.setCell ⟨rb, r, none⟩ (.int .i64 x)) B Q sb mb v { s with own := s.own.set r x } := by
  refine ⟨h.fam.put (r := .own) e r _ (fun q => ?_) ?_ (fun q hq => ?_), h.st, h.mem, h.box⟩
  · cases q <;> first | rfl | simp [pN]
  · exact intsV_set _ _ _
  · cases q <;> first | rfl | exact absurd rfl hq
/-- The program does not say in its state that it falls. -/
theorem QSt.fall (h : QSt w B Q sb mb v s) : QSt w B Q sb mb v (fallX s) := ⟨h.fam.same (fun r => by cases r <;> rfl) (fun r => by cases r <;> rfl), h.st, h.mem, h.box⟩
theorem QSt.print (h : QSt w B Q sb mb v s) {g c H : Nat} {a b : Int} (hown : w1.ownsRow B 3 1 (.slice (some ⟨g, 0, none⟩) (s.prints.length + 2) c) (s.prints.length + 2) (intsV s.prints ++ [.int .i64 a, .int .i64 b])) (hgrow : w.grownBy w1 (v .prints).ownBlock) (hat : (v .prints).ownBlock = some g ∨ g = H) (hH : w.heap.size ≤ H) :
    QSt (w1.setCell ⟨sb, 2, none⟩ (.slice (some ⟨g, 0, none⟩) (s.prints.length + 2) c)) B Q sb mb (upd v .prints (.slice (some ⟨g, 0, none⟩) (s.prints.length + 2) c)) { s with prints := s.prints ++ [a, b] } := by
  obtain ⟨x, hx⟩ : ∃ x : Value, x = .slice (some ⟨g, 0, none⟩) (s.prints.length + 2) c := ⟨_, rfl⟩
  have h1 := h.fam.grow (r := .prints) (n1 := pN Q { s with prints := s.prints ++ [a, b] }) (xs1 := fun q => if q = .prints then intsV s.prints ++ [.int .i64 a, .int .i64 b] else pX Q mb v s q) hown hgrow hat hH (by simp [pN]) (fun q hq => by cases q <;> first | rfl | exact absurd rfl hq) (if_pos rfl) (fun q hq => if_neg hq)
  rw [← hx] at h1 ⊢
  refine ⟨h1.put (r := .st) (by rw [upd_ne _ _ (by decide)]; exact h.bst) 2 _ (fun q => rfl) ?_ (fun q hq => ?_), by rw [upd_ne _ _ (by decide)]; exact h.st, by rw [upd_ne _ _ (by decide)]; exact h.mem, fun hb => by rw [upd_ne _ _ (by decide)]; exact h.box hb⟩
  · rw [if_neg (by decide)]
    simp only [pX, upd_self]
    rw [upd_ne _ _ (by decide)]
    rfl
  · cases q with
    | st => exact absurd rfl hq
    | prints => rw [if_pos rfl]; simp [pX, intsV]
    | thr =>
      rw [if_neg (by decide)]
      refine rows3_congr fun a b _ => ?_
      unfold pthC
      rw [upd_ne _ _ (by simp)]
      rfl
    | mem =>
      rw [if_neg (by decide)]
      simp only [pX]
      rw [upd_ne _ _ (by decide), upd_ne _ _ (by decide)]
    | words => rw [if_neg (by decide)]; rfl
    | own => rw [if_neg (by decide)]; rfl
    | regs u => rw [if_neg (by simp)]; rfl
    | box =>
      rw [if_neg (by decide)]
      simp only [pX]
      rw [upd_ne _ _ (by decide)]
    | bufs =>
      rw [if_neg (by decide)]
      simp only [pX]
      congr 1
    | buf u => rw [if_neg (by simp)]; rfl
end

/-! The memory's methods, as they are called. -/
end

section
open Go.RowKit

/-- What a step's call must come to. -/
def StepQ (B : Nat) (Q : Cd) (sb mb : Nat) (v : Rp → Value) (w : World) (s' : Sx) (e : Ending) (w' : World) : Prop := e = .returned (.bool (!s'.fell)) ∧ ∃ v', QSt w' B Q sb mb v' s' ∧ Moved w w' v v'
/-- What a change of the memory must come to. -/
def ChgQ (B : Nat) (Q : Cd) (sb mb : Nat) (v : Rp → Value) (w : World) (s' : Sx) (r : Value) (e : Ending) (w' : World) : Prop := e = .returned r ∧ ∃ v', QSt w' B Q sb mb v' s' ∧ Moved w w' v v' ∧ v' .st = v .st ∧ v' .thr = v .thr ∧ v' .prints = v .prints ∧ ∀ u, v' (.regs u) = v (.regs u)
/-- What can be known of a thread where a memory is asked. -/
structure MPre (w : World) (B : Nat) (Q : Cd) (sb mb : Nat) (v : Rp → Value) (s : Sx) (t : Nat) : Prop where
  hs : QSt w B Q sb mb v s
  hB : B ≤ w.heap.size
  hn : Q.nt = s.ths.length
  h4 : s.ths.length ≤ 4
  ht : t < s.ths.length
  hm : s.words.length ≤ 64
  hl : s.own.length ≤ 4
  hw : (thOf s t).wait.length ≤ 3
  hok : ∀ x, x ∈ (thOf s t).wait → (0 ≤ x.wh ∧ x.wh < (if x.lk then s.own.length else s.words.length : Nat)) ∧ (x.lk = true → x.what = 0)
  bare : Q.K.bf = false → (thOf s t).wait = []
theorem MPre.same {w W : World} {B : Nat} {Q : Cd} {sb mb : Nat} {v : Rp → Value} {s : Sx} {t : Nat} (h : MPre w B Q sb mb v s t) (e : W.heap = w.heap) : MPre W B Q sb mb v s t := ⟨h.hs.same e, by rw [e]; exact h.hB, h.hn, h.h4, h.ht, h.hm, h.hl, h.hw, h.hok, h.bare⟩
theorem MPre.below {w W : World} {B : Nat} {Q : Cd} {sb mb : Nat} {v : Rp → Value} {s : Sx} {t : Nat} (h : MPre w B Q sb mb v s t) (e : Below w.heap.size w W) : MPre W B Q sb mb v s t := ⟨h.hs.below e, Nat.le_trans h.hB e.size, h.hn, h.h4, h.ht, h.hm, h.hl, h.hw, h.hok, h.bare⟩
/-- The places of what waits and can be done. -/
def placesW (mode : Int) (l : List Wt) : List Nat := (List.range l.length).filter fun k => mayW mode l k

structure MLaw (K : Mk) : Prop where
  notTr : K.bty ≠ 46 ∧ K.lty ≠ 46 ∧ K.sty ≠ 46
  mode0 : K.bf = false → K.mode = 0
  mode1 : K.bf = true → 0 < K.mode
  mHas : ∀ (w : World) (B : Nat) (Q : Cd) (sb mb : Nat) (v : Rp → Value) (s : Sx), Q.K = K → QSt w B Q sb mb v s → (method 368 K.tid (.pointer (some ⟨Q.top mb, 0, none⟩)) "Has").run Tryz.prog w = .ok (172, .pointer (some ⟨mb, 0, none⟩)) w
  mAble : ∀ (a : Addr) (w : World), (method 368 K.tid (.pointer (some a)) "Able").run Tryz.prog w = .ok (K.able, .pointer (some a)) w
  cAble : ∀ (xs : Array Value) (w : World), (callFunc K.able xs).run Tryz.prog w = .ok (.enter K.able xs) w
  mLoad : ∀ (a : Addr) (w : World), (method 368 K.tid (.pointer (some a)) "Load").run Tryz.prog w = .ok (K.load, .pointer (some a)) w
  cLoad : ∀ (xs : Array Value) (w : World), (callFunc K.load xs).run Tryz.prog w = .ok (.enter K.load xs) w
  mStore : ∀ (a : Addr) (w : World), (method 368 K.tid (.pointer (some a)) "Store").run Tryz.prog w = .ok (K.store, .pointer (some a)) w
  cStore : ∀ (xs : Array Value) (w : World), (callFunc K.store xs).run Tryz.prog w = .ok (.enter K.store xs) w
  mSwap : ∀ (w : World) (B : Nat) (Q : Cd) (sb mb : Nat) (v : Rp → Value) (s : Sx), Q.K = K → QSt w B Q sb mb v s → (method 368 K.tid (.pointer (some ⟨Q.top mb, 0, none⟩)) "Swap").run Tryz.prog w = .ok (176, .pointer (some ⟨mb, 0, none⟩)) w
  mLock : ∀ (w : World) (B : Nat) (Q : Cd) (sb mb : Nat) (v : Rp → Value) (s : Sx), Q.K = K → QSt w B Q sb mb v s → (method 368 K.tid (.pointer (some ⟨Q.top mb, 0, none⟩)) "Lock").run Tryz.prog w = .ok (174, .pointer (some ⟨mb, 0, none⟩)) w
  mUnlock : ∀ (a : Addr) (w : World), (method 368 K.tid (.pointer (some a)) "Unlock").run Tryz.prog w = .ok (K.unlock, .pointer (some a)) w
  cUnlock : ∀ (xs : Array Value) (w : World), (callFunc K.unlock xs).run Tryz.prog w = .ok (.enter K.unlock xs) w
  mWaiting : ∀ (a : Addr) (w : World), (method 368 K.tid (.pointer (some a)) "Waiting").run Tryz.prog w = .ok (K.waiting, .pointer (some a)) w
  cWaiting : ∀ (xs : Array Value) (w : World), (callFunc K.waiting xs).run Tryz.prog w = .ok (.enter K.waiting xs) w
  mFinish : ∀ (a : Addr) (w : World), (method 368 K.tid (.pointer (some a)) "Finish").run Tryz.prog w = .ok (K.finish, .pointer (some a)) w
  cFinish : ∀ (xs : Array Value) (w : World), (callFunc K.finish xs).run Tryz.prog w = .ok (.enter K.finish xs) w
  mWords : ∀ (w : World) (B : Nat) (Q : Cd) (sb mb : Nat) (v : Rp → Value) (s : Sx), Q.K = K → QSt w B Q sb mb v s → (method 368 K.tid (.pointer (some ⟨Q.top mb, 0, none⟩)) "Words").run Tryz.prog w = .ok (180, .pointer (some ⟨mb, 0, none⟩)) w
  able : ∀ (w : World) (B : Nat) (Q : Cd) (sb mb : Nat) (v : Rp → Value) (s : Sx) (t : Nat) (op a b c : Int), Q.K = K → MPre w B Q sb mb v s t → (op = 17 → 0 ≤ a ∧ a < (s.own.length : Int)) →
    Calls Tryz.prog K.able #[.pointer (some ⟨Q.top mb, 0, none⟩), .int .i64 t, ints4 op a b c] w fun e w' => e = .returned (.bool (ableO s.own (thOf s t).wait.length op a)) ∧ Below w.heap.size w w'
  load : ∀ (w : World) (B : Nat) (Q : Cd) (sb mb : Nat) (v : Rp → Value) (s : Sx) (t x : Nat), Q.K = K → MPre w B Q sb mb v s t → x < s.words.length →
    Calls Tryz.prog K.load #[.pointer (some ⟨Q.top mb, 0, none⟩), .int .i64 t, .int .i64 x] w fun e w' => e = .returned (.int .i64 (findsW s t x)) ∧ Below w.heap.size w w'
  store : ∀ (w : World) (B : Nat) (Q : Cd) (sb mb : Nat) (v : Rp → Value) (s : Sx) (t x : Nat) (y : Int), Q.K = K → MPre w B Q sb mb v s t → x < s.words.length → (thOf s t).wait.length < 3 →
    Calls Tryz.prog K.store #[.pointer (some ⟨Q.top mb, 0, none⟩), .int .i64 t, .int .i64 x, .int .i64 y] w (ChgQ B Q sb mb v w (storeW K.mode s t ⟨false, x, y⟩) (.tuple #[]))
  unlockY : ∀ (w : World) (B : Nat) (Q : Cd) (sb mb : Nat) (v : Rp → Value) (s : Sx) (t x : Nat), Q.K = K → MPre w B Q sb mb v s t → x < s.own.length → (thOf s t).wait.length < 3 → s.own.getD x 0 = t → ((thOf s t).wait.any fun z => z.lk && decide (z.wh = x)) = false →
    Calls Tryz.prog K.unlock #[.pointer (some ⟨Q.top mb, 0, none⟩), .int .i64 t, .int .i64 x] w (ChgQ B Q sb mb v w (storeW K.mode s t ⟨true, x, 0⟩) (.bool true))
  unlockN : ∀ (w : World) (B : Nat) (Q : Cd) (sb mb : Nat) (v : Rp → Value) (s : Sx) (t x : Nat), Q.K = K → MPre w B Q sb mb v s t → x < s.own.length → (¬ s.own.getD x 0 = t ∨ ((thOf s t).wait.any fun z => z.lk && decide (z.wh = x)) = true) →
    Calls Tryz.prog K.unlock #[.pointer (some ⟨Q.top mb, 0, none⟩), .int .i64 t, .int .i64 x] w fun e w' => e = .returned (.bool false) ∧ Below w.heap.size w w'
  finish : ∀ (w : World) (B : Nat) (Q : Cd) (sb mb : Nat) (v : Rp → Value) (s : Sx) (X : Nat → Nat → Nat → Int) (t k : Nat), Q.K = K → MPre w B Q sb mb v s t → (∀ x, x ∈ (thOf s t).wait → x.lk = true → s.own.getD x.wh.toNat 0 = (t : Int)) → k < (thOf s t).wait.length → mayW K.mode (thOf s t).wait k = true →
    Calls Tryz.prog K.finish #[.pointer (some ⟨Q.top mb, 0, none⟩), .int .i64 t, .int .i64 k] w (ChgQ B Q sb mb v w (doX X K.mode s (8 * t + k + 1)) (.tuple #[]))
  waiting : ∀ (w : World) (B : Nat) (Q : Cd) (sb mb : Nat) (v : Rp → Value) (s : Sx) (t fid : Nat) (caps : Array Value) (I : Nat → World → Prop), Q.K = K → (∀ (xs : Array Value) (w : World), (callFunc fid xs).run Tryz.prog w = .ok (.enter fid xs) w) → (∀ j W, I j W → MPre W B Q sb mb v s t) → (∀ j W k, I j W → I j (W.drewN k)) → I 0 w →
    (∀ j W, j < (placesW K.mode (thOf s t).wait).length → I j W → Calls Tryz.prog fid (#[.int .i64 ((placesW K.mode (thOf s t).wait).getD j 0 : Nat)] ++ caps) W fun e W' => e = .returned (.tuple #[]) ∧ I (j + 1) W') →
    Calls Tryz.prog K.waiting #[.pointer (some ⟨Q.top mb, 0, none⟩), .int .i64 t, .func (.func fid) #[] caps] w fun e w' => e = .returned (.tuple #[]) ∧ I (placesW K.mode (thOf s t).wait).length w'
end

end Go.Proofs.YtipdnfpomdcenabGreatDoor
