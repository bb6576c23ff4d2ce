/-
  The state of a run of the document as it lies in memory, with all its rows; what a store and an append make of it.
-/
import Derived.Test.YtkailbdjilkneaaDoorAppB
import Derived.Test.YtkailbdjilkneaaDoorOrder
import Derived.Test.YtkailbdjilkneaaDoorFam
namespace Go.Proofs.YtkailbdjilkneaaDoor
open Go.RowKit

/-- The rows of a state. -/
inductive Rl where
  | box
  | thr
  | words
  | own
  | prints
  | regs (t : Nat)
  | wait (t : Nat)
deriving DecidableEq

def rTy : Rl → TypeId
  | .box => 138
  | .thr => 191
  | .wait _ => 199
  | _ => 3
def rSz : Rl → Nat
  | .box => 10
  | .thr => 3
  | .wait _ => 3
  | _ => 1
def rN (s : Sx) : Rl → Nat
  | .box => 1
  | .thr => s.ths.length
  | .words => s.words.length
  | .own => s.own.length
  | .prints => s.prints.length
  | .regs t => (thOf s t).regs.length
  | .wait t => (thOf s t).wait.length
/-- A program as a value, and the mode. -/
structure Pg where
  ca : Option Addr
  n : Nat
  cc : Nat
  wa : Option Addr
  m : Nat
  wc : Nat
  lk : Int
  rg : Int
  mode : Int
def waitC (x : Wt) (j : Nat) : Value := if j = 0 then .bool x.lk else if j = 1 then .int .i64 x.wh else .int .i64 x.what
def waitV (l : List Wt) : List Value := rows3 l.length fun i j => waitC (l.getD i default) j
def thrC (v : Rl → Value) (s : Sx) (t j : Nat) : Value := if j = 0 then .int .i64 (thOf s t).pc else if j = 1 then v (.regs t) else v (.wait t)
def rX (P : Pg) (v : Rl → Value) (s : Sx) : Rl → List Value
  | .box => [.slice P.ca P.n P.cc, .slice P.wa P.m P.wc, .int .i64 P.lk, .int .i64 P.rg, .int .i64 P.mode, v .thr, v .words, v .own, v .prints, .bool s.fell]
  | .thr => rows3 s.ths.length (thrC v s)
  | .words => intsV s.words
  | .own => intsV s.own
  | .prints => intsV s.prints
  | .regs t => intsV (thOf s t).regs
  | .wait t => waitV (thOf s t).wait

structure DSt (w : World) (B : Nat) (P : Pg) (sb : Nat) (v : Rl → Value) (s : Sx) : Prop where
  fam : Fam w B rTy rSz v (rN s) (rX P v s)
  box : v .box = boxV sb

theorem thOf_set {s : Sx} {t : Nat} (ht : t < s.ths.length) (x : Th) (u : Nat) : thOf (setTh s t x) u = if u = t then x else thOf s u := by
  unfold thOf setTh
  simp only [List.getD, List.getElem?_set]
  by_cases h : u = t
  · subst h; simp [ht]
  · rw [if_neg (fun e => h e.symm), if_neg h]

section
variable {w w1 : World} {B : Nat} {P : Pg} {sb : Nat} {v : Rl → Value} {s : Sx}

theorem DSt.below (h : DSt w B P sb v s) (hb : Below w.heap.size w w1) : DSt w1 B P sb v s := ⟨h.fam.below hb, h.box⟩
theorem DSt.bblk (h : DSt w B P sb v s) : (v .box).ownBlock = some sb := by rw [h.box]; rfl
theorem DSt.c0 (h : DSt w B P sb v s) : w.cell? ⟨sb, 0, none⟩ = some (.slice P.ca P.n P.cc) := h.fam.cell h.bblk rfl
theorem DSt.c4 (h : DSt w B P sb v s) : w.cell? ⟨sb, 4, none⟩ = some (.int .i64 P.mode) := h.fam.cell h.bblk rfl
theorem DSt.c5 (h : DSt w B P sb v s) : w.cell? ⟨sb, 5, none⟩ = some (v .thr) := h.fam.cell h.bblk rfl
theorem DSt.c6 (h : DSt w B P sb v s) : w.cell? ⟨sb, 6, none⟩ = some (v .words) := h.fam.cell h.bblk rfl
theorem DSt.c7 (h : DSt w B P sb v s) : w.cell? ⟨sb, 7, none⟩ = some (v .own) := h.fam.cell h.bblk rfl
theorem DSt.c8 (h : DSt w B P sb v s) : w.cell? ⟨sb, 8, none⟩ = some (v .prints) := h.fam.cell h.bblk rfl
theorem DSt.c9 (h : DSt w B P sb v s) : w.cell? ⟨sb, 9, none⟩ = some (.bool s.fell) := h.fam.cell h.bblk rfl
theorem DSt.thrB (h : DSt w B P sb v s) (hn : 0 < s.ths.length) : ∃ tb tc, v .thr = .slice (some ⟨tb, 0, none⟩) s.ths.length tc ∧ (v .thr).ownBlock = some tb ∧ tb < w.heap.size := by
  obtain ⟨g, c, h1, h2, _, h4⟩ := fam_block (h.fam.own .thr) (by exact hn)
  exact ⟨g, c, h1, h2, h4⟩
theorem DSt.wordsV (h : DSt w B P sb v s) : ∃ a c, v .words = .slice a s.words.length c := fam_form (h.fam.own .words)
theorem DSt.ownV (h : DSt w B P sb v s) : ∃ a c, v .own = .slice a s.own.length c := fam_form (h.fam.own .own)
theorem DSt.printsV (h : DSt w B P sb v s) : ∃ a c, v .prints = .slice a s.prints.length c := fam_form (h.fam.own .prints)
theorem DSt.waitV (h : DSt w B P sb v s) (t : Nat) : ∃ a c, v (.wait t) = .slice a (thOf s t).wait.length c := fam_form (h.fam.own (.wait t))
theorem DSt.regsV (h : DSt w B P sb v s) (t : Nat) : ∃ a c, v (.regs t) = .slice a (thOf s t).regs.length c := fam_form (h.fam.own (.regs t))
theorem DSt.regsB (h : DSt w B P sb v s) {t : Nat} (hn : 0 < (thOf s t).regs.length) : ∃ rb rc, v (.regs t) = .slice (some ⟨rb, 0, none⟩) (thOf s t).regs.length rc ∧ (v (.regs t)).ownBlock = some rb ∧ rb < w.heap.size := by
  obtain ⟨g, c, h1, h2, _, h4⟩ := fam_block (h.fam.own (.regs t)) (by exact hn)
  exact ⟨g, c, h1, h2, h4⟩
theorem DSt.wordsB (h : DSt w B P sb v s) (hn : 0 < s.words.length) : ∃ rb rc, v .words = .slice (some ⟨rb, 0, none⟩) s.words.length rc ∧ (v .words).ownBlock = some rb ∧ rb < w.heap.size := by
  obtain ⟨g, c, h1, h2, _, h4⟩ := fam_block (h.fam.own .words) (by exact hn)
  exact ⟨g, c, h1, h2, h4⟩
theorem DSt.ownB (h : DSt w B P sb v s) (hn : 0 < s.own.length) : ∃ rb rc, v .own = .slice (some ⟨rb, 0, none⟩) s.own.length rc ∧ (v .own).ownBlock = some rb ∧ rb < w.heap.size := by
  obtain ⟨g, c, h1, h2, _, h4⟩ := fam_block (h.fam.own .own) (by exact hn)
  exact ⟨g, c, h1, h2, h4⟩
theorem DSt.waitB (h : DSt w B P sb v s) {t : Nat} (hn : 0 < (thOf s t).wait.length) : ∃ rb rc, v (.wait t) = .slice (some ⟨rb, 0, none⟩) (thOf s t).wait.length rc ∧ (v (.wait t)).ownBlock = some rb ∧ rb < w.heap.size := by
  obtain ⟨g, c, h1, h2, _, h4⟩ := fam_block (h.fam.own (.wait t)) (by exact hn)
  exact ⟨g, c, h1, h2, h4⟩
theorem DSt.pc (h : DSt w B P sb v s) {tb t : Nat} (e : (v .thr).ownBlock = some tb) (ht : t < s.ths.length) : w.cell? ⟨tb, t * 3, none⟩ = some (.int .i64 (thOf s t).pc) := h.fam.cell e (rows3_get (j := 0) ht (by omega))
theorem DSt.regs (h : DSt w B P sb v s) {tb t : Nat} (e : (v .thr).ownBlock = some tb) (ht : t < s.ths.length) : w.cell? ⟨tb, t * 3 + 1, none⟩ = some (v (.regs t)) := h.fam.cell e (rows3_get (j := 1) ht (by omega))
theorem DSt.wait (h : DSt w B P sb v s) {tb t : Nat} (e : (v .thr).ownBlock = some tb) (ht : t < s.ths.length) : w.cell? ⟨tb, t * 3 + 2, none⟩ = some (v (.wait t)) := h.fam.cell e (rows3_get (j := 2) ht (by omega))
theorem DSt.reg (h : DSt w B P sb v s) {rb t r : Nat} (e : (v (.regs t)).ownBlock = some rb) (hr : r < (thOf s t).regs.length) : w.cell? ⟨rb, r, none⟩ = some (.int .i64 (getR s t r)) := by
  refine (h.fam.cell e (intsV_at hr)).trans ?_
  simp [getR]
theorem DSt.word (h : DSt w B P sb v s) {rb r : Nat} (e : (v .words).ownBlock = some rb) (hr : r < s.words.length) : w.cell? ⟨rb, r, none⟩ = some (.int .i64 (s.words.getD r 0)) := h.fam.cell e (intsV_at hr)
theorem DSt.owner (h : DSt w B P sb v s) {rb r : Nat} (e : (v .own).ownBlock = some rb) (hr : r < s.own.length) : w.cell? ⟨rb, r, none⟩ = some (.int .i64 (s.own.getD r 0)) := h.fam.cell e (intsV_at hr)
theorem DSt.sin (h : DSt w B P sb v s) {tb tc : Nat} (e : v .thr = .slice (some ⟨tb, 0, none⟩) s.ths.length tc) : SIn w sb P.ca P.n P.cc P.mode tb tc (fun t => v (.regs t)) (fun t => v (.wait t)) (v .words) (v .own) (v .prints) s :=
  ⟨h.c0, h.c4, by rw [← e]; exact h.c5, h.c6, h.c7, h.c8, h.c9, fun _ ht => h.pc (by rw [e]; rfl) ht, fun _ ht => h.regs (by rw [e]; rfl) ht, fun _ ht => h.wait (by rw [e]; rfl) ht⟩

theorem ths_set (s : Sx) (t : Nat) (x : Th) : (setTh s t x).ths.length = s.ths.length := by simp [setTh]
theorem rN_setTh {t : Nat} (ht : t < s.ths.length) {x : Th} (hr : x.regs.length = (thOf s t).regs.length) (hw : x.wait.length = (thOf s t).wait.length) : ∀ q, rN (setTh s t x) q = rN s q
  | .box => rfl
  | .thr => ths_set _ _ _
  | .words => rfl
  | .own => rfl
  | .prints => rfl
  | .regs u => by
    show (thOf (setTh s t x) u).regs.length = (thOf s u).regs.length
    rw [thOf_set ht]
    split
    · rename_i h; rw [h]; exact hr
    · rfl
  | .wait u => by
    show (thOf (setTh s t x) u).wait.length = (thOf s u).wait.length
    rw [thOf_set ht]
    split
    · rename_i h; rw [h]; exact hw
    · rfl
/-- What a change of a thread leaves as it was. -/
theorem rX_setTh {t : Nat} (ht : t < s.ths.length) {x : Th} : (∀ q, q ≠ .thr → (q = .regs t → x.regs = (thOf s t).regs) → (q = .wait t → x.wait = (thOf s t).wait) → rX P v (setTh s t x) q = rX P v s q)
  | .box, _, _, _ => rfl
  | .thr, h, _, _ => absurd rfl h
  | .words, _, _, _ => rfl
  | .own, _, _, _ => rfl
  | .prints, _, _, _ => rfl
  | .regs u, _, h, _ => by
    show intsV (thOf (setTh s t x) u).regs = intsV (thOf s u).regs
    rw [thOf_set ht]
    split
    · rename_i e; subst e; rw [h rfl]
    · rfl
  | .wait u, _, _, h => by
    show Go.Proofs.YtkailbdjilkneaaDoor.waitV (thOf (setTh s t x) u).wait = Go.Proofs.YtkailbdjilkneaaDoor.waitV (thOf s u).wait
    rw [thOf_set ht]
    split
    · rename_i e; subst e; rw [h rfl]
    · rfl
/-- A change of a thread that keeps its place leaves the row of threads as it was. -/
theorem rX_thr {t : Nat} (ht : t < s.ths.length) {x : Th} (hp : x.pc = (thOf s t).pc) : rX P v (setTh s t x) .thr = rX P v s .thr := by
  show rows3 (setTh s t x).ths.length (thrC v (setTh s t x)) = rows3 s.ths.length (thrC v s)
  rw [ths_set]
  refine rows3_congr fun a b _ => ?_
  unfold thrC
  rw [thOf_set ht]
  by_cases h1 : a = t
  · subst h1; rw [if_pos rfl, hp]
  · rw [if_neg h1]

/-- A thread's place. -/
theorem DSt.setPc (h : DSt w B P sb v s) {tb t : Nat} (e : (v .thr).ownBlock = some tb) (ht : t < s.ths.length) (k : Nat) : DSt (w.setCell ⟨tb, t * 3, none⟩ (.int .i64 k)) B P sb v (setTh s t { thOf s t with pc := k }) := by
  refine ⟨h.fam.put (r := .thr) e (t * 3) _ (rN_setTh ht rfl rfl) ?_ (fun q hq => rX_setTh ht q hq (fun _ => rfl) (fun _ => rfl)), h.box⟩
  show rows3 (setTh s t _).ths.length (thrC v (setTh s t _)) = (rows3 s.ths.length (thrC v s)).set (t * 3 + 0) _
  rw [ths_set]
  refine rows3_set (by omega) ?_ ?_
  · simp [thrC, thOf_set ht]
  · intro a b _ hab
    simp only [thrC, thOf_set ht]
    by_cases h1 : a = t
    · subst h1
      have : b ≠ 0 := fun e => hab ⟨rfl, e⟩
      simp [this]
    · simp [h1]
/-- A register. -/
theorem DSt.setReg (h : DSt w B P sb v s) {rb t : Nat} (e : (v (.regs t)).ownBlock = some rb) (ht : t < s.ths.length) (r : Nat) (x : Int) : DSt (w.setCell ⟨rb, r, none⟩ (.int .i64 x)) B P sb v (setR s t r x) := by
  refine ⟨h.fam.put (r := .regs t) e r _ (rN_setTh ht (by simp) rfl) ?_ (fun q hq => ?_), h.box⟩
  · show intsV (thOf (setR s t r x) t).regs = (intsV (thOf s t).regs).set r _
    rw [setR, thOf_set ht, if_pos rfl, intsV_set]
    simp
  · by_cases h1 : q = .thr
    · subst h1; exact rX_thr ht rfl
    · exact rX_setTh ht q h1 (fun e => absurd e hq) (fun _ => rfl)
/-- A word. -/
theorem DSt.setWord (h : DSt w B P sb v s) {rb : Nat} (e : (v .words).ownBlock = some rb) (r : Nat) (x : Int) : DSt (w.setCell ⟨rb, r, none⟩ (.int .i64 x)) B P sb v { s with words := s.words.set r x } := by
  refine ⟨h.fam.put (r := .words) e r _ (fun q => ?_) ?_ (fun q hq => ?_), h.box⟩
  · cases q <;> first | rfl | simp [rN]
  · exact intsV_set _ _ _
  · cases q <;> first | rfl | exact absurd rfl hq
/-- A lock. -/
theorem DSt.setOwn (h : DSt w B P sb v s) {rb : Nat} (e : (v .own).ownBlock = some rb) (r : Nat) (x : Int) : DSt (w.setCell ⟨rb, r, none⟩ (.int .i64 x)) B P sb v { s with own := s.own.set r x } := by
  refine ⟨h.fam.put (r := .own) e r _ (fun q => ?_) ?_ (fun q hq => ?_), h.box⟩
  · cases q <;> first | rfl | simp [rN]
  · exact intsV_set _ _ _
  · cases q <;> first | rfl | exact absurd rfl hq
/-- The run falls. -/
theorem DSt.fall (h : DSt w B P sb v s) : DSt (w.setCell ⟨sb, 9, none⟩ (.bool true)) B P sb v (fallX s) := by
  refine ⟨h.fam.put (r := .box) h.bblk 9 _ (fun q => ?_) rfl (fun q hq => ?_), h.box⟩
  · cases q <;> rfl
  · cases q <;> first | rfl | exact absurd rfl hq
/-- A print. -/
theorem DSt.print (h : DSt w B P sb v s) {g c H : Nat} {a b : Int} (hown : w1.ownsRow B 3 1 (.slice (some ⟨g, 0, none⟩) (s.prints.length + 2) c) (s.prints.length + 2) (intsV s.prints ++ [.int .i64 a, .int .i64 b])) (hgrow : w.grownBy w1 (v .prints).ownBlock) (hat : (v .prints).ownBlock = some g ∨ g = H) (hH : w.heap.size ≤ H) :
    DSt (w1.setCell ⟨sb, 8, none⟩ (.slice (some ⟨g, 0, none⟩) (s.prints.length + 2) c)) B P sb (upd v .prints (.slice (some ⟨g, 0, none⟩) (s.prints.length + 2) c)) { s with prints := s.prints ++ [a, b] } := by
  obtain ⟨x, hx⟩ : ∃ x : Value, x = .slice (some ⟨g, 0, none⟩) (s.prints.length + 2) c := ⟨_, rfl⟩
  have h1 := h.fam.grow (r := .prints) (n1 := rN { s with prints := s.prints ++ [a, b] }) (xs1 := fun q => if q = .prints then intsV s.prints ++ [.int .i64 a, .int .i64 b] else rX P v s q) hown hgrow hat hH (by simp [rN]) (fun q hq => by cases q <;> first | rfl | exact absurd rfl hq) (if_pos rfl) (fun q hq => if_neg hq)
  rw [← hx] at h1 ⊢
  refine ⟨h1.put (r := .box) (by rw [upd_ne _ _ (by decide)]; exact h.bblk) 8 _ (fun q => rfl) ?_ (fun q hq => ?_), by rw [upd_ne _ _ (by decide)]; exact h.box⟩
  · rw [if_neg (by decide)]
    simp only [rX, upd_self]
    rw [upd_ne _ _ (by decide), upd_ne _ _ (by decide), upd_ne _ _ (by decide)]
    rfl
  · cases q with
    | box => exact absurd rfl hq
    | prints => rw [if_pos rfl]; simp [rX, intsV]
    | thr =>
      rw [if_neg (by decide)]
      refine rows3_congr fun a b _ => ?_
      unfold thrC
      rw [upd_ne _ _ (by simp), upd_ne _ _ (by simp)]
      rfl
    | words => rw [if_neg (by decide)]; rfl
    | own => rw [if_neg (by decide)]; rfl
    | regs u => rw [if_neg (by simp)]; rfl
    | wait u => rw [if_neg (by simp)]; rfl
theorem waitV_snoc (l : List Wt) (x : Wt) : Go.Proofs.YtkailbdjilkneaaDoor.waitV (l ++ [x]) = Go.Proofs.YtkailbdjilkneaaDoor.waitV l ++ [.bool x.lk, .int .i64 x.wh, .int .i64 x.what] := by
  unfold Go.Proofs.YtkailbdjilkneaaDoor.waitV
  rw [List.length_append, List.length_singleton, rows3_snoc]
  congr 1
  · refine rows3_congr fun t j ht => ?_
    congr 1
    simp [List.getD, List.getElem?_append_left ht]
  · simp [waitC, List.getD]
/-- The row of a thread's waiting is another one. -/
theorem DSt.newWait (h : DSt w B P sb v s) {tb t : Nat} (e : (v .thr).ownBlock = some tb) (ht : t < s.ths.length) {g c H : Nat} {l : List Wt} (hown : w1.ownsRow B 199 3 (.slice (some ⟨g, 0, none⟩) l.length c) l.length (Go.Proofs.YtkailbdjilkneaaDoor.waitV l)) (hgrow : w.grownBy w1 (v (.wait t)).ownBlock) (hat : (v (.wait t)).ownBlock = some g ∨ g = H) (hH : w.heap.size ≤ H) :
    DSt (w1.setCell ⟨tb, t * 3 + 2, none⟩ (.slice (some ⟨g, 0, none⟩) l.length c)) B P sb (upd v (.wait t) (.slice (some ⟨g, 0, none⟩) l.length c)) (setTh s t { thOf s t with wait := l }) := by
  obtain ⟨x, hx⟩ : ∃ x : Value, x = .slice (some ⟨g, 0, none⟩) l.length c := ⟨_, rfl⟩
  have hnn : ∀ q, q ≠ .wait t → rN (setTh s t { thOf s t with wait := l }) q = rN s q := fun q hq => by
    cases q with
    | thr => exact ths_set _ _ _
    | regs u =>
      show (thOf (setTh s t _) u).regs.length = (thOf s u).regs.length
      rw [thOf_set ht]
      split
      · rename_i h; rw [h]
      · rfl
    | wait u =>
      show (thOf (setTh s t _) u).wait.length = (thOf s u).wait.length
      rw [thOf_set ht, if_neg (fun e => hq (by rw [e]))]
    | box => rfl
    | words => rfl
    | own => rfl
    | prints => rfl
  have h1 := h.fam.grow (r := .wait t) (n1 := rN (setTh s t { thOf s t with wait := l })) (xs1 := fun q => if q = .wait t then Go.Proofs.YtkailbdjilkneaaDoor.waitV l else rX P v s q) hown hgrow hat hH (by show (thOf (setTh s t _) t).wait.length = _; rw [thOf_set ht, if_pos rfl]) hnn (if_pos rfl) (fun q hq => if_neg hq)
  rw [← hx] at h1 ⊢
  refine ⟨h1.put (r := .thr) (by rw [upd_ne _ _ (by simp)]; exact e) (t * 3 + 2) _ (fun q => rfl) ?_ (fun q hq => ?_), by rw [upd_ne _ _ (by simp)]; exact h.box⟩
  · rw [if_neg (by simp)]
    show rows3 (setTh s t _).ths.length (thrC _ (setTh s t _)) = (rows3 s.ths.length (thrC v s)).set (t * 3 + 2) _
    rw [ths_set]
    refine rows3_set (by omega) ?_ ?_
    · simp [thrC, upd_self]
    · intro a b hb3 hab
      simp only [thrC, thOf_set ht]
      rw [upd_ne _ _ (by simp)]
      by_cases h1 : a = t
      · subst h1
        rw [if_pos rfl]
        by_cases hb : b = 0
        · rw [if_pos hb, if_pos hb]
        · by_cases hb1 : b = 1
          · rw [if_neg hb, if_neg hb, if_pos hb1, if_pos hb1]
          · exact absurd ⟨rfl, by omega⟩ hab
      · rw [if_neg h1, upd_ne _ _ (by simpa using h1)]
  · cases q with
    | thr => exact absurd rfl hq
    | wait u =>
      show Go.Proofs.YtkailbdjilkneaaDoor.waitV (thOf (setTh s t _) u).wait = _
      rw [thOf_set ht]
      by_cases hu : u = t
      · rw [if_pos hu, if_pos (by rw [hu])]
      · rw [if_neg hu, if_neg (by simpa using hu)]; rfl
    | box => 
      rw [if_neg (by simp)]
      simp only [rX]
      rw [upd_ne _ _ (by simp), upd_ne _ _ (by simp), upd_ne _ _ (by simp), upd_ne _ _ (by simp)]
      rfl
    | prints => rw [if_neg (by simp)]; rfl
    | words => rw [if_neg (by simp)]; rfl
    | own => rw [if_neg (by simp)]; rfl
    | regs u =>
      rw [if_neg (by simp)]
      show intsV (thOf (setTh s t _) u).regs = intsV (thOf s u).regs
      rw [thOf_set ht]
      split
      · rename_i h; rw [h]
      · rfl
end

end Go.Proofs.YtkailbdjilkneaaDoor
