/-
  What an order makes of its thread, parted from what it does to words, locks and prints: plain functions.
  Copies of memories, as the program's state holds them.
  A copy of a state of the program.
-/
import Derived.Test.YtipdnfpomdcenacGreatDoorReachP
import Derived.Test.YtipdnfpomdcenacGreatDoorBox
namespace Go.Proofs.YtipdnfpomdcenacGreatDoor
section
open Go.RowKit

/-- What an order does besides to its thread's registers and place. -/
inductive Ak where
  | no
  | put (a v : Int)
  | free (a : Int)
  | take (a : Int)
  | swap (a v : Int)
  | say (v : Int)
deriving DecidableEq, Inhabited
/-- What an order makes of a thread that stands behind it: none: the run falls. rd: what it finds in a word; fr: may it free a lock? -/
def effX (pc : Nat) (rs : List Int) (rd : Int → Int) (fr : Int → Bool) (m : Nat) (op a b c : Int) : Option (Nat × List Int × Ak) :=
  let g : Int → Int := fun r => rs.getD r.toNat 0
  if op = 1 then some (pc, rs.set a.toNat b, .no)
  else if op = 2 then some (pc, rs.set a.toNat (g b), .no)
  else if op = 3 then some (pc, rs.set a.toNat (IntKind.i64.wrap (g b + g c)), .no)
  else if op = 4 then some (pc, rs.set a.toNat (IntKind.i64.wrap (g b - g c)), .no)
  else if op = 5 then some (pc, rs.set a.toNat (IntKind.i64.wrap (g b * g c)), .no)
  else if op = 6 then some (pc, rs.set a.toNat (bitI (decide (g b < g c))), .no)
  else if op = 7 then some (pc, rs.set a.toNat (bitI (decide (g b = g c))), .no)
  else if op = 8 then some (pc, rs.set a.toNat (rd b), .no)
  else if op = 9 then some (pc, rs, .put a (g b))
  else if op = 10 then (if g b < 0 ∨ (m : Int) ≤ g b then none else some (pc, rs.set a.toNat (rd (g b)), .no))
  else if op = 11 then (if g a < 0 ∨ (m : Int) ≤ g a then none else some (pc, rs, .put (g a) (g b)))
  else if op = 13 then (if rd a = g b then some (pc, rs.set b.toNat 1, .swap a (g c)) else some (pc, rs.set b.toNat 0, .no))
  else if op = 14 then some (a.toNat, rs, .no)
  else if op = 15 then (if g a = 0 then some (b.toNat, rs, .no) else some (pc, rs, .no))
  else if op = 16 then some (pc, rs, .say (g a))
  else if op = 17 then some (pc, rs, .take a)
  else if op = 18 then (if fr a then some (pc, rs, .free a) else none)
  else some (pc, rs, .no)
/-- A thread may free a lock: it has it, and has not freed it yet. -/
def freesW (s : Sx) (t : Nat) (a : Int) : Bool := decide (s.own.getD a.toNat 0 = (t : Int)) && !((thOf s t).wait.any fun x => x.lk && decide (x.wh = a))
def actX (mode : Int) (s : Sx) (t : Nat) : Ak → Sx
  | .no => s
  | .put a v => storeW mode s t ⟨false, a, v⟩
  | .free a => storeW mode s t ⟨true, a, 0⟩
  | .take a => { s with own := s.own.set a.toNat t }
  | .swap a v => { s with words := s.words.set a.toNat v }
  | .say v => { s with prints := s.prints ++ [(t : Int), v] }
/-- What an order makes of a state, by what it makes of its thread. -/
def effS (mode : Int) (s : Sx) (t : Nat) : Option (Nat × List Int × Ak) → Sx
  | none => fallX (setTh s t { thOf s t with pc := (thOf s t).pc + 1 })
  | some (p, r, k) => actX mode (setTh s t ⟨p, r, (thOf s t).wait⟩) t k
def effT (X : Nat → Nat → Nat → Int) (s : Sx) (t : Nat) : Option (Nat × List Int × Ak) :=
  effX ((thOf s t).pc + 1) (thOf s t).regs (findsW s t) (freesW s t) s.words.length (opT X s t 0) (opT X s t 1) (opT X s t 2) (opT X s t 3)
theorem findsW_bare {s : Sx} {t : Nat} (h : (thOf s t).wait = []) (wd : Int) : findsW s t wd = s.words.getD wd.toNat 0 := by
  unfold findsW; rw [h]; rfl
theorem do_ord {X : Nat → Nat → Nat → Int} {mode : Int} {s : Sx} {t : Nat} : doX X mode s (8 * t) = orderX mode (setTh s t { thOf s t with pc := (thOf s t).pc + 1 }) t (opT X s t 0) (opT X s t 1) (opT X s t 2) (opT X s t 3) := by
  unfold doX
  simp only [show 8 * t / 8 = t by omega, show 8 * t % 8 = 0 by omega]
  rw [if_neg (by omega)]
  rfl
theorem do_eff {X : Nat → Nat → Nat → Int} {mode : Int} {s : Sx} {t : Nat} (ht : t < s.ths.length) (h13 : opT X s t 0 = 13 → (thOf s t).wait = []) : doX X mode s (8 * t) = effS mode s t (effT X s t) := by
  rw [do_ord]
  unfold effT
  obtain ⟨op, hop⟩ : ∃ x, opT X s t 0 = x := ⟨_, rfl⟩
  obtain ⟨a, ha⟩ : ∃ x, opT X s t 1 = x := ⟨_, rfl⟩
  obtain ⟨b, hb⟩ : ∃ x, opT X s t 2 = x := ⟨_, rfl⟩
  obtain ⟨c, hc⟩ : ∃ x, opT X s t 3 = x := ⟨_, rfl⟩
  rw [hop] at h13
  rw [hop, ha, hb, hc]
  clear hop ha hb hc
  obtain ⟨p, hp⟩ : ∃ p, (thOf s t).pc + 1 = p := ⟨_, rfl⟩
  have e1 : thOf (setTh s t { thOf s t with pc := p }) t = { thOf s t with pc := p } := th_set ht _
  have e2 : ∀ x, setTh (setTh s t { thOf s t with pc := p }) t x = setTh s t x := fun x => set_set _ _ _ _
  have e3 : ∀ wd, findsW (setTh s t { thOf s t with pc := p }) t wd = findsW s t wd := fun wd => by
    unfold findsW; rw [e1]; rfl
  have e4 : ∀ r, getR (setTh s t { thOf s t with pc := p }) t r = (thOf s t).regs.getD r.toNat 0 := fun r => by
    unfold getR; rw [e1]
  have e5 : ∀ r v, setR (setTh s t { thOf s t with pc := p }) t r v = setTh s t ⟨p, (thOf s t).regs.set r.toNat v, (thOf s t).wait⟩ := fun r v => by
    unfold setR; rw [e2, e1]
  have e6 : ∀ x, storeW mode (setTh s t { thOf s t with pc := p }) t x = storeW mode (setTh s t ⟨p, (thOf s t).regs, (thOf s t).wait⟩) t x := fun x => rfl
  unfold orderX effX
  rw [hp]
  simp only [e4, e5, e3, e1, e2]
  have hw : (setTh s t { thOf s t with pc := p }).words = s.words := rfl
  have ho : (setTh s t { thOf s t with pc := p }).own = s.own := rfl
  have hq : (setTh s t { thOf s t with pc := p }).prints = s.prints := rfl
  rw [hw, ho, hq]
  have e7 : ∀ l r v, setR { setTh s t { thOf s t with pc := p } with words := l } t r v = { setTh s t ⟨p, (thOf s t).regs.set r.toNat v, (thOf s t).wait⟩ with words := l } := fun l r v => by
    have h : setR { setTh s t { thOf s t with pc := p } with words := l } t r v = { setR (setTh s t { thOf s t with pc := p }) t r v with words := l } := rfl
    rw [h, e5]
  clear hw ho hq e1 e2 e3 e4 e5 e6
  rcases op_cases op with h | rfl | rfl | rfl | rfl | rfl | rfl | rfl | rfl | rfl | rfl | rfl | rfl | rfl | rfl | rfl | rfl | rfl | rfl
  · repeat rw [if_neg (by omega)]
    rfl
  all_goals simp only [Int.reduceEq, ↓reduceIte]
  all_goals first
    | rfl
    | skip
  · split
    · show fallX _ = fallX _
      rw [hp]
    · rfl
  · split
    · show fallX _ = fallX _
      rw [hp]
    · rfl
  · rw [findsW_bare (h13 rfl)]
    split
    · exact e7 _ _ _
    · rfl
  · split <;> rfl
  · unfold freesW
    by_cases h1 : s.own.getD a.toNat 0 = (t : Int)
    · cases h2 : (thOf s t).wait.any fun x => x.lk && decide (x.wh = a)
      · rw [if_neg (fun h => h.elim (fun h => h h1) (fun h => Bool.noConfusion h))]
        simp only [h1, decide_true, Bool.not_false, Bool.and_self, ↓reduceIte]
        rfl
      · rw [if_pos (Or.inr rfl)]
        simp only [Bool.not_true, Bool.and_false, Bool.false_eq_true, ↓reduceIte]
        show fallX _ = fallX _
        rw [hp]
    · rw [if_pos (Or.inl h1)]
      simp only [h1, decide_false, Bool.false_and, Bool.false_eq_true, ↓reduceIte]
      show fallX _ = fallX _
      rw [hp]
end

section
open Go.RowKit

section
variable {ι : Type} [DecidableEq ι] {wr w1 : World} {B : Nat} {ty : ι → TypeId} {sz : ι → Nat} {u : ι → Value} {n n1 : ι → Nat} {xs xs1 : ι → List Value}
/-- A row is copied, and laid into a table. -/
theorem Fam.copied (F : Fam wr B ty sz u n xs) {r p : ι} {x : Value} {m g i : Nat} {ys : List Value} (hB : B ≤ wr.heap.size) (hrp : r ≠ p) (h0 : (u r).ownBlock = none) (hrow : w1.ownsRow wr.heap.size (ty r) (sz r) x m ys) (hb : Below wr.heap.size wr w1) (hp : (u p).ownBlock = some g)
    (hn : n1 r = m) (hx : xs1 r = ys) (hnn : ∀ q, q ≠ r → n1 q = n q) (hxp : xs1 p = (xs p).set i x) (hxx : ∀ q, q ≠ r → q ≠ p → xs1 q = xs q) : Fam (w1.setCell ⟨g, i, none⟩ x) B ty sz (upd u r x) n1 xs1 := by
  have F1 := F.below hb
  have far : ∀ q k, (u q).ownBlock = some k → x.ownBlock ≠ some k := fun q k hk e => by
    have h1 := F.lt hk
    have h2 := (hrow.lt k e).1
    omega
  have F2 : Fam w1 B ty sz (upd u r x) (upd n r m) (upd xs r ys) := by
    refine ⟨fun q => ?_, fun a b k ha hb' => ?_⟩
    · by_cases hq : q = r
      · subst hq
        rw [upd_self, upd_self, upd_self]
        exact own_low hrow hB
      · rw [upd_ne _ _ hq, upd_ne _ _ hq, upd_ne _ _ hq]
        exact F1.own q
    · by_cases h1 : a = r
      · by_cases h2 : b = r
        · rw [h1, h2]
        · subst h1
          rw [upd_self] at ha
          rw [upd_ne _ _ h2] at hb'
          exact absurd ha (far b k hb')
      · rw [upd_ne _ _ h1] at ha
        by_cases h2 : b = r
        · subst h2
          rw [upd_self] at hb'
          exact absurd hb' (far a k ha)
        · rw [upd_ne _ _ h2] at hb'
          exact F.apart a b k ha hb'
  refine F2.put (r := p) (by rw [upd_ne _ _ (fun e => hrp e.symm)]; exact hp) i x (fun q => ?_) ?_ (fun q hq => ?_)
  · by_cases h : q = r
    · subst h; rw [upd_self]; exact hn
    · rw [upd_ne _ _ h]; exact hnn q h
  · rw [upd_ne _ _ (fun e => hrp e.symm)]; exact hxp
  · by_cases h : q = r
    · subst h; rw [upd_self]; exact hx
    · rw [upd_ne _ _ h]; exact hxx q h hq
end
/-- The roles of a memory. -/
def Rp.isMem : Rp → Bool
  | .mem => true
  | .words => true
  | .own => true
  | .box => true
  | .bufs => true
  | .buf _ => true
  | _ => false
/-- A memory that has just been made: its rows. -/
structure MemC (w w' : World) (Q : Cd) (mb : Nat) (v : Rp → Value) (s : Sx) : Prop where
  own : ∀ r, r.isMem = true → w'.ownsRow w.heap.size (pTy Q.K r) (pSz r) (v r) (pN Q s r) (pX Q mb v s r)
  apart : ∀ r q g, r.isMem = true → q.isMem = true → (v r).ownBlock = some g → (v q).ownBlock = some g → r = q
  mem : v .mem = boxV mb
  box : Q.K.bf = true → v .box = boxV Q.bb
  below : Below w.heap.size w w'
/-- The rows of a plain memory. -/
def p1V (mb : Nat) (wv ov : Value) : Rp → Value
  | .mem => boxV mb
  | .words => wv
  | .own => ov
  | _ => nilV
theorem Mem1.c {w w' : World} {mb : Nat} {wv ov : Value} {s : Sx} (h : Mem1 w w' mb wv ov s.words s.own) {Q : Cd} (hK : Q.K = plainK) : MemC w w' Q mb (p1V mb wv ov) s := by
  have hbf : Q.K.bf = false := by rw [hK]; rfl
  refine ⟨fun r hr => ?_, fun r q k hr hq h1 h2 => ?_, rfl, (fun hb => by rw [hbf] at hb; cases hb), h.below⟩
  · cases r with
    | mem => exact fam_box (xs := [wv, ov]) h.lo h.box
    | words => exact h.wrow
    | own => exact h.orow
    | box => simp only [pN, pX, hbf]; exact World.ownsRow_nil _ _ _ _
    | bufs => simp only [pN, pX, hbf]; exact World.ownsRow_nil _ _ _ _
    | buf t => simp only [pN, pX, hbf]; exact World.ownsRow_nil _ _ _ _
    | _ => cases hr
  · have s3 : ∀ k, (nilV).ownBlock = some k → False := fun k e => by simp [Value.ownBlock] at e
    have s1 : (boxV mb).ownBlock = some k → k = mb := fun e => by simpa [Value.ownBlock] using e.symm
    have key : ∀ r, (p1V mb wv ov r).ownBlock = some k → (r = .mem ∧ k = mb) ∨ (r = .words ∧ wv.ownBlock = some k) ∨ (r = .own ∧ ov.ownBlock = some k) := fun r e => by
      cases r with
      | mem => exact .inl ⟨rfl, s1 e⟩
      | words => exact .inr (.inl ⟨rfl, e⟩)
      | own => exact .inr (.inr ⟨rfl, e⟩)
      | _ => exact (s3 _ e).elim
    have a1 := h.a1
    have a2 := h.a2
    have a3 := h.a3
    rcases key r h1 with ⟨rfl, e1⟩ | ⟨rfl, e1⟩ | ⟨rfl, e1⟩ <;> rcases key q h2 with ⟨rfl, e2⟩ | ⟨rfl, e2⟩ | ⟨rfl, e2⟩ <;> first | rfl | (subst e1; exact absurd e2 (by assumption)) | (subst e2; exact absurd e1 (by assumption)) | (exact absurd e2 (a3 _ e1)) | (exact absurd e1 (a3 _ e2))
/-- What must be known of a state that is copied. -/
structure KOk (Q : Cd) (s : Sx) : Prop where
  nt : Q.nt = s.ths.length
  n0 : 0 < s.ths.length
  n4 : s.ths.length ≤ 4
  rg0 : ∀ t, t < s.ths.length → 0 < (thOf s t).regs.length
  rg : ∀ t, t < s.ths.length → (thOf s t).regs.length ≤ 200
  wl : ∀ t, t < s.ths.length → (thOf s t).wait.length ≤ 3
  words : s.words.length ≤ 64
  own : s.own.length ≤ 4
  pr : s.prints.length ≤ 10000
def Cd.at (Q : Cd) (bb : Nat) : Cd := { Q with bb := bb }
/-- Copies of a kind of memory. -/
structure MClone (K : Mk) (cf : Nat) : Prop where
  mClone : ∀ (a : Addr) (w : World), (method 346 K.tid (.pointer (some a)) "Clone").run Tryz.prog w = .ok (cf, .pointer (some a)) w
  cClone : ∀ (xs : Array Value) (w : World), (callFunc cf xs).run Tryz.prog w = .ok (.enter cf xs) w
  clone : ∀ (w : World) (B : Nat) (Q : Cd) (sb mb : Nat) (v : Rp → Value) (s : Sx), Q.K = K → QSt w B Q sb mb v s → KOk Q s →
    Calls Tryz.prog cf #[.pointer (some ⟨Q.top mb, 0, none⟩)] w fun e w' => ∃ mb' bb' vm, e = .returned (.iface K.tid (.pointer (some ⟨(Q.at bb').top mb', 0, none⟩))) ∧ MemC w w' (Q.at bb') mb' vm s
set_option maxRecDepth 100000 in
set_option maxHeartbeats 1600000 in
theorem plain_clone : MClone plainK 150 where
  mClone a w := by kernel_rfl
  cClone xs w := by kernel_rfl
  clone w B Q sb mb v s hK hs ho := by
    rw [plain_top hK]
    have HC := Hid.out (p := Hid _) (pcopy_any w B Q sb mb v s hs ho.words ho.own)
    have HK : Hid (Q.K = plainK) := hK
    clear hs ho hK
    go_enter Tryz.func150, Tryz.ntmps150
    go_wp2_with fail
    refine Calls.mono HC.out ?_
    rintro e w1 ⟨mb', wv, ov, rfl, hM⟩
    have HM := Hid.out (p := Hid _) hM
    clear HC hM
    go_wp2_with fail
    go_ret
    refine ⟨mb', 0, p1V mb' wv ov, ?_, HM.out.c (Q := Q.at 0) HK.out⟩
    rw [plain_top (Q := Q.at 0) HK.out]
    rfl
end

section
open Go.RowKit

/-- What was copied of the first j threads. -/
def ctN (s : Sx) (j : Nat) : Rp → Nat
  | .thr => s.ths.length
  | .regs t => if t < j then (thOf s t).regs.length else 0
  | _ => 0
def ctC (Q : Cd) (v : Rp → Value) (s : Sx) (u : Rp → Value) (j t i : Nat) : Value := if i = 0 then .slice (Q.A t) (Q.L t) (Q.C t) else if i = 1 then .int .i64 (thOf s t).pc else if t < j then u (.regs t) else v (.regs t)
def ctX (Q : Cd) (v : Rp → Value) (s : Sx) (u : Rp → Value) (j : Nat) : Rp → List Value
  | .thr => rows3 s.ths.length (ctC Q v s u j)
  | .regs t => if t < j then intsV (thOf s t).regs else []
  | _ => []
structure ClT (w wr : World) (Q : Cd) (v : Rp → Value) (s : Sx) (u : Rp → Value) (j : Nat) : Prop where
  fam : Fam wr w.heap.size (pTy Q.K) pSz u (ctN s j) (ctX Q v s u j)
  nils : ∀ r, r ≠ .thr → (∀ t, t < j → r ≠ .regs t) → u r = nilV
  below : Below w.heap.size w wr
section
variable {w wr w1 : World} {B : Nat} {Q : Cd} {sb mb : Nat} {v u : Rp → Value} {s : Sx} {j : Nat}
theorem ClT.start {x : Value} (hx : wr.ownsRow w.heap.size (pTy Q.K .thr) 3 x s.ths.length (rows3 s.ths.length (pthC Q v s))) (hb : Below w.heap.size w wr) : ClT w wr Q v s (fun r => if r = .thr then x else nilV) 0 := by
  refine ⟨⟨fun r => ?_, fun r q g hr hq => ?_⟩, fun r hr _ => if_neg hr, hb⟩
  · cases r with
    | thr =>
      have e : ctX Q v s (fun r => if r = .thr then x else nilV) 0 .thr = rows3 s.ths.length (pthC Q v s) := by
        refine rows3_congr fun t i _ => ?_
        unfold ctC pthC
        simp
      rw [e]
      exact hx
    | regs t =>
      have e1 : ctN s 0 (.regs t) = 0 := by simp [ctN]
      have e2 : ctX Q v s (fun r => if r = .thr then x else nilV) 0 (.regs t) = [] := by simp [ctX]
      rw [e1, e2]
      exact World.ownsRow_nil _ _ _ _
    | _ => exact World.ownsRow_nil _ _ _ _
  · have key : ∀ y : Rp, ((if y = .thr then x else nilV : Value)).ownBlock = some g → y = .thr := fun y hy => by
      by_cases e : y = .thr
      · exact e
      · rw [if_neg e] at hy; simp [Value.ownBlock] at hy
    rw [key r hr, key q hq]
theorem ClT.next (h : ClT w wr Q v s u j) {g : Nat} (hg : (u .thr).ownBlock = some g) {x : Value} (hrow : w1.ownsRow wr.heap.size 3 1 x (thOf s j).regs.length (intsV (thOf s j).regs)) (hb : Below wr.heap.size wr w1) : ClT w (w1.setCell ⟨g, j * 3 + 2, none⟩ x) Q v s (upd u (.regs j) x) (j + 1) := by
  have h0 : u (.regs j) = nilV := h.nils _ (by simp) (fun t ht e => by injection e with e; omega)
  have hgl : w.heap.size ≤ g := h.fam.low _ g hg
  refine ⟨h.fam.copied (r := .regs j) (p := .thr) h.below.size (by simp) (by rw [h0]; rfl) hrow hb hg ?_ ?_ (fun q hq => ?_) ?_ (fun q h1 h2 => ?_), fun r h1 h2 => ?_, (h.below.trans (hb.mono h.below.size)).setCell hgl _⟩
  · show (if j < j + 1 then _ else 0) = _
    rw [if_pos (by omega)]
  · show (if j < j + 1 then _ else []) = _
    rw [if_pos (by omega)]
  · cases q with
    | regs t =>
      have hne : t ≠ j := fun e => hq (by rw [e])
      show (if t < j + 1 then _ else 0) = if t < j then _ else 0
      by_cases h3 : t < j
      · rw [if_pos h3, if_pos (by omega)]
      · rw [if_neg h3, if_neg (by omega)]
    | _ => rfl
  · refine rows3_set (by omega) ?_ ?_
    · unfold ctC
      rw [if_neg (by omega), if_neg (by omega), if_pos (by omega), upd_self]
    · intro a b hb3 hab
      unfold ctC
      by_cases h1 : b = 0
      · rw [if_pos h1, if_pos h1]
      · rw [if_neg h1, if_neg h1]
        by_cases h2 : b = 1
        · rw [if_pos h2, if_pos h2]
        · rw [if_neg h2, if_neg h2]
          have hne : a ≠ j := fun e => hab ⟨e, by omega⟩
          rw [upd_ne _ _ (by intro e; injection e with e; exact hne e)]
          by_cases h3 : a < j
          · rw [if_pos h3, if_pos (by omega)]
          · rw [if_neg h3, if_neg (by omega)]
  · cases q with
    | thr => exact absurd rfl h2
    | regs t =>
      have hne : t ≠ j := fun e => h1 (by rw [e])
      show (if t < j + 1 then _ else []) = if t < j then _ else []
      by_cases h3 : t < j
      · rw [if_pos h3, if_pos (by omega)]
      · rw [if_neg h3, if_neg (by omega)]
    | _ => rfl
  · rw [upd_ne _ _ (h2 j (by omega))]
    exact h.nils r h1 (fun t ht => h2 t (by omega))
end
theorem thOf_outR {s : Sx} {t : Nat} (h : s.ths.length ≤ t) : (thOf s t).regs = [] := by
  unfold thOf
  rw [List.getD_eq_getElem?_getD, List.getElem?_eq_none h]
  rfl
/-- The rows of a copied state. -/
def c1V (sb : Nat) (u vm : Rp → Value) (pv : Value) : Rp → Value
  | .st => boxV sb
  | .thr => u .thr
  | .regs t => u (.regs t)
  | .prints => pv
  | r => vm r
theorem c1V_mem {sb : Nat} {u vm : Rp → Value} {pv : Value} {r : Rp} (h : r.isMem = true) : c1V sb u vm pv r = vm r := by
  cases r <;> first | rfl | cases h
theorem ClT.c {w w2 w3 w4 : World} {Q : Cd} {v u vm : Rp → Value} {s : Sx} {mb bb : Nat} {pv : Value} (h : ClT w w2 Q v s u s.ths.length) (hM : MemC w2 w3 (Q.at bb) mb vm s) (hp : w4.ownsRow w3.heap.size 3 1 pv s.prints.length (intsV s.prints)) (hb : Below w3.heap.size w3 w4) :
    QSt (w4.alloc (.cells #[.iface Q.K.tid (.pointer (some ⟨(Q.at bb).top mb, 0, none⟩)), u .thr, pv] 83)) w.heap.size (Q.at bb) w4.heap.size mb (c1V w4.heap.size u vm pv) s := by
  have hz := h.below.size
  have h3 := hM.below.size
  have h4 := hb.size
  have hu : ∀ r k, (u r).ownBlock = some k → k < w2.heap.size := fun r k e => h.fam.lt e
  have hm : ∀ r, r.isMem = true → ∀ k, (vm r).ownBlock = some k → w2.heap.size ≤ k ∧ k < w3.heap.size := fun r hr k e => (hM.own r hr).lt k e
  have hpl : ∀ k, pv.ownBlock = some k → w3.heap.size ≤ k ∧ k < w4.heap.size := fun k e => hp.lt k e
  have keep : ∀ r, (w4.alloc (.cells #[.iface Q.K.tid (.pointer (some ⟨(Q.at bb).top mb, 0, none⟩)), u .thr, pv] 83)).ownsRow w.heap.size (pTy Q.K r) (pSz r) (u r) (ctN s s.ths.length r) (ctX Q v s u s.ths.length r) := fun r =>
    (fam_keeps (h.fam.own r) (fun g hg => (hb.block g (Nat.lt_of_lt_of_le (h.fam.lt hg) h3)).trans (hM.below.block g (h.fam.lt hg)))).alloc _
  refine ⟨⟨fun r => ?_, fun r q k h1 h2 => ?_⟩, rfl, ?_, fun hbf => ?_⟩
  · by_cases hr : r.isMem = true
    · have e1 : pX (Q.at bb) mb (c1V w4.heap.size u vm pv) s r = pX (Q.at bb) mb vm s r := by
        cases r <;> first | rfl | cases hr
      rw [e1, c1V_mem hr]
      exact (fam_keeps (own_low (hM.own r hr) hz) (fun g hg => hb.block g (hm r hr g hg).2)).alloc _
    · cases r with
      | st => exact fam_box (xs := [.iface Q.K.tid (.pointer (some ⟨(Q.at bb).top mb, 0, none⟩)), u .thr, pv]) (by omega) (heap_alloc_new _ _)
      | thr =>
        have e : pX (Q.at bb) mb (c1V w4.heap.size u vm pv) s .thr = ctX Q v s u s.ths.length .thr := by
          refine rows3_congr fun t i ht => ?_
          unfold ctC pthC
          by_cases h1 : i = 0
          · rw [if_pos h1, if_pos h1]; rfl
          · rw [if_neg h1, if_neg h1]
            by_cases h2 : i = 1
            · rw [if_pos h2, if_pos h2]
            · rw [if_neg h2, if_neg h2, if_pos ht]; rfl
        rw [e]
        exact keep .thr
      | regs t =>
        have e1 : pN (Q.at bb) s (.regs t) = ctN s s.ths.length (.regs t) := by
          show (thOf s t).regs.length = if t < s.ths.length then (thOf s t).regs.length else 0
          by_cases ht : t < s.ths.length
          · rw [if_pos ht]
          · rw [if_neg ht, thOf_outR (by omega)]; rfl
        have e2 : pX (Q.at bb) mb (c1V w4.heap.size u vm pv) s (.regs t) = ctX Q v s u s.ths.length (.regs t) := by
          show intsV (thOf s t).regs = if t < s.ths.length then intsV (thOf s t).regs else []
          by_cases ht : t < s.ths.length
          · rw [if_pos ht]
          · rw [if_neg ht, thOf_outR (by omega)]; rfl
        rw [e1, e2]
        exact keep (.regs t)
      | prints => exact (own_low hp (by omega)).alloc _
      | _ => exact absurd rfl hr
  · have key : ∀ r, (c1V w4.heap.size u vm pv r).ownBlock = some k → (r = .st ∧ k = w4.heap.size) ∨ (r = .prints ∧ pv.ownBlock = some k) ∨ (r.isMem = true ∧ (vm r).ownBlock = some k) ∨ ((u r).ownBlock = some k) := fun r e => by
      by_cases hr : r.isMem = true
      · rw [c1V_mem hr] at e
        exact .inr (.inr (.inl ⟨hr, e⟩))
      · cases r with
        | st => exact .inl ⟨rfl, by simpa [c1V, Value.ownBlock] using e.symm⟩
        | prints => exact .inr (.inl ⟨rfl, e⟩)
        | thr => exact .inr (.inr (.inr e))
        | regs t => exact .inr (.inr (.inr e))
        | _ => exact absurd rfl hr
    rcases key r h1 with ⟨rfl, e1⟩ | ⟨rfl, e1⟩ | ⟨m1, e1⟩ | e1 <;> rcases key q h2 with ⟨rfl, e2⟩ | ⟨rfl, e2⟩ | ⟨m2, e2⟩ | e2
    all_goals first
      | rfl
      | (exfalso; have := hpl _ e1; omega)
      | (exfalso; have := hpl _ e2; omega)
      | exact hM.apart r q k m1 m2 e1 e2
      | exact h.fam.apart r q k e1 e2
      | (exfalso; have := hm _ m1 _ e1; omega)
      | (exfalso; have := hm _ m2 _ e2; omega)
      | (exfalso; have := hu _ _ e1; omega)
      | (exfalso; have := hu _ _ e2; omega)
      | (exfalso; have := hpl _ e1; have := hm _ m2 _ e2; omega)
      | (exfalso; have := hpl _ e2; have := hm _ m1 _ e1; omega)
      | (exfalso; have := hpl _ e1; have := hu _ _ e2; omega)
      | (exfalso; have := hpl _ e2; have := hu _ _ e1; omega)
      | (exfalso; have := hm _ m1 _ e1; have := hu _ _ e2; omega)
      | (exfalso; have := hm _ m2 _ e2; have := hu _ _ e1; omega)
  · show vm .mem = boxV mb
    exact hM.mem
  · show vm .box = boxV (Q.at bb).bb
    exact hM.box hbf

set_option maxRecDepth 100000 in
set_option maxHeartbeats 3200000 in
/-- A copy of a state. -/
theorem sclone_any (w : World) (B : Nat) (Q : Cd) (sb mb : Nat) (v : Rp → Value) (s : Sx) (cf : Nat) (hC : MClone Q.K cf) (hs : QSt w B Q sb mb v s) (ho : KOk Q s) :
    Calls Tryz.prog 59 #[.pointer (some ⟨sb, 0, none⟩)] w fun e w' => ∃ sb' mb' bb' v', e = .returned (.pointer (some ⟨sb', 0, none⟩)) ∧ QSt w' w.heap.size (Q.at bb') sb' mb' v' s ∧ Below w.heap.size w w' := by
  obtain ⟨tb, tc, hth, htb, _⟩ := hs.blk .thr (by show 0 < s.ths.length; exact ho.n0)
  change v .thr = .slice (some ⟨tb, 0, none⟩) s.ths.length tc at hth
  have c1 := hs.c1
  rw [hth] at c1
  have c0 := hs.c0
  obtain ⟨pa, pc, hpv⟩ := hs.form .prints
  change v .prints = .slice pa s.prints.length pc at hpv
  have c2 := hs.c2
  rw [hpv] at c2
  have hn4 := ho.n4
  have hn0 := ho.n0
  have mC := hC.mClone
  have kC := hC.cClone
  have HC1 : Hid (Calls Tryz.prog 86 #[.slice (some ⟨tb, 0, none⟩) s.ths.length tc] w fun e w' => ∃ g c', e = .returned (.slice (some ⟨g, 0, none⟩) s.ths.length c') ∧ Hid (ClT w w' Q v s (fun r => if r = .thr then .slice (some ⟨g, 0, none⟩) s.ths.length c' else nilV) 0)) := by
    have h1 := hs.fam.own .thr
    rw [hth] at h1
    refine (cloneT_any w B _ _ _ h1 (fun y hy => ?_) (by show s.ths.length ≤ _; omega)).mono fun e w' ⟨x, he, hx, hbx⟩ => ?_
    · obtain ⟨i, _, rfl⟩ := List.mem_map.mp hy
      unfold pthC
      split
      · rfl
      · split
        · rfl
        · obtain ⟨a, c, e⟩ := hs.form (.regs (i / 3))
          rw [e]; rfl
    · obtain ⟨g, cap, rfl, _, _, _⟩ := fam_block hx hn0
      exact ⟨g, cap, he, ClT.start hx hbx⟩
  have HC2 : Hid (∀ W t, t < s.ths.length → Below w.heap.size w W → ∃ qa qk qc, v (.regs t) = .slice qa qk qc ∧ Hid (Calls Tryz.prog 36 #[.slice qa qk qc] W fun e w' => ∃ a' k' c', e = .returned (.slice a' k' c') ∧ w'.ownsRow W.heap.size 3 1 (.slice a' k' c') (thOf s t).regs.length (intsV (thOf s t).regs) ∧ Below W.heap.size W w')) := fun W t ht hbw => by
    obtain ⟨a, c, e⟩ := hs.form (.regs t)
    have h1 := (hs.below hbw).fam.own (.regs t)
    rw [e] at h1
    exact ⟨a, _, c, e, (cloneI_row W B a c (thOf s t).regs h1 (by have := ho.rg t ht; omega)).mono fun e w' ⟨a', c', he, hx, hbx⟩ => ⟨a', _, c', he, hx, hbx⟩⟩
  have HC3 : Hid (∀ W, Below w.heap.size w W → Calls Tryz.prog cf #[.pointer (some ⟨Q.top mb, 0, none⟩)] W fun e w' => ∃ mb' bb' vm, e = .returned (.iface Q.K.tid (.pointer (some ⟨(Q.at bb').top mb', 0, none⟩))) ∧ MemC W w' (Q.at bb') mb' vm s) := fun W hbw => hC.clone W B Q sb mb v s rfl (hs.below hbw) ho
  have HC4 : Hid (∀ W, Below w.heap.size w W → Calls Tryz.prog 36 #[.slice pa s.prints.length pc] W fun e w' => ∃ a' c', e = .returned (.slice a' s.prints.length c') ∧ w'.ownsRow W.heap.size 3 1 (.slice a' s.prints.length c') s.prints.length (intsV s.prints) ∧ Below W.heap.size W w') := fun W hbw => by
    have h1 := (hs.below hbw).fam.own .prints
    rw [hpv] at h1
    exact cloneI_row W B pa pc s.prints h1 (by have := ho.pr; omega)
  obtain ⟨n, hn⟩ : ∃ n, s.ths.length = n := ⟨_, rfl⟩
  have HN : Hid (s.ths.length = n) := hn
  rw [hn] at c1 HC1 HC2 hn0 hn4
  have HFIN : Hid (∀ W w2 w3 w4 u mb' bb' vm pv, ClT w w2 Q v s u n → W.heap = w2.heap → W.os = w2.os → W.tape = w2.tape → W.output = w2.output → MemC W w3 (Q.at bb') mb' vm s → w4.ownsRow w3.heap.size 3 1 pv s.prints.length (intsV s.prints) → Below w3.heap.size w3 w4 → QSt (w4.alloc (.cells #[.iface Q.K.tid (.pointer (some ⟨(Q.at bb').top mb', 0, none⟩)), u .thr, pv] 83)) w.heap.size (Q.at bb') w4.heap.size mb' (c1V w4.heap.size u vm pv) s) := fun W w2 w3 w4 u mb' bb' vm pv h1 he he1 he2 he3 h2 h3 h4 => by
    have h1' : ClT w w2 Q v s u s.ths.length := by rw [HN.out]; exact h1
    have hM : MemC w2 w3 (Q.at bb') mb' vm s := ⟨fun r hr => by have := h2.own r hr; rw [he] at this; exact this, h2.apart, h2.mem, h2.box, ⟨h2.below.os.trans he1, h2.below.tape.trans he2, h2.below.output.trans he3, by rw [← he]; exact h2.below.size, fun k hk => by rw [← he]; exact h2.below.block k (by rw [he]; exact hk)⟩⟩
    exact h1'.c hM h3 h4
  have HCEL : Hid (∀ W u j g c', ClT w W Q v s u j → u .thr = .slice (some ⟨g, 0, none⟩) n c' → j < n → W.cell? ⟨g, j * 3 + 2, none⟩ = some (v (.regs j)) ∧ W.frozen? ⟨g, j * 3 + 2, none⟩ = false) := fun W u j g c' h e hj => by
    have hg : (u .thr).ownBlock = some g := by rw [e]; rfl
    refine ⟨h.fam.cell hg ?_, h.fam.frozen hg _⟩
    refine (rows3_get (by rw [HN.out]; exact hj) (by omega)).trans ?_
    unfold ctC
    rw [if_neg (by omega), if_neg (by omega), if_neg (by omega)]
  obtain ⟨pl, hpl⟩ : ∃ k, s.prints.length = k := ⟨_, rfl⟩
  rw [hpl] at c2 HC4 HFIN
  clear hs hth htb hC ho hn hpv hpl
  go_enter Tryz.func59, Tryz.ntmps59
  go_wp2_with fail
  refine Calls.mono HC1.out ?_
  rintro e w1 ⟨g, cc, rfl, HB⟩
  clear HC1 c1
  go_wp2_with fail
  go_loopw [12] (fun i wr => ∃ (j : Nat) (u : Rp → Value), j ≤ n ∧ i = .int .i64 j ∧ Hid (ClT w wr Q v s u j ∧ u .thr = .slice (some ⟨g, 0, none⟩) n cc)) (fun i _ => n - (intOf i).toNat)
  case atStart => exact ⟨0, _, Nat.zero_le _, rfl, HB.out, rfl⟩
  case round =>
    obtain ⟨j, u, hj, rfl, HJ⟩ := hrel
    clear HB
    by_cases hlt : j < n
    · obtain ⟨ce, cf'⟩ := HCEL.out _ _ _ _ _ HJ.out.1 HJ.out.2 hlt
      obtain ⟨qa, qk, qc, eq, HC5⟩ := HC2.out wr j hlt HJ.out.1.below
      rw [eq] at ce
      clear eq
      go_wp2_with fail
      refine Calls.mono HC5.out ?_
      rintro e w2 ⟨a2, k2, c2', rfl, hr2, hb2⟩
      have ce2 := (hb2.cell (lt_of_cell ce)).trans ce
      have cf2 : w2.frozen? ⟨g, j * 3 + 2, none⟩ = false := (hb2.frozen (p := ⟨g, j * 3 + 2, none⟩) (lt_of_cell ce)).trans cf'
      have HN2 : Hid (ClT w (w2.setCell ⟨g, j * 3 + 2, none⟩ (.slice a2 k2 c2')) Q v s (upd u (.regs j) (.slice a2 k2 c2')) (j + 1) ∧ upd u (.regs j) (.slice a2 k2 c2') .thr = .slice (some ⟨g, 0, none⟩) n cc) :=
        ⟨HJ.out.1.next (by rw [HJ.out.2]; rfl) hr2 hb2, by rw [upd_ne _ _ (by simp)]; exact HJ.out.2⟩
      clear HC5 hr2 hb2 HJ ce cf'
      go_wp2_with fail
      go_roundw
      case rel => exact ⟨j + 1, _, by omega, by go_num, HN2⟩
      case measure => simp [intOf]; omega
    · obtain rfl : j = n := by omega
      have hbr := HJ.out.1.below
      have d0 := (hbr.cell (lt_of_cell c0)).trans c0
      have d2 := (hbr.cell (lt_of_cell c2)).trans c2
      go_wp2_with fail
      go_region_held3 (fun w' => w'.cell? ⟨sb, 0, none⟩ = some (.iface Q.K.tid (.pointer (some ⟨Q.top mb, 0, none⟩))) ∧ w'.cell? ⟨sb, 2, none⟩ = some (.slice pa pl pc)) (refine ⟨?_, ?_⟩ <;> (repeat (first | assumption | refine cell_drw ?_ | refine cell_up ?_ _))) (first | ((with_reducible show Calls _ cf _ _ _); refine Calls.mono (HC3.out _ (by repeat (first | assumption | refine Below.drew ?_))) ?_; rintro e w3 ⟨mb', bb', vm, rfl, hM⟩; have z0 : w3.cell? ⟨sb, 0, none⟩ = some (.iface Q.K.tid (.pointer (some ⟨Q.top mb, 0, none⟩))) := (hM.below.cell (p := ⟨sb, 0, none⟩) (lt_of_cell d0)).trans d0; have z2 : w3.cell? ⟨sb, 2, none⟩ = some (.slice pa pl pc) := (hM.below.cell (p := ⟨sb, 2, none⟩) (lt_of_cell d2)).trans d2; have hB3 : Below w.heap.size w w3 := hbr.trans ⟨hM.below.os, hM.below.tape, hM.below.output, hM.below.size, fun q hq => hM.below.block q (Nat.lt_of_lt_of_le hq hbr.size)⟩; have HM := Hid.out (p := Hid _) hM; clear hM) | (go_at_call 36; refine Calls.mono (HC4.out _ (by repeat (first | assumption | refine Below.drew ?_))) ?_; rintro e w4 ⟨a4, c4, rfl, ho4, hb4⟩; have y0 : w4.cell? ⟨sb, 0, none⟩ = some (.iface Q.K.tid (.pointer (some ⟨Q.top mb, 0, none⟩))) := (hb4.cell (p := ⟨sb, 0, none⟩) (lt_of_cell z0)).trans z0; have y2 : w4.cell? ⟨sb, 2, none⟩ = some (.slice pa pl pc) := (hb4.cell (p := ⟨sb, 2, none⟩) (lt_of_cell z2)).trans z2; have hB4 : Below w.heap.size w w4 := hB3.trans (hb4.mono hB3.size); have HO4 := Hid.out (p := Hid _) (And.intro ho4 hb4); clear ho4 hb4))
      all_goals go_wp2
      all_goals go_ret
      all_goals refine ⟨w4.heap.size, mb', bb', c1V w4.heap.size u vm (.slice a4 pl c4), rfl, ?_, hB4.alloc hB4.size _⟩
      all_goals have hfin := HFIN.out wr.drew wr w3 w4 u mb' bb' vm _ HJ.out.1 rfl rfl rfl rfl HM.out HO4.out.1 HO4.out.2
      all_goals rw [HJ.out.2] at hfin
      all_goals exact hfin
end

end Go.Proofs.YtipdnfpomdcenacGreatDoor
