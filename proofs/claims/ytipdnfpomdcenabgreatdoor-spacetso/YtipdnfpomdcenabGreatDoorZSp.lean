/-
  Copies of memories.
  Copies of memories, as the program's state holds them.
  All states that were come to, as the document holds them in memory; what stays as it was while its lists grow.
  One state more among those that were come to: what its lists become.
-/
import Derived.Test.YtipdnfpomdcenabGreatDoorPLoad
import Derived.Test.YtipdnfpomdcenabGreatDoorPNew
import Derived.Test.YtipdnfpomdcenabGreatDoorRead
import Derived.Deep.RegionHeld3
import Derived.Test.YtipdnfpomdcenabGreatDoorZSame
import Derived.Test.YtipdnfpomdcenabGreatDoorZCopy
import Derived.Test.YtipdnfpomdcenabGreatDoorCheckA
namespace Go.Proofs.YtipdnfpomdcenabGreatDoor
section
open Go.RowKit

/-- A plain memory that has just been made, in the block mb. -/
structure Mem1 (w w' : World) (mb : Nat) (wv ov : Value) (words own : List Int) : Prop where
  box : w'.heap[mb]? = some (.cells #[wv, ov] 118 (0, 0))
  wrow : w'.ownsRow w.heap.size 3 1 wv words.length (intsV words)
  orow : w'.ownsRow w.heap.size 3 1 ov own.length (intsV own)
  lo : w.heap.size ≤ mb
  a1 : wv.ownBlock ≠ some mb
  a2 : ov.ownBlock ≠ some mb
  a3 : ∀ g, wv.ownBlock = some g → ov.ownBlock ≠ some g
  below : Below w.heap.size w w'
theorem cloneI_row (w : World) (B : Nat) (a : Option Addr) (c : Nat) (l : List Int) (hown : w.ownsRow B 3 1 (.slice a l.length c) l.length (intsV l)) (hn : l.length ≤ 1000000) :
    Calls Tryz.prog 57 #[.slice a l.length c] w fun e w' => ∃ a' c', e = .returned (.slice a' l.length c') ∧ w'.ownsRow w.heap.size 3 1 (.slice a' l.length c') l.length (intsV l) ∧ Below w.heap.size w w' :=
  (cloneI_any w B _ _ _ hown (intsV_one l) hn).mono fun e w' ⟨u, h1, h2, h3⟩ => by
    obtain ⟨a', c', rfl⟩ := fam_form h2
    exact ⟨a', c', h1, h2, h3⟩
set_option maxRecDepth 100000 in
set_option maxHeartbeats 3200000 in
theorem pcopy_any (w : World) (B : Nat) (Q : Cd) (sb mb : Nat) (v : Rp → Value) (s : Sx) (hs : QSt w B Q sb mb v s) (hm : s.words.length ≤ 64) (hl : s.own.length ≤ 4) :
    Calls Tryz.prog 181 #[.pointer (some ⟨mb, 0, none⟩)] w fun e w' => ∃ mb' wv ov, e = .returned (.pointer (some ⟨mb', 0, none⟩)) ∧ Mem1 w w' mb' wv ov s.words s.own := by
  obtain ⟨wa, wc, ew⟩ := hs.form .words
  change v .words = .slice wa s.words.length wc at ew
  obtain ⟨oa, oc, eo⟩ := hs.form .own
  change v .own = .slice oa s.own.length oc at eo
  have m0 := hs.m0
  rw [ew] at m0
  have m1 := hs.m1
  rw [eo] at m1
  have HC1 : Hid (∀ W, Below w.heap.size w W → Calls Tryz.prog 57 #[.slice wa s.words.length wc] W fun e w' => ∃ a' c', e = .returned (.slice a' s.words.length c') ∧ w'.ownsRow W.heap.size 3 1 (.slice a' s.words.length c') s.words.length (intsV s.words) ∧ Below W.heap.size W w') := fun W hb => by
    have h1 := (hs.below hb).fam.own .words
    rw [ew] at h1
    exact cloneI_row W B wa wc s.words h1 (by omega)
  have HC2 : Hid (∀ W, Below w.heap.size w W → Calls Tryz.prog 57 #[.slice oa s.own.length oc] W fun e w' => ∃ a' c', e = .returned (.slice a' s.own.length c') ∧ w'.ownsRow W.heap.size 3 1 (.slice a' s.own.length c') s.own.length (intsV s.own) ∧ Below W.heap.size W w') := fun W hb => by
    have h1 := (hs.below hb).fam.own .own
    rw [eo] at h1
    exact cloneI_row W B oa oc s.own h1 (by omega)
  have HFIN : Hid (∀ (W w3 w4 : World) (wv ov : Value), W.heap = w.heap → W.os = w.os → W.tape = w.tape → W.output = w.output → w3.ownsRow W.heap.size 3 1 wv s.words.length (intsV s.words) → Below W.heap.size W w3 → w4.ownsRow w3.heap.size 3 1 ov s.own.length (intsV s.own) → Below w3.heap.size w3 w4 → Mem1 w (w4.alloc (.cells #[wv, ov] 118)) w4.heap.size wv ov s.words s.own) := fun W w3 w4 wv ov e0 e1 e2 e3 h1 h2 h3 h4 => by
    have hz : W.heap.size = w.heap.size := by rw [e0]
    have hb : Below w.heap.size w w3 := ⟨h2.os.trans e1, h2.tape.trans e2, h2.output.trans e3, by have := h2.size; omega, fun k hk => (h2.block k (by omega)).trans (by rw [e0])⟩
    have hb4 : Below w.heap.size w w4 := hb.trans (h4.mono hb.size)
    rw [hz] at h1
    refine ⟨heap_alloc_new _ _, (fam_keeps h1 (fun g hg => h4.block g (h1.lt g hg).2)).alloc _, (own_low h3 hb.size).alloc _, hb4.size, fun e => ?_, fun e => ?_, fun g e1 e2 => ?_, hb4.alloc hb4.size _⟩
    · have := (h1.lt _ e).2
      have := h4.size
      omega
    · have := (h3.lt _ e).2; omega
    · have := (h1.lt _ e1).2
      have := (h3.lt _ e2).1
      omega
  obtain ⟨m, hmm⟩ : ∃ m, s.words.length = m := ⟨_, rfl⟩
  obtain ⟨k, hkk⟩ : ∃ m, s.own.length = m := ⟨_, rfl⟩
  rw [hmm] at m0 HC1 HFIN
  rw [hkk] at m1 HC2 HFIN
  clear hs ew eo hm hl hmm hkk
  go_enter Tryz.func181, Tryz.ntmps181
  go_wp2
  go_region_held3 (fun w' => w'.cell? ⟨mb, 0, none⟩ = some (.slice wa m wc) ∧ w'.cell? ⟨mb, 1, none⟩ = some (.slice oa k oc)) (refine ⟨?_, ?_⟩ <;> (repeat (first | assumption | refine cell_drw ?_ | refine cell_up ?_ _))) (first | (go_at_call 57; refine Calls.mono (HC1.out _ (by repeat (first | exact Below.refl _ _ | assumption | refine Below.drew ?_))) ?_; rintro e w3 ⟨a3, c3, rfl, ho3, hb3⟩; have z0 : w3.cell? ⟨mb, 0, none⟩ = some (.slice wa m wc) := (hb3.cell (p := ⟨mb, 0, none⟩) (lt_of_cell m0)).trans m0; have z1 : w3.cell? ⟨mb, 1, none⟩ = some (.slice oa k oc) := (hb3.cell (p := ⟨mb, 1, none⟩) (lt_of_cell m1)).trans m1; have hB3 : Below w.heap.size w w3 := ⟨hb3.os, hb3.tape, hb3.output, hb3.size, fun j hj => hb3.block j hj⟩) | (go_at_call 57; refine Calls.mono (HC2.out _ (by repeat (first | assumption | refine Below.drew ?_))) ?_; rintro e w4 ⟨a4, c4, rfl, ho4, hb4⟩; have y0 : w4.cell? ⟨mb, 0, none⟩ = some (.slice wa m wc) := (hb4.cell (p := ⟨mb, 0, none⟩) (lt_of_cell z0)).trans z0; have y1 : w4.cell? ⟨mb, 1, none⟩ = some (.slice oa k oc) := (hb4.cell (p := ⟨mb, 1, none⟩) (lt_of_cell z1)).trans z1))
  all_goals go_wp2
  all_goals go_ret
  all_goals exact ⟨_, _, _, rfl, HFIN.out w.drew w3 w4 _ _ rfl rfl rfl rfl ho3 hb3 ho4 hb4⟩
end

section
open Go.RowKit

section
variable {ι : Type} [DecidableEq ι] {wr w1 : World} {B : Nat} {ty : ι → TypeId} {sz : ι → Nat} {u : ι → Value} {n n1 : ι → Nat} {xs xs1 : ι → List Value}
/-- A row is copied, and laid into a table. -/
theorem Fam.copied (F : Fam wr B ty sz u n xs) {r p : ι} {x : Value} {m g i : Nat} {ys : List Value} (hB : B ≤ wr.heap.size) (hrp : r ≠ p) (h0 : (u r).ownBlock = none) (hrow : w1.ownsRow wr.heap.size (ty r) (sz r) x m ys) (hb : Below wr.heap.size wr w1) (hp : (u p).ownBlock = some g)
    (hn : n1 r = m) (hx : xs1 r = ys) (hnn : ∀ q, q ≠ r → n1 q = n q) (hxp : xs1 p = (xs p).set i x) (hxx : ∀ q, q ≠ r → q ≠ p → xs1 q = xs q) : Fam (w1.setCell ⟨g, i, none⟩ x) B ty sz (upd u r x) n1 xs1 := by
  have F1 := F.below hb
  have far : ∀ q k, (u q).ownBlock = some k → x.ownBlock ≠ some k := fun q k hk e => by
    have h1 := F.lt hk
    have h2 := (hrow.lt k e).1
    omega
  have F2 : Fam w1 B ty sz (upd u r x) (upd n r m) (upd xs r ys) := by
    refine ⟨fun q => ?_, fun a b k ha hb' => ?_⟩
    · by_cases hq : q = r
      · subst hq
        rw [upd_self, upd_self, upd_self]
        exact own_low hrow hB
      · rw [upd_ne _ _ hq, upd_ne _ _ hq, upd_ne _ _ hq]
        exact F1.own q
    · by_cases h1 : a = r
      · by_cases h2 : b = r
        · rw [h1, h2]
        · subst h1
          rw [upd_self] at ha
          rw [upd_ne _ _ h2] at hb'
          exact absurd ha (far b k hb')
      · rw [upd_ne _ _ h1] at ha
        by_cases h2 : b = r
        · subst h2
          rw [upd_self] at hb'
          exact absurd hb' (far a k ha)
        · rw [upd_ne _ _ h2] at hb'
          exact F.apart a b k ha hb'
  refine F2.put (r := p) (by rw [upd_ne _ _ (fun e => hrp e.symm)]; exact hp) i x (fun q => ?_) ?_ (fun q hq => ?_)
  · by_cases h : q = r
    · subst h; rw [upd_self]; exact hn
    · rw [upd_ne _ _ h]; exact hnn q h
  · rw [upd_ne _ _ (fun e => hrp e.symm)]; exact hxp
  · by_cases h : q = r
    · subst h; rw [upd_self]; exact hx
    · rw [upd_ne _ _ h]; exact hxx q h hq
end
/-- The roles of a memory. -/
def Rp.isMem : Rp → Bool
  | .mem => true
  | .words => true
  | .own => true
  | .box => true
  | .bufs => true
  | .buf _ => true
  | _ => false
/-- A memory that has just been made: its rows. -/
structure MemC (w w' : World) (Q : Cd) (mb : Nat) (v : Rp → Value) (s : Sx) : Prop where
  own : ∀ r, r.isMem = true → w'.ownsRow w.heap.size (pTy Q.K r) (pSz r) (v r) (pN Q s r) (pX Q mb v s r)
  apart : ∀ r q g, r.isMem = true → q.isMem = true → (v r).ownBlock = some g → (v q).ownBlock = some g → r = q
  mem : v .mem = boxV mb
  box : Q.K.bf = true → v .box = boxV Q.bb
  below : Below w.heap.size w w'
/-- The rows of a plain memory. -/
def p1V (mb : Nat) (wv ov : Value) : Rp → Value
  | .mem => boxV mb
  | .words => wv
  | .own => ov
  | _ => nilV
theorem Mem1.c {w w' : World} {mb : Nat} {wv ov : Value} {s : Sx} (h : Mem1 w w' mb wv ov s.words s.own) {Q : Cd} (hK : Q.K = plainK) : MemC w w' Q mb (p1V mb wv ov) s := by
  have hbf : Q.K.bf = false := by rw [hK]; rfl
  refine ⟨fun r hr => ?_, fun r q k hr hq h1 h2 => ?_, rfl, (fun hb => by rw [hbf] at hb; cases hb), h.below⟩
  · cases r with
    | mem => exact fam_box (xs := [wv, ov]) h.lo h.box
    | words => exact h.wrow
    | own => exact h.orow
    | box => simp only [pN, pX, hbf]; exact World.ownsRow_nil _ _ _ _
    | bufs => simp only [pN, pX, hbf]; exact World.ownsRow_nil _ _ _ _
    | buf t => simp only [pN, pX, hbf]; exact World.ownsRow_nil _ _ _ _
    | _ => cases hr
  · have s3 : ∀ k, (nilV).ownBlock = some k → False := fun k e => by simp [Value.ownBlock] at e
    have s1 : (boxV mb).ownBlock = some k → k = mb := fun e => by simpa [Value.ownBlock] using e.symm
    have key : ∀ r, (p1V mb wv ov r).ownBlock = some k → (r = .mem ∧ k = mb) ∨ (r = .words ∧ wv.ownBlock = some k) ∨ (r = .own ∧ ov.ownBlock = some k) := fun r e => by
      cases r with
      | mem => exact .inl ⟨rfl, s1 e⟩
      | words => exact .inr (.inl ⟨rfl, e⟩)
      | own => exact .inr (.inr ⟨rfl, e⟩)
      | _ => exact (s3 _ e).elim
    have a1 := h.a1
    have a2 := h.a2
    have a3 := h.a3
    rcases key r h1 with ⟨rfl, e1⟩ | ⟨rfl, e1⟩ | ⟨rfl, e1⟩ <;> rcases key q h2 with ⟨rfl, e2⟩ | ⟨rfl, e2⟩ | ⟨rfl, e2⟩ <;> first | rfl | (subst e1; exact absurd e2 (by assumption)) | (subst e2; exact absurd e1 (by assumption)) | (exact absurd e2 (a3 _ e1)) | (exact absurd e1 (a3 _ e2))
/-- What must be known of a state that is copied. -/
structure KOk (Q : Cd) (s : Sx) : Prop where
  nt : Q.nt = s.ths.length
  n0 : 0 < s.ths.length
  n4 : s.ths.length ≤ 4
  rg0 : ∀ t, t < s.ths.length → 0 < (thOf s t).regs.length
  rg : ∀ t, t < s.ths.length → (thOf s t).regs.length ≤ 200
  wl : ∀ t, t < s.ths.length → (thOf s t).wait.length ≤ 3
  words : s.words.length ≤ 64
  own : s.own.length ≤ 4
  pr : s.prints.length ≤ 10000
def Cd.at (Q : Cd) (bb : Nat) : Cd := { Q with bb := bb }
/-- Copies of a kind of memory. -/
structure MClone (K : Mk) (cf : Nat) : Prop where
  mClone : ∀ (a : Addr) (w : World), (method 368 K.tid (.pointer (some a)) "Clone").run Tryz.prog w = .ok (cf, .pointer (some a)) w
  cClone : ∀ (xs : Array Value) (w : World), (callFunc cf xs).run Tryz.prog w = .ok (.enter cf xs) w
  clone : ∀ (w : World) (B : Nat) (Q : Cd) (sb mb : Nat) (v : Rp → Value) (s : Sx), Q.K = K → QSt w B Q sb mb v s → KOk Q s →
    Calls Tryz.prog cf #[.pointer (some ⟨Q.top mb, 0, none⟩)] w fun e w' => ∃ mb' bb' vm, e = .returned (.iface K.tid (.pointer (some ⟨(Q.at bb').top mb', 0, none⟩))) ∧ MemC w w' (Q.at bb') mb' vm s
set_option maxRecDepth 100000 in
set_option maxHeartbeats 1600000 in
theorem plain_clone : MClone plainK 170 where
  mClone a w := by kernel_rfl
  cClone xs w := by kernel_rfl
  clone w B Q sb mb v s hK hs ho := by
    rw [plain_top hK]
    have HC := Hid.out (p := Hid _) (pcopy_any w B Q sb mb v s hs ho.words ho.own)
    have HK : Hid (Q.K = plainK) := hK
    clear hs ho hK
    go_enter Tryz.func170, Tryz.ntmps170
    go_wp2_with fail
    refine Calls.mono HC.out ?_
    rintro e w1 ⟨mb', wv, ov, rfl, hM⟩
    have HM := Hid.out (p := Hid _) hM
    clear HC hM
    go_wp2_with fail
    go_ret
    refine ⟨mb', 0, p1V mb' wv ov, ?_, HM.out.c (Q := Q.at 0) HK.out⟩
    rw [plain_top (Q := Q.at 0) HK.out]
    rfl
end

section
open Go.RowKit

section
variable {ι : Type} {w w' : World} {vf vf' : ι → Value}
/-- Something that lies outside of rows that have turned is as it was, and still outside. -/
theorem DSt.moved {B : Nat} {P : Pg} {sb : Nat} {v : Rl → Value} {s : Sx} (h : DSt w B P sb v s) (ho : ∀ r g, (v r).ownBlock = some g → ∀ q, (vf q).ownBlock ≠ some g) (hm : Moved w w' vf vf') : DSt w' B P sb v s ∧ ∀ r g, (v r).ownBlock = some g → ∀ q, (vf' q).ownBlock ≠ some g :=
  ⟨⟨⟨fun r => fam_keeps (h.fam.own r) (fun g hg => hm.block g (h.fam.lt hg) (ho r g hg)), h.fam.apart⟩, h.box⟩, fun r g hg => hm.out (h.fam.lt hg) (ho r g hg)⟩
theorem IsI.moved {B : Nat} {a : Option Addr} {len c : Nat} {xs : List Int} (h : IsI w B a len c xs) (ho : ∀ g, (Value.slice a len c).ownBlock = some g → ∀ q, (vf q).ownBlock ≠ some g) (hm : Moved w w' vf vf') : IsI w' B a len c xs ∧ ∀ g, (Value.slice a len c).ownBlock = some g → ∀ q, (vf' q).ownBlock ≠ some g :=
  ⟨⟨h.is, fam_keeps h.own (fun g hg => hm.block g (h.own.lt g hg).2 (ho g hg))⟩, fun g hg => hm.out (h.own.lt g hg).2 (ho g hg)⟩
/-- A list of numbers that lies outside of rows. -/
def LIo (w : World) (vf : ι → Value) (a : Option Addr) (x : List Int) : Prop := ∀ i, i < x.length → ∃ b o, a = some ⟨b, o, none⟩ ∧ w.cell? ⟨b, o + i, none⟩ = some (.int .i64 (x.getD i 0)) ∧ ∀ q, (vf q).ownBlock ≠ some b
theorem LIo.li {a : Option Addr} {x : List Int} (h : LIo w vf a x) : LI w a x := fun i hi => by
  obtain ⟨b, o, h1, h2, _⟩ := h i hi
  exact ⟨b, o, h1, h2⟩
theorem LIo.moved {a : Option Addr} {x : List Int} (h : LIo w vf a x) (hm : Moved w w' vf vf') : LIo w' vf' a x := fun i hi => by
  obtain ⟨b, o, h1, h2, h3⟩ := h i hi
  exact ⟨b, o, h1, (hm.cell (a := ⟨b, o + i, none⟩) (lt_of_cell h2) h3).trans h2, hm.out (lt_of_cell h2) h3⟩
end

/-- The rows of a space. -/
inductive Sr where
  | box
  | st
  | ks
  | hd
  | bf
deriving DecidableEq
def sTy : Sr → TypeId
  | .box => 39
  | .st => 86
  | .ks => 23
  | _ => 3
def sSz : Sr → Nat
  | .box => 6
  | _ => 1
/-- What a space holds: where its states lie, the states, where their numbers lie, the outcomes, whether there are too many. -/
structure Sd where
  sbs : List Nat
  ss : List Sx
  ks : List (Option Addr × Nat)
  ends : Value
  full : Bool
def keyL (d : Sd) (i : Nat) : List Int := numsX (d.ss.getD i default)
def sumsD (d : Sd) (i : Nat) : Nat := sumL (keyL d i)
def keyV (d : Sd) (i : Nat) : Value := .slice (d.ks.getD i default).1 (keyL d i).length (d.ks.getD i default).2
def headsD (d : Sd) : List Int := (List.range 4096).map fun h => lastS (sumsD d) h d.ss.length
def beforeD (d : Sd) : List Int := (List.range d.ss.length).map fun i => lastS (sumsD d) (sumsD d i) i
def sN (d : Sd) : Sr → Nat
  | .box => 1
  | .hd => 4096
  | _ => d.ss.length
def sX (v : Sr → Value) (d : Sd) : Sr → List Value
  | .box => [v .st, v .ks, v .hd, v .bf, d.ends, .bool d.full]
  | .st => d.sbs.map fun b => .pointer (some ⟨b, 0, none⟩)
  | .ks => (List.range d.ss.length).map (keyV d)
  | .hd => intsV (headsD d)
  | .bf => intsV (beforeD d)
structure SpIn (w : World) (B : Nat) (P : Pg) (pb : Nat) (v : Sr → Value) (d : Sd) : Prop where
  fam : Fam w B sTy sSz v (sN d) (sX v d)
  box : v .box = boxV pb
  len : d.sbs.length = d.ss.length
  klen : d.ks.length = d.ss.length
  states : ∀ i, i < d.ss.length → ∃ B' v', DSt w B' P (d.sbs.getD i 0) v' (d.ss.getD i default) ∧ ∀ r g, (v' r).ownBlock = some g → ∀ q, (v q).ownBlock ≠ some g
  keys : ∀ i, i < d.ss.length → ∃ B', IsI w B' (d.ks.getD i default).1 (keyL d i).length (d.ks.getD i default).2 (keyL d i) ∧ ∀ g, (keyV d i).ownBlock = some g → ∀ q, (v q).ownBlock ≠ some g
section
variable {w w1 : World} {B : Nat} {P : Pg} {pb : Nat} {v : Sr → Value} {d : Sd}
theorem SpIn.below (h : SpIn w B P pb v d) (hb : Below w.heap.size w w1) : SpIn w1 B P pb v d :=
  ⟨h.fam.below hb, h.box, h.len, h.klen, fun i hi => by
    obtain ⟨B', v', h1, h2⟩ := h.states i hi
    exact ⟨B', v', h1.below hb, h2⟩, fun i hi => by
    obtain ⟨B', h1, h2⟩ := h.keys i hi
    exact ⟨B', h1.below hb, h2⟩⟩
theorem SpIn.bblk (h : SpIn w B P pb v d) : (v .box).ownBlock = some pb := by rw [h.box]; rfl
theorem SpIn.c0 (h : SpIn w B P pb v d) : w.cell? ⟨pb, 0, none⟩ = some (v .st) := h.fam.cell h.bblk rfl
theorem SpIn.c1 (h : SpIn w B P pb v d) : w.cell? ⟨pb, 1, none⟩ = some (v .ks) := h.fam.cell h.bblk rfl
theorem SpIn.c2 (h : SpIn w B P pb v d) : w.cell? ⟨pb, 2, none⟩ = some (v .hd) := h.fam.cell h.bblk rfl
theorem SpIn.c3 (h : SpIn w B P pb v d) : w.cell? ⟨pb, 3, none⟩ = some (v .bf) := h.fam.cell h.bblk rfl
theorem SpIn.c4 (h : SpIn w B P pb v d) : w.cell? ⟨pb, 4, none⟩ = some d.ends := h.fam.cell h.bblk rfl
theorem SpIn.c5 (h : SpIn w B P pb v d) : w.cell? ⟨pb, 5, none⟩ = some (.bool d.full) := h.fam.cell h.bblk rfl
theorem SpIn.hdB (h : SpIn w B P pb v d) : ∃ hb hc, v .hd = .slice (some ⟨hb, 0, none⟩) 4096 hc ∧ (v .hd).ownBlock = some hb := by
  obtain ⟨g, c, h1, h2, _, _⟩ := fam_block (h.fam.own .hd) (by show 0 < 4096; omega)
  exact ⟨g, c, h1, h2⟩
theorem SpIn.head (h : SpIn w B P pb v d) {hb k : Nat} (e : (v .hd).ownBlock = some hb) (hk : k < 4096) : w.cell? ⟨hb, k, none⟩ = some (.int .i64 (lastS (sumsD d) k d.ss.length)) := by
  refine h.fam.cell e (u := .int .i64 _) ?_
  show (intsV (headsD d))[k]? = _
  unfold intsV headsD
  rw [List.map_map, List.getElem?_map, List.getElem?_range hk]
  rfl
theorem SpIn.bfB (h : SpIn w B P pb v d) (hn : 0 < d.ss.length) : ∃ hb hc, v .bf = .slice (some ⟨hb, 0, none⟩) d.ss.length hc ∧ (v .bf).ownBlock = some hb := by
  obtain ⟨g, c, h1, h2, _, _⟩ := fam_block (h.fam.own .bf) (by exact hn)
  exact ⟨g, c, h1, h2⟩
theorem SpIn.before (h : SpIn w B P pb v d) {hb i : Nat} (e : (v .bf).ownBlock = some hb) (hi : i < d.ss.length) : w.cell? ⟨hb, i, none⟩ = some (.int .i64 (lastS (sumsD d) (sumsD d i) i)) := by
  refine h.fam.cell e (u := .int .i64 _) ?_
  show (intsV (beforeD d))[i]? = _
  unfold intsV beforeD
  rw [List.map_map, List.getElem?_map, List.getElem?_range hi]
  rfl
theorem SpIn.ksB (h : SpIn w B P pb v d) (hn : 0 < d.ss.length) : ∃ hb hc, v .ks = .slice (some ⟨hb, 0, none⟩) d.ss.length hc ∧ (v .ks).ownBlock = some hb := by
  obtain ⟨g, c, h1, h2, _, _⟩ := fam_block (h.fam.own .ks) (by exact hn)
  exact ⟨g, c, h1, h2⟩
theorem SpIn.key (h : SpIn w B P pb v d) {hb i : Nat} (e : (v .ks).ownBlock = some hb) (hi : i < d.ss.length) : w.cell? ⟨hb, i, none⟩ = some (keyV d i) := by
  refine h.fam.cell e ?_
  show ((List.range d.ss.length).map (keyV d))[i]? = _
  rw [List.getElem?_map, List.getElem?_range hi]
  rfl
end
end

section
open Go.RowKit

theorem infoP : (Tryz.prog.info? 86).map (fun i => (i.zero, i.size, i.bytes)) = some (some (.pointer none), 1, 8) := by kernel_rfl
theorem infoL : (Tryz.prog.info? 23).map (fun i => (i.zero, i.size, i.bytes)) = some (some nilV, 1, 24) := by kernel_rfl

section
variable {ι : Type} [DecidableEq ι] {w w1 : World} {B : Nat} {ty : ι → TypeId} {sz : ι → Nat} {v : ι → Value} {n : ι → Nat} {xs : ι → List Value}
/-- A row that grew. -/
theorem Fam.grew (h : Fam w B ty sz v n xs) {r : ι} {g m c H : Nat} {ys : List Value} (hown : w1.ownsRow B (ty r) (sz r) (.slice (some ⟨g, 0, none⟩) m c) m ys) (hgrow : w.grownBy w1 (v r).ownBlock) (hat : (v r).ownBlock = some g ∨ g = H) (hH : w.heap.size ≤ H) :
    Fam w1 B ty sz (upd v r (.slice (some ⟨g, 0, none⟩) m c)) (upd n r m) (upd xs r ys) :=
  h.grow (r := r) (n1 := upd n r m) (xs1 := upd xs r ys) hown hgrow hat hH (upd_self _ _ _) (fun _ hq => upd_ne _ _ hq) (upd_self _ _ _) (fun _ hq => upd_ne _ _ hq)
theorem Fam.store (h : Fam w B ty sz v n xs) {r : ι} {g : Nat} (e : (v r).ownBlock = some g) (i : Nat) (u : Value) : Fam (w.setCell ⟨g, i, none⟩ u) B ty sz v n (upd xs r ((xs r).set i u)) :=
  h.put e i u (fun _ => rfl) (upd_self _ _ _) (fun _ hq => upd_ne _ _ hq)
end

/-- One state more. -/
def Sd.push (d : Sd) (xb : Nat) (sx : Sx) (ka : Option Addr) (kc : Nat) : Sd := ⟨d.sbs ++ [xb], d.ss ++ [sx], d.ks ++ [(ka, kc)], d.ends, d.full || decide (4000 < d.ss.length + 1)⟩
section
variable {d : Sd} {xb : Nat} {sx : Sx} {ka : Option Addr} {kc : Nat}
theorem push_ss {i : Nat} (hi : i < d.ss.length) : (d.push xb sx ka kc).ss.getD i default = d.ss.getD i default := by
  show (d.ss ++ [sx]).getD i default = _
  simp [List.getD, List.getElem?_append_left hi]
theorem push_new : (d.push xb sx ka kc).ss.getD d.ss.length default = sx := by
  show (d.ss ++ [sx]).getD d.ss.length default = _
  simp [List.getD]
theorem push_len : (d.push xb sx ka kc).ss.length = d.ss.length + 1 := by
  show (d.ss ++ [sx]).length = _
  simp
theorem push_key {i : Nat} (hi : i < d.ss.length) : keyL (d.push xb sx ka kc) i = keyL d i := by unfold keyL; rw [push_ss hi]
theorem push_keyN : keyL (d.push xb sx ka kc) d.ss.length = numsX sx := by unfold keyL; rw [push_new]
theorem push_sum {i : Nat} (hi : i < d.ss.length) : sumsD (d.push xb sx ka kc) i = sumsD d i := by unfold sumsD; rw [push_key hi]
theorem push_sumN : sumsD (d.push xb sx ka kc) d.ss.length = sumL (numsX sx) := by unfold sumsD; rw [push_keyN]
theorem push_before : beforeD (d.push xb sx ka kc) = beforeD d ++ [lastS (sumsD d) (sumL (numsX sx)) d.ss.length] := by
  unfold beforeD
  rw [push_len, List.range_succ, List.map_append]
  congr 1
  · refine List.map_congr_left fun i hi => ?_
    have hi' : i < d.ss.length := by simpa using hi
    rw [push_sum hi', last_congr i (fun j hj => push_sum (by omega))]
  · simp only [List.map_cons, List.map_nil]
    rw [push_sumN, last_congr d.ss.length (fun j hj => push_sum hj)]
theorem push_heads {h : Nat} (hh : sumL (numsX sx) = h) : headsD (d.push xb sx ka kc) = (headsD d).set h (d.ss.length : Nat) := by
  have hlt : h < 4096 := by rw [← hh]; exact sumL_lt _
  unfold headsD
  refine List.ext_getElem? fun i => ?_
  rw [List.getElem?_set, List.getElem?_map, List.getElem?_map]
  by_cases hi : i < 4096
  · rw [List.getElem?_range hi]
    by_cases he : h = i
    · subst he
      rw [if_pos rfl, if_pos (by simpa using hlt), push_len]
      show some (lastS _ h (d.ss.length + 1)) = _
      unfold lastS
      rw [if_pos (by rw [push_sumN]; exact hh)]
    · rw [if_neg he, push_len]
      show some (lastS _ i (d.ss.length + 1)) = some _
      rw [show lastS (sumsD (d.push xb sx ka kc)) i (d.ss.length + 1) = lastS (sumsD (d.push xb sx ka kc)) i d.ss.length by
        conv => lhs; unfold lastS
        rw [if_neg (by rw [push_sumN, hh]; exact he)], last_congr d.ss.length (fun j hj => push_sum hj)]
  · rw [List.getElem?_eq_none (by simpa using Nat.le_of_not_lt hi)]
    have hne : ¬ h = i := by omega
    rw [if_neg hne]
    rfl
theorem push_kv {i : Nat} (hk : d.ks.length = d.ss.length) (hi : i < d.ss.length) : keyV (d.push xb sx ka kc) i = keyV d i := by
  unfold keyV
  rw [push_key hi]
  have e : (d.push xb sx ka kc).ks.getD i default = d.ks.getD i default := by
    show (d.ks ++ [(ka, kc)]).getD i default = _
    simp [List.getD, List.getElem?_append_left (show i < d.ks.length by omega)]
  rw [e]
theorem push_kvN (hk : d.ks.length = d.ss.length) : keyV (d.push xb sx ka kc) d.ss.length = .slice ka (numsX sx).length kc := by
  unfold keyV
  rw [push_keyN]
  have e : (d.push xb sx ka kc).ks.getD d.ss.length default = (ka, kc) := by
    show (d.ks ++ [(ka, kc)]).getD d.ss.length default = _
    rw [← hk]
    simp [List.getD]
  rw [e]
theorem push_kvs (hk : d.ks.length = d.ss.length) : (List.range (d.push xb sx ka kc).ss.length).map (keyV (d.push xb sx ka kc)) = (List.range d.ss.length).map (keyV d) ++ [.slice ka (numsX sx).length kc] := by
  rw [push_len, List.range_succ, List.map_append]
  congr 1
  · exact List.map_congr_left fun i hi => push_kv hk (by simpa using hi)
  · simp only [List.map_cons, List.map_nil]
    rw [push_kvN hk]
end
end

end Go.Proofs.YtipdnfpomdcenabGreatDoor
