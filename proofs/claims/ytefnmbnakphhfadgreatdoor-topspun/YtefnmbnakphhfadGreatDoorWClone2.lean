/-
  Copies of memories.
  Copies of memories, as the program's state holds them.
  A copy of a memory with buffers.
-/
import Derived.Test.YtefnmbnakphhfadGreatDoorTelP
import Derived.Test.YtefnmbnakphhfadGreatDoorPNew
import Derived.Test.YtefnmbnakphhfadGreatDoorDSt
import Derived.Deep.RegionHeld3
namespace Go.Proofs.YtefnmbnakphhfadGreatDoor
section
open Go.RowKit

/-- A plain memory that has just been made, in the block mb. -/
structure Mem1 (w w' : World) (mb : Nat) (wv ov : Value) (words own : List Int) : Prop where
  box : w'.heap[mb]? = some (.cells #[wv, ov] 113 (0, 0))
  wrow : w'.ownsRow w.heap.size 3 1 wv words.length (intsV words)
  orow : w'.ownsRow w.heap.size 3 1 ov own.length (intsV own)
  lo : w.heap.size ≤ mb
  a1 : wv.ownBlock ≠ some mb
  a2 : ov.ownBlock ≠ some mb
  a3 : ∀ g, wv.ownBlock = some g → ov.ownBlock ≠ some g
  below : Below w.heap.size w w'
theorem cloneI_row (w : World) (B : Nat) (a : Option Addr) (c : Nat) (l : List Int) (hown : w.ownsRow B 3 1 (.slice a l.length c) l.length (intsV l)) (hn : l.length ≤ 1000000) :
    Calls Tryz.prog 46 #[.slice a l.length c] w fun e w' => ∃ a' c', e = .returned (.slice a' l.length c') ∧ w'.ownsRow w.heap.size 3 1 (.slice a' l.length c') l.length (intsV l) ∧ Below w.heap.size w w' :=
  (cloneI_any w B _ _ _ hown (intsV_one l) hn).mono fun e w' ⟨u, h1, h2, h3⟩ => by
    obtain ⟨a', c', rfl⟩ := fam_form h2
    exact ⟨a', c', h1, h2, h3⟩
set_option maxRecDepth 100000 in
set_option maxHeartbeats 3200000 in
theorem pcopy_any (w : World) (B : Nat) (Q : Cd) (sb mb : Nat) (v : Rp → Value) (s : Sx) (hs : QSt w B Q sb mb v s) (hm : s.words.length ≤ 64) (hl : s.own.length ≤ 4) :
    Calls Tryz.prog 161 #[.pointer (some ⟨mb, 0, none⟩)] w fun e w' => ∃ mb' wv ov, e = .returned (.pointer (some ⟨mb', 0, none⟩)) ∧ Mem1 w w' mb' wv ov s.words s.own := by
  obtain ⟨wa, wc, ew⟩ := hs.form .words
  change v .words = .slice wa s.words.length wc at ew
  obtain ⟨oa, oc, eo⟩ := hs.form .own
  change v .own = .slice oa s.own.length oc at eo
  have m0 := hs.m0
  rw [ew] at m0
  have m1 := hs.m1
  rw [eo] at m1
  have HC1 : Hid (∀ W, Below w.heap.size w W → Calls Tryz.prog 46 #[.slice wa s.words.length wc] W fun e w' => ∃ a' c', e = .returned (.slice a' s.words.length c') ∧ w'.ownsRow W.heap.size 3 1 (.slice a' s.words.length c') s.words.length (intsV s.words) ∧ Below W.heap.size W w') := fun W hb => by
    have h1 := (hs.below hb).fam.own .words
    rw [ew] at h1
    exact cloneI_row W B wa wc s.words h1 (by omega)
  have HC2 : Hid (∀ W, Below w.heap.size w W → Calls Tryz.prog 46 #[.slice oa s.own.length oc] W fun e w' => ∃ a' c', e = .returned (.slice a' s.own.length c') ∧ w'.ownsRow W.heap.size 3 1 (.slice a' s.own.length c') s.own.length (intsV s.own) ∧ Below W.heap.size W w') := fun W hb => by
    have h1 := (hs.below hb).fam.own .own
    rw [eo] at h1
    exact cloneI_row W B oa oc s.own h1 (by omega)
  have HFIN : Hid (∀ (W w3 w4 : World) (wv ov : Value), W.heap = w.heap → W.os = w.os → W.tape = w.tape → W.output = w.output → w3.ownsRow W.heap.size 3 1 wv s.words.length (intsV s.words) → Below W.heap.size W w3 → w4.ownsRow w3.heap.size 3 1 ov s.own.length (intsV s.own) → Below w3.heap.size w3 w4 → Mem1 w (w4.alloc (.cells #[wv, ov] 113)) w4.heap.size wv ov s.words s.own) := fun W w3 w4 wv ov e0 e1 e2 e3 h1 h2 h3 h4 => by
    have hz : W.heap.size = w.heap.size := by rw [e0]
    have hb : Below w.heap.size w w3 := ⟨h2.os.trans e1, h2.tape.trans e2, h2.output.trans e3, by have := h2.size; omega, fun k hk => (h2.block k (by omega)).trans (by rw [e0])⟩
    have hb4 : Below w.heap.size w w4 := hb.trans (h4.mono hb.size)
    rw [hz] at h1
    refine ⟨heap_alloc_new _ _, (fam_keeps h1 (fun g hg => h4.block g (h1.lt g hg).2)).alloc _, (own_low h3 hb.size).alloc _, hb4.size, fun e => ?_, fun e => ?_, fun g e1 e2 => ?_, hb4.alloc hb4.size _⟩
    · have := (h1.lt _ e).2
      have := h4.size
      omega
    · have := (h3.lt _ e).2; omega
    · have := (h1.lt _ e1).2
      have := (h3.lt _ e2).1
      omega
  obtain ⟨m, hmm⟩ : ∃ m, s.words.length = m := ⟨_, rfl⟩
  obtain ⟨k, hkk⟩ : ∃ m, s.own.length = m := ⟨_, rfl⟩
  rw [hmm] at m0 HC1 HFIN
  rw [hkk] at m1 HC2 HFIN
  clear hs ew eo hm hl hmm hkk
  go_enter Tryz.func161, Tryz.ntmps161
  go_wp2
  go_region_held3 (fun w' => w'.cell? ⟨mb, 0, none⟩ = some (.slice wa m wc) ∧ w'.cell? ⟨mb, 1, none⟩ = some (.slice oa k oc)) (refine ⟨?_, ?_⟩ <;> (repeat (first | assumption | refine cell_drw ?_ | refine cell_up ?_ _))) (first | (go_at_call 46; refine Calls.mono (HC1.out _ (by repeat (first | exact Below.refl _ _ | assumption | refine Below.drew ?_))) ?_; rintro e w3 ⟨a3, c3, rfl, ho3, hb3⟩; have z0 : w3.cell? ⟨mb, 0, none⟩ = some (.slice wa m wc) := (hb3.cell (p := ⟨mb, 0, none⟩) (lt_of_cell m0)).trans m0; have z1 : w3.cell? ⟨mb, 1, none⟩ = some (.slice oa k oc) := (hb3.cell (p := ⟨mb, 1, none⟩) (lt_of_cell m1)).trans m1; have hB3 : Below w.heap.size w w3 := ⟨hb3.os, hb3.tape, hb3.output, hb3.size, fun j hj => hb3.block j hj⟩) | (go_at_call 46; refine Calls.mono (HC2.out _ (by repeat (first | assumption | refine Below.drew ?_))) ?_; rintro e w4 ⟨a4, c4, rfl, ho4, hb4⟩; have y0 : w4.cell? ⟨mb, 0, none⟩ = some (.slice wa m wc) := (hb4.cell (p := ⟨mb, 0, none⟩) (lt_of_cell z0)).trans z0; have y1 : w4.cell? ⟨mb, 1, none⟩ = some (.slice oa k oc) := (hb4.cell (p := ⟨mb, 1, none⟩) (lt_of_cell z1)).trans z1))
  all_goals go_wp2
  all_goals go_ret
  all_goals exact ⟨_, _, _, rfl, HFIN.out w.drew w3 w4 _ _ rfl rfl rfl rfl ho3 hb3 ho4 hb4⟩
end

section
open Go.RowKit

section
variable {ι : Type} [DecidableEq ι] {wr w1 : World} {B : Nat} {ty : ι → TypeId} {sz : ι → Nat} {u : ι → Value} {n n1 : ι → Nat} {xs xs1 : ι → List Value}
/-- A row is copied, and laid into a table. -/
theorem Fam.copied (F : Fam wr B ty sz u n xs) {r p : ι} {x : Value} {m g i : Nat} {ys : List Value} (hB : B ≤ wr.heap.size) (hrp : r ≠ p) (h0 : (u r).ownBlock = none) (hrow : w1.ownsRow wr.heap.size (ty r) (sz r) x m ys) (hb : Below wr.heap.size wr w1) (hp : (u p).ownBlock = some g)
    (hn : n1 r = m) (hx : xs1 r = ys) (hnn : ∀ q, q ≠ r → n1 q = n q) (hxp : xs1 p = (xs p).set i x) (hxx : ∀ q, q ≠ r → q ≠ p → xs1 q = xs q) : Fam (w1.setCell ⟨g, i, none⟩ x) B ty sz (upd u r x) n1 xs1 := by
  have F1 := F.below hb
  have far : ∀ q k, (u q).ownBlock = some k → x.ownBlock ≠ some k := fun q k hk e => by
    have h1 := F.lt hk
    have h2 := (hrow.lt k e).1
    omega
  have F2 : Fam w1 B ty sz (upd u r x) (upd n r m) (upd xs r ys) := by
    refine ⟨fun q => ?_, fun a b k ha hb' => ?_⟩
    · by_cases hq : q = r
      · subst hq
        rw [upd_self, upd_self, upd_self]
        exact own_low hrow hB
      · rw [upd_ne _ _ hq, upd_ne _ _ hq, upd_ne _ _ hq]
        exact F1.own q
    · by_cases h1 : a = r
      · by_cases h2 : b = r
        · rw [h1, h2]
        · subst h1
          rw [upd_self] at ha
          rw [upd_ne _ _ h2] at hb'
          exact absurd ha (far b k hb')
      · rw [upd_ne _ _ h1] at ha
        by_cases h2 : b = r
        · subst h2
          rw [upd_self] at hb'
          exact absurd hb' (far a k ha)
        · rw [upd_ne _ _ h2] at hb'
          exact F.apart a b k ha hb'
  refine F2.put (r := p) (by rw [upd_ne _ _ (fun e => hrp e.symm)]; exact hp) i x (fun q => ?_) ?_ (fun q hq => ?_)
  · by_cases h : q = r
    · subst h; rw [upd_self]; exact hn
    · rw [upd_ne _ _ h]; exact hnn q h
  · rw [upd_ne _ _ (fun e => hrp e.symm)]; exact hxp
  · by_cases h : q = r
    · subst h; rw [upd_self]; exact hx
    · rw [upd_ne _ _ h]; exact hxx q h hq
end
/-- The roles of a memory. -/
def Rp.isMem : Rp → Bool
  | .mem => true
  | .words => true
  | .own => true
  | .box => true
  | .bufs => true
  | .buf _ => true
  | _ => false
/-- A memory that has just been made: its rows. -/
structure MemC (w w' : World) (Q : Cd) (mb : Nat) (v : Rp → Value) (s : Sx) : Prop where
  own : ∀ r, r.isMem = true → w'.ownsRow w.heap.size (pTy Q.K r) (pSz r) (v r) (pN Q s r) (pX Q mb v s r)
  apart : ∀ r q g, r.isMem = true → q.isMem = true → (v r).ownBlock = some g → (v q).ownBlock = some g → r = q
  mem : v .mem = boxV mb
  box : Q.K.bf = true → v .box = boxV Q.bb
  below : Below w.heap.size w w'
/-- The rows of a plain memory. -/
def p1V (mb : Nat) (wv ov : Value) : Rp → Value
  | .mem => boxV mb
  | .words => wv
  | .own => ov
  | _ => nilV
theorem Mem1.c {w w' : World} {mb : Nat} {wv ov : Value} {s : Sx} (h : Mem1 w w' mb wv ov s.words s.own) {Q : Cd} (hK : Q.K = plainK) : MemC w w' Q mb (p1V mb wv ov) s := by
  have hbf : Q.K.bf = false := by rw [hK]; rfl
  refine ⟨fun r hr => ?_, fun r q k hr hq h1 h2 => ?_, rfl, (fun hb => by rw [hbf] at hb; cases hb), h.below⟩
  · cases r with
    | mem => exact fam_box (xs := [wv, ov]) h.lo h.box
    | words => exact h.wrow
    | own => exact h.orow
    | box => simp only [pN, pX, hbf]; exact World.ownsRow_nil _ _ _ _
    | bufs => simp only [pN, pX, hbf]; exact World.ownsRow_nil _ _ _ _
    | buf t => simp only [pN, pX, hbf]; exact World.ownsRow_nil _ _ _ _
    | _ => cases hr
  · have s3 : ∀ k, (nilV).ownBlock = some k → False := fun k e => by simp [Value.ownBlock] at e
    have s1 : (boxV mb).ownBlock = some k → k = mb := fun e => by simpa [Value.ownBlock] using e.symm
    have key : ∀ r, (p1V mb wv ov r).ownBlock = some k → (r = .mem ∧ k = mb) ∨ (r = .words ∧ wv.ownBlock = some k) ∨ (r = .own ∧ ov.ownBlock = some k) := fun r e => by
      cases r with
      | mem => exact .inl ⟨rfl, s1 e⟩
      | words => exact .inr (.inl ⟨rfl, e⟩)
      | own => exact .inr (.inr ⟨rfl, e⟩)
      | _ => exact (s3 _ e).elim
    have a1 := h.a1
    have a2 := h.a2
    have a3 := h.a3
    rcases key r h1 with ⟨rfl, e1⟩ | ⟨rfl, e1⟩ | ⟨rfl, e1⟩ <;> rcases key q h2 with ⟨rfl, e2⟩ | ⟨rfl, e2⟩ | ⟨rfl, e2⟩ <;> first | rfl | (subst e1; exact absurd e2 (by assumption)) | (subst e2; exact absurd e1 (by assumption)) | (exact absurd e2 (a3 _ e1)) | (exact absurd e1 (a3 _ e2))
/-- What must be known of a state that is copied. -/
structure KOk (Q : Cd) (s : Sx) : Prop where
  nt : Q.nt = s.ths.length
  n0 : 0 < s.ths.length
  n4 : s.ths.length ≤ 4
  rg0 : ∀ t, t < s.ths.length → 0 < (thOf s t).regs.length
  rg : ∀ t, t < s.ths.length → (thOf s t).regs.length ≤ 200
  wl : ∀ t, t < s.ths.length → (thOf s t).wait.length ≤ 3
  words : s.words.length ≤ 64
  own : s.own.length ≤ 4
  pr : s.prints.length ≤ 10000
def Cd.at (Q : Cd) (bb : Nat) : Cd := { Q with bb := bb }
/-- Copies of a kind of memory. -/
structure MClone (K : Mk) (cf : Nat) : Prop where
  mClone : ∀ (a : Addr) (w : World), (method 325 K.tid (.pointer (some a)) "Clone").run Tryz.prog w = .ok (cf, .pointer (some a)) w
  cClone : ∀ (xs : Array Value) (w : World), (callFunc cf xs).run Tryz.prog w = .ok (.enter cf xs) w
  clone : ∀ (w : World) (B : Nat) (Q : Cd) (sb mb : Nat) (v : Rp → Value) (s : Sx), Q.K = K → QSt w B Q sb mb v s → KOk Q s →
    Calls Tryz.prog cf #[.pointer (some ⟨Q.top mb, 0, none⟩)] w fun e w' => ∃ mb' bb' vm, e = .returned (.iface K.tid (.pointer (some ⟨(Q.at bb').top mb', 0, none⟩))) ∧ MemC w w' (Q.at bb') mb' vm s
set_option maxRecDepth 100000 in
set_option maxHeartbeats 1600000 in
theorem plain_clone : MClone plainK 164 where
  mClone a w := by kernel_rfl
  cClone xs w := by kernel_rfl
  clone w B Q sb mb v s hK hs ho := by
    rw [plain_top hK]
    have HC := Hid.out (p := Hid _) (pcopy_any w B Q sb mb v s hs ho.words ho.own)
    have HK : Hid (Q.K = plainK) := hK
    clear hs ho hK
    go_enter Tryz.func164, Tryz.ntmps164
    go_wp2_with fail
    refine Calls.mono HC.out ?_
    rintro e w1 ⟨mb', wv, ov, rfl, hM⟩
    have HM := Hid.out (p := Hid _) hM
    clear HC hM
    go_wp2_with fail
    go_ret
    refine ⟨mb', 0, p1V mb' wv ov, ?_, HM.out.c (Q := Q.at 0) HK.out⟩
    rw [plain_top (Q := Q.at 0) HK.out]
    rfl
end

section
open Go.RowKit

/-- What was copied of the first j buffers. -/
def cbN (Q : Cd) (s : Sx) (j : Nat) : Rp → Nat
  | .bufs => Q.nt
  | .buf t => if t < j then (thOf s t).wait.length else 0
  | _ => 0
def cbX (Q : Cd) (v : Rp → Value) (s : Sx) (u : Rp → Value) (j : Nat) : Rp → List Value
  | .bufs => (List.range Q.nt).map fun t => if t < j then u (.buf t) else v (.buf t)
  | .buf t => if t < j then waitV (thOf s t).wait else []
  | _ => []
structure ClB (w wr : World) (Q : Cd) (v : Rp → Value) (s : Sx) (u : Rp → Value) (j : Nat) : Prop where
  fam : Fam wr w.heap.size (pTy Q.K) pSz u (cbN Q s j) (cbX Q v s u j)
  nils : ∀ r, r ≠ .bufs → (∀ t, t < j → r ≠ .buf t) → u r = nilV
  below : Below w.heap.size w wr
theorem waitV_one (l : List Wt) : ∀ u ∈ waitV l, u.oneCell' = true := fun u hu => by
  unfold waitV rows3 at hu
  obtain ⟨i, _, rfl⟩ := List.mem_map.mp hu
  exact waitC_one _ _
section
variable {w wr w1 : World} {B : Nat} {Q : Cd} {sb mb : Nat} {v u : Rp → Value} {s : Sx} {j : Nat}
theorem ClB.start {x : Value} (hx : wr.ownsRow w.heap.size (pTy Q.K .bufs) 1 x Q.nt ((List.range Q.nt).map fun t => v (.buf t))) (hb : Below w.heap.size w wr) : ClB w wr Q v s (fun r => if r = .bufs then x else nilV) 0 := by
  refine ⟨⟨fun r => ?_, fun r q g hr hq => ?_⟩, fun r hr _ => if_neg hr, hb⟩
  · cases r with
    | bufs =>
      show wr.ownsRow _ _ 1 x Q.nt ((List.range Q.nt).map fun t => if t < 0 then _ else v (.buf t))
      simpa using hx
    | buf t =>
      have e1 : cbN Q s 0 (.buf t) = 0 := by simp [cbN]
      have e2 : cbX Q v s (fun r => if r = .bufs then x else nilV) 0 (.buf t) = [] := by simp [cbX]
      rw [e1, e2]
      exact World.ownsRow_nil _ _ _ _
    | _ => exact World.ownsRow_nil _ _ _ _
  · have key : ∀ y : Rp, ((if y = .bufs then x else nilV : Value)).ownBlock = some g → y = .bufs := fun y hy => by
      by_cases e : y = .bufs
      · exact e
      · rw [if_neg e] at hy; simp [Value.ownBlock] at hy
    rw [key r hr, key q hq]
theorem ClB.next (h : ClB w wr Q v s u j) (hj : j < Q.nt) {g : Nat} (hg : (u .bufs).ownBlock = some g) {x : Value} (hrow : w1.ownsRow wr.heap.size (pTy Q.K (.buf j)) 3 x (thOf s j).wait.length (waitV (thOf s j).wait)) (hb : Below wr.heap.size wr w1) : ClB w (w1.setCell ⟨g, j, none⟩ x) Q v s (upd u (.buf j) x) (j + 1) := by
  have h0 : u (.buf j) = nilV := h.nils _ (by simp) (fun t ht e => by injection e with e; omega)
  have hgl : w.heap.size ≤ g := h.fam.low _ g hg
  refine ⟨h.fam.copied (r := .buf j) (p := .bufs) h.below.size (by simp) (by rw [h0]; rfl) hrow hb hg ?_ ?_ (fun q hq => ?_) ?_ (fun q h1 h2 => ?_), fun r h1 h2 => ?_, (h.below.trans (hb.mono h.below.size)).setCell hgl _⟩
  · show (if j < j + 1 then _ else 0) = _
    rw [if_pos (by omega)]
  · show (if j < j + 1 then _ else []) = _
    rw [if_pos (by omega)]
  · cases q with
    | buf t =>
      have hne : t ≠ j := fun e => hq (by rw [e])
      show (if t < j + 1 then _ else 0) = if t < j then _ else 0
      by_cases h3 : t < j
      · rw [if_pos h3, if_pos (by omega)]
      · rw [if_neg h3, if_neg (by omega)]
    | _ => rfl
  · refine List.ext_getElem? fun i => ?_
    show ((List.range Q.nt).map fun t => if t < j + 1 then upd u (.buf j) x (.buf t) else v (.buf t))[i]? = (((List.range Q.nt).map fun t => if t < j then u (.buf t) else v (.buf t)).set j x)[i]?
    rw [List.getElem?_set, List.getElem?_map, List.getElem?_map]
    by_cases hi : i < Q.nt
    · rw [List.getElem?_range hi]
      by_cases he : j = i
      · subst he
        rw [if_pos rfl, if_pos (by simpa using hi)]
        show some (if j < j + 1 then upd u (.buf j) x (.buf j) else _) = _
        rw [if_pos (by omega), upd_self]
      · rw [if_neg he]
        show some (if i < j + 1 then upd u (.buf j) x (.buf i) else _) = some (if i < j then _ else _)
        rw [upd_ne _ _ (by intro e; injection e with e; exact he e.symm)]
        by_cases h3 : i < j
        · rw [if_pos h3, if_pos (by omega)]
        · rw [if_neg h3, if_neg (by omega)]
    · rw [List.getElem?_eq_none (by simpa using hi)]
      have : ¬ j = i := by omega
      rw [if_neg this]
      rfl
  · cases q with
    | bufs => exact absurd rfl h2
    | buf t =>
      have hne : t ≠ j := fun e => h1 (by rw [e])
      show (if t < j + 1 then _ else []) = if t < j then _ else []
      by_cases h3 : t < j
      · rw [if_pos h3, if_pos (by omega)]
      · rw [if_neg h3, if_neg (by omega)]
    | _ => rfl
  · rw [upd_ne _ _ (h2 j (by omega))]
    exact h.nils r h1 (fun t ht => h2 t (by omega))
end
/-- The rows of a copied memory with buffers. -/
def b1V (mb bb : Nat) (wv ov : Value) (u : Rp → Value) : Rp → Value
  | .mem => boxV mb
  | .words => wv
  | .own => ov
  | .box => boxV bb
  | .bufs => u .bufs
  | .buf t => u (.buf t)
  | _ => nilV
theorem ClB.c {w w2 w3 : World} {Q : Cd} {v u : Rp → Value} {s : Sx} {mb : Nat} {wv ov : Value} (h : ClB w w2 Q v s u Q.nt) (hM : Mem1 w2 w3 mb wv ov s.words s.own) (hK : Q.K = bufK) (hw : ∀ t, Q.nt ≤ t → (thOf s t).wait = []) :
    MemC w (w3.alloc (.cells #[.pointer (some ⟨mb, 0, none⟩), u .bufs] 101)) (Q.at w3.heap.size) mb (b1V mb w3.heap.size wv ov u) s := by
  have hbf : Q.K.bf = true := buf_bf hK
  have hz := h.below.size
  have h3 := hM.below
  have lm : mb < w3.heap.size := box_lt hM.box
  have hu : ∀ r k, (u r).ownBlock = some k → k < w2.heap.size := fun r k e => h.fam.lt e
  have hwl : ∀ k, wv.ownBlock = some k → w2.heap.size ≤ k ∧ k < w3.heap.size := fun k e => hM.wrow.lt k e
  have hol : ∀ k, ov.ownBlock = some k → w2.heap.size ≤ k ∧ k < w3.heap.size := fun k e => hM.orow.lt k e
  refine ⟨fun r hr => ?_, fun r q k hr hq h1 h2 => ?_, rfl, fun _ => rfl, (h.below.trans (h3.mono hz)).alloc (Nat.le_trans hz h3.size) _⟩
  · cases r with
    | mem => exact (fam_box (xs := [wv, ov]) (Nat.le_trans hz hM.lo) hM.box).alloc _
    | words => exact (own_low hM.wrow hz).alloc _
    | own => exact (own_low hM.orow hz).alloc _
    | box =>
      have e1 : pN (Q.at w3.heap.size) s .box = 1 := by show (if Q.K.bf then 1 else 0) = 1; rw [hbf]; rfl
      have e2 : pX (Q.at w3.heap.size) mb (b1V mb w3.heap.size wv ov u) s .box = [.pointer (some ⟨mb, 0, none⟩), u .bufs] := by show (if Q.K.bf then _ else _) = _; rw [hbf]; rfl
      have e3 : pTy (Q.at w3.heap.size).K .box = 101 := by show Q.K.bty = _; rw [hK]; rfl
      rw [e1, e2, e3]
      exact fam_box (xs := [.pointer (some ⟨mb, 0, none⟩), u .bufs]) (Nat.le_trans hz h3.size) (heap_alloc_new _ _)
    | bufs =>
      have e1 : pN (Q.at w3.heap.size) s .bufs = Q.nt := by show (if Q.K.bf then Q.nt else 0) = _; rw [hbf]; rfl
      have e2 : pX (Q.at w3.heap.size) mb (b1V mb w3.heap.size wv ov u) s .bufs = cbX Q v s u Q.nt .bufs := by
        show (if Q.K.bf then (List.range Q.nt).map (fun t => u (.buf t)) else []) = (List.range Q.nt).map fun t => if t < Q.nt then u (.buf t) else v (.buf t)
        rw [hbf, if_pos rfl]
        refine List.map_congr_left fun t ht => ?_
        rw [if_pos (by simpa using ht)]
      rw [e1, e2]
      exact (fam_keeps (h.fam.own .bufs) (fun g hg => h3.block g (h.fam.lt hg))).alloc _
    | buf t =>
      have e1 : pN (Q.at w3.heap.size) s (.buf t) = cbN Q s Q.nt (.buf t) := by
        show (if Q.K.bf then (thOf s t).wait.length else 0) = if t < Q.nt then (thOf s t).wait.length else 0
        rw [hbf, if_pos rfl]
        by_cases ht : t < Q.nt
        · rw [if_pos ht]
        · rw [if_neg ht, hw t (by omega)]; rfl
      have e2 : pX (Q.at w3.heap.size) mb (b1V mb w3.heap.size wv ov u) s (.buf t) = cbX Q v s u Q.nt (.buf t) := by
        show (if Q.K.bf then waitV (thOf s t).wait else []) = if t < Q.nt then waitV (thOf s t).wait else []
        rw [hbf, if_pos rfl]
        by_cases ht : t < Q.nt
        · rw [if_pos ht]
        · rw [if_neg ht, hw t (by omega)]; rfl
      rw [e1, e2]
      exact (fam_keeps (h.fam.own (.buf t)) (fun g hg => h3.block g (h.fam.lt hg))).alloc _
    | _ => cases hr
  · have s1 : ∀ b, (boxV b).ownBlock = some k → k = b := fun b e => by simpa [Value.ownBlock] using e.symm
    have a1 := hM.a1
    have a2 := hM.a2
    have a3 := hM.a3
    have hlo := hM.lo
    have key : ∀ r, r.isMem = true → (b1V mb w3.heap.size wv ov u r).ownBlock = some k → (r = .mem ∧ k = mb) ∨ (r = .words ∧ wv.ownBlock = some k) ∨ (r = .own ∧ ov.ownBlock = some k) ∨ (r = .box ∧ k = w3.heap.size) ∨ (k < w2.heap.size ∧ (u r).ownBlock = some k) := fun r hr e => by
      cases r with
      | mem => exact .inl ⟨rfl, s1 _ e⟩
      | words => exact .inr (.inl ⟨rfl, e⟩)
      | own => exact .inr (.inr (.inl ⟨rfl, e⟩))
      | box => exact .inr (.inr (.inr (.inl ⟨rfl, s1 _ e⟩)))
      | bufs => exact .inr (.inr (.inr (.inr ⟨hu _ _ e, e⟩)))
      | buf t => exact .inr (.inr (.inr (.inr ⟨hu _ _ e, e⟩)))
      | _ => cases hr
    have hs3 := h3.size
    rcases key r hr h1 with ⟨rfl, e1⟩ | ⟨rfl, e1⟩ | ⟨rfl, e1⟩ | ⟨rfl, e1⟩ | ⟨e1, e1'⟩ <;> rcases key q hq h2 with ⟨rfl, e2⟩ | ⟨rfl, e2⟩ | ⟨rfl, e2⟩ | ⟨rfl, e2⟩ | ⟨e2, e2'⟩ <;> first | rfl | (exfalso; omega) | (subst e1; exact absurd e2 (by assumption)) | (subst e2; exact absurd e1 (by assumption)) | (exact absurd e2 (a3 _ e1)) | (exact absurd e1 (a3 _ e2)) | (exfalso; have := hwl _ e1; omega) | (exfalso; have := hwl _ e2; omega) | (exfalso; have := hol _ e1; omega) | (exfalso; have := hol _ e2; omega) | exact h.fam.apart r q k e1' e2'

theorem thOf_out {s : Sx} {t : Nat} (h : s.ths.length ≤ t) : (thOf s t).wait = [] := by
  unfold thOf
  rw [List.getD_eq_getElem?_getD, List.getElem?_eq_none h]
  rfl
set_option maxRecDepth 100000 in
set_option maxHeartbeats 3200000 in
theorem bcopy_any (w : World) (B : Nat) (Q : Cd) (sb mb : Nat) (v : Rp → Value) (s : Sx) (hK : Q.K = bufK) (hs : QSt w B Q sb mb v s) (ho : KOk Q s) :
    Calls Tryz.prog 148 #[.pointer (some ⟨Q.bb, 0, none⟩)] w fun e w' => ∃ mb' bb' vm, e = .returned (.pointer (some ⟨bb', 0, none⟩)) ∧ MemC w w' (Q.at bb') mb' vm s := by
  have hb := buf_bf hK
  have hn0 : 0 < Q.nt := by rw [ho.nt]; exact ho.n0
  have hn4 : Q.nt ≤ 4 := by rw [ho.nt]; exact ho.n4
  obtain ⟨lb, lc, hlv, hlb, _⟩ := hs.bufsB hb hn0
  have b0 := hs.b0 hb
  have b1 := hs.b1 hb
  rw [hlv] at b1
  have hrow0 := hs.fam.own .bufs
  have eN : pN Q s .bufs = Q.nt := by show (if Q.K.bf then Q.nt else 0) = _; rw [hb]; rfl
  have eX : pX Q mb v s .bufs = (List.range Q.nt).map fun t => v (.buf t) := by show (if Q.K.bf then _ else []) = _; rw [hb]; rfl
  rw [eN, eX] at hrow0
  have hty : pTy Q.K .bufs = 207 := by show Q.K.lty = _; rw [hK]; rfl
  have hty2 : ∀ t, pTy Q.K (.buf t) = 212 := fun t => by show Q.K.sty = _; rw [hK]; rfl
  have hone : ∀ y ∈ (List.range Q.nt).map fun t => v (.buf t), y.oneCell' = true := fun y hy => by
    obtain ⟨t, _, rfl⟩ := List.mem_map.mp hy
    obtain ⟨a, c, e⟩ := hs.bufV hb t
    rw [e]; rfl
  have HC1 : Hid (Calls Tryz.prog 159 #[.slice (some ⟨lb, 0, none⟩) Q.nt lc] w fun e w' => ∃ g c', e = .returned (.slice (some ⟨g, 0, none⟩) Q.nt c') ∧ Hid (ClB w w' Q v s (fun r => if r = .bufs then .slice (some ⟨g, 0, none⟩) Q.nt c' else nilV) 0)) := by
    have h1 := hrow0
    rw [hty, hlv] at h1
    refine (cloneL_any w B _ _ _ h1 hone (by omega)).mono fun e w' ⟨x, he, hx, hbx⟩ => ?_
    obtain ⟨g, cap, rfl, _, _, _⟩ := fam_block hx hn0
    exact ⟨g, cap, he, ClB.start (by rw [hty]; exact hx) hbx⟩
  have HC2 : Hid (∀ W t, t < Q.nt → Below w.heap.size w W → ∃ qa qk qc, v (.buf t) = .slice qa qk qc ∧ Hid (Calls Tryz.prog 160 #[.slice qa qk qc] W fun e w' => ∃ a' k' c', e = .returned (.slice a' k' c') ∧ w'.ownsRow W.heap.size (pTy Q.K (.buf t)) 3 (.slice a' k' c') (thOf s t).wait.length (waitV (thOf s t).wait) ∧ Below W.heap.size W w')) := fun W t ht hbw => by
    obtain ⟨a, c, e⟩ := hs.bufV hb t
    have h1 := (hs.below hbw).bufO hb t
    rw [e, show Q.K.sty = 212 by rw [hK]; rfl] at h1
    refine ⟨a, _, c, e, (cloneS_any W B _ _ _ h1 (waitV_one _) (by have := ho.wl t (by rw [← ho.nt]; exact ht); omega)).mono fun e w' ⟨x, he, hx, hbx⟩ => ?_⟩
    obtain ⟨a', c', rfl⟩ := fam_form hx
    exact ⟨a', _, c', he, by rw [hty2]; exact hx, hbx⟩
  have HC3 : Hid (∀ W, Below w.heap.size w W → Calls Tryz.prog 161 #[.pointer (some ⟨mb, 0, none⟩)] W fun e w' => ∃ mb' wv ov, e = .returned (.pointer (some ⟨mb', 0, none⟩)) ∧ Mem1 W w' mb' wv ov s.words s.own) := fun W hbw => pcopy_any W B Q sb mb v s (hs.below hbw) ho.words ho.own
  have HOUT : Hid (∀ t, Q.nt ≤ t → (thOf s t).wait = []) := fun t ht => thOf_out (by rw [← ho.nt]; exact ht)
  have HK : Hid (Q.K = bufK) := hK
  obtain ⟨n, hn⟩ : ∃ n, Q.nt = n := ⟨_, rfl⟩
  have HN : Hid (Q.nt = n) := hn
  rw [hn] at b1 HC1 HC2 hn0 hn4
  have HCEL : Hid (∀ W u j g c', ClB w W Q v s u j → u .bufs = .slice (some ⟨g, 0, none⟩) n c' → j < n → W.cell? ⟨g, j, none⟩ = some (v (.buf j)) ∧ W.frozen? ⟨g, j, none⟩ = false) := fun W u j g c' h e hj => by
    have hg : (u .bufs).ownBlock = some g := by rw [e]; rfl
    refine ⟨h.fam.cell hg ?_, h.fam.frozen hg j⟩
    show ((List.range Q.nt).map fun t => if t < j then u (.buf t) else v (.buf t))[j]? = _
    rw [List.getElem?_map, List.getElem?_range (by omega)]
    show some (if j < j then _ else _) = _
    rw [if_neg (by omega)]
  clear hs hlv hlb hrow0 eN eX hone hty hty2 hK ho hn hb
  go_enter Tryz.func148, Tryz.ntmps148
  go_wp2_with fail
  refine Calls.mono HC1.out ?_
  rintro e w1 ⟨g, c1, rfl, HB⟩
  clear HC1 b1
  go_wp2_with fail
  go_loopw [12] (fun i wr => ∃ (j : Nat) (u : Rp → Value), j ≤ n ∧ i = .int .i64 j ∧ Hid (ClB w wr Q v s u j ∧ u .bufs = .slice (some ⟨g, 0, none⟩) n c1)) (fun i _ => n - (intOf i).toNat)
  case atStart => exact ⟨0, _, Nat.zero_le _, rfl, HB.out, rfl⟩
  case round =>
    obtain ⟨j, u, hj, rfl, HJ⟩ := hrel
    clear HB
    by_cases hlt : j < n
    · obtain ⟨ce, cf⟩ := HCEL.out _ _ _ _ _ HJ.out.1 HJ.out.2 hlt
      obtain ⟨qa, qk, qc, eq, HC4⟩ := HC2.out wr j hlt HJ.out.1.below
      rw [eq] at ce
      clear eq
      go_wp2_with fail
      refine Calls.mono HC4.out ?_
      rintro e w2 ⟨a2, k2, c2, rfl, hr2, hb2⟩
      have ce2 := (hb2.cell (lt_of_cell ce)).trans ce
      have cf2 : w2.frozen? ⟨g, j, none⟩ = false := (hb2.frozen (p := ⟨g, j, none⟩) (lt_of_cell ce)).trans cf
      have HN2 : Hid (ClB w (w2.setCell ⟨g, j, none⟩ (.slice a2 k2 c2)) Q v s (upd u (.buf j) (.slice a2 k2 c2)) (j + 1) ∧ upd u (.buf j) (.slice a2 k2 c2) .bufs = .slice (some ⟨g, 0, none⟩) n c1) :=
        ⟨HJ.out.1.next (by rw [HN.out]; exact hlt) (by rw [HJ.out.2]; rfl) hr2 hb2, by rw [upd_ne _ _ (by simp)]; exact HJ.out.2⟩
      clear HC4 hr2 hb2 HJ ce cf
      go_wp2_with fail
      go_roundw
      case rel => exact ⟨j + 1, _, by omega, by go_num, HN2⟩
      case measure => simp [intOf]; omega
    · obtain rfl : j = n := by omega
      have b0r := (HJ.out.1.below.cell (lt_of_cell b0)).trans b0
      have HC5 := Hid.out (p := Hid _) (HC3.out wr HJ.out.1.below)
      go_wp2_with fail
      refine Calls.mono HC5.out ?_
      rintro e w2 ⟨mb', wv, ov, rfl, hM⟩
      have HR : Hid (MemC w (w2.alloc (.cells #[.pointer (some ⟨mb', 0, none⟩), .slice (some ⟨g, 0, none⟩) j c1] 101)) (Q.at w2.heap.size) mb' (b1V mb' w2.heap.size wv ov u) s) := by
        have h1 := HJ.out.1
        rw [← HN.out] at h1
        have h2 := h1.c hM HK.out HOUT.out
        rw [HJ.out.2] at h2
        exact h2
      clear HC5 hM HJ b0r
      go_wp2_with fail
      go_ret
      exact ⟨mb', w2.heap.size, _, rfl, HR.out⟩
theorem buf_clone : MClone bufK 136 where
  mClone a w := by kernel_rfl
  cClone xs w := by kernel_rfl
  clone w B Q sb mb v s hK hs ho := by
    rw [buf_top hK]
    have HC := Hid.out (p := Hid _) (bcopy_any w B Q sb mb v s hK hs ho)
    have HK : Hid (Q.K = bufK) := hK
    clear hs ho hK
    go_enter Tryz.func136, Tryz.ntmps136
    go_wp2_with fail
    refine Calls.mono HC.out ?_
    rintro e w1 ⟨mb', bb', vm, rfl, hM⟩
    have HM := Hid.out (p := Hid _) hM
    clear HC hM
    go_wp2_with fail
    go_ret
    refine ⟨mb', bb', vm, ?_, HM.out⟩
    rw [buf_top (Q := Q.at bb') HK.out]
    rfl
end

end Go.Proofs.YtefnmbnakphhfadGreatDoor
