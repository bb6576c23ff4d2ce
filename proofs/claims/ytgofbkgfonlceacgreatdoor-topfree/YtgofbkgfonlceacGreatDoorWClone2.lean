/-
  Copies of memories.
  Copies of memories, as the program's state holds them.
  A memory with buffers that has just been made.
-/
import Derived.Test.YtgofbkgfonlceacGreatDoorPLoad
import Derived.Test.YtgofbkgfonlceacGreatDoorPNew2
import Derived.Test.YtgofbkgfonlceacGreatDoorRMay
import Derived.Deep.RegionHeld3
namespace Go.Proofs.YtgofbkgfonlceacGreatDoor
section
open Go.RowKit

/-- A plain memory that has just been made, in the block mb. -/
structure Mem1 (w w' : World) (mb : Nat) (wv ov : Value) (words own : List Int) : Prop where
  box : w'.heap[mb]? = some (.cells #[wv, ov] 117 (0, 0))
  wrow : w'.ownsRow w.heap.size 3 1 wv words.length (intsV words)
  orow : w'.ownsRow w.heap.size 3 1 ov own.length (intsV own)
  lo : w.heap.size ≤ mb
  a1 : wv.ownBlock ≠ some mb
  a2 : ov.ownBlock ≠ some mb
  a3 : ∀ g, wv.ownBlock = some g → ov.ownBlock ≠ some g
  below : Below w.heap.size w w'
theorem cloneI_row (w : World) (B : Nat) (a : Option Addr) (c : Nat) (l : List Int) (hown : w.ownsRow B 3 1 (.slice a l.length c) l.length (intsV l)) (hn : l.length ≤ 1000000) :
    Calls Tryz.prog 50 #[.slice a l.length c] w fun e w' => ∃ a' c', e = .returned (.slice a' l.length c') ∧ w'.ownsRow w.heap.size 3 1 (.slice a' l.length c') l.length (intsV l) ∧ Below w.heap.size w w' :=
  (cloneI_any w B _ _ _ hown (intsV_one l) hn).mono fun e w' ⟨u, h1, h2, h3⟩ => by
    obtain ⟨a', c', rfl⟩ := fam_form h2
    exact ⟨a', c', h1, h2, h3⟩
set_option maxRecDepth 100000 in
set_option maxHeartbeats 3200000 in
theorem pcopy_any (w : World) (B : Nat) (Q : Cd) (sb mb : Nat) (v : Rp → Value) (s : Sx) (hs : QSt w B Q sb mb v s) (hm : s.words.length ≤ 64) (hl : s.own.length ≤ 4) :
    Calls Tryz.prog 189 #[.pointer (some ⟨mb, 0, none⟩)] w fun e w' => ∃ mb' wv ov, e = .returned (.pointer (some ⟨mb', 0, none⟩)) ∧ Mem1 w w' mb' wv ov s.words s.own := by
  obtain ⟨wa, wc, ew⟩ := hs.form .words
  change v .words = .slice wa s.words.length wc at ew
  obtain ⟨oa, oc, eo⟩ := hs.form .own
  change v .own = .slice oa s.own.length oc at eo
  have m0 := hs.m0
  rw [ew] at m0
  have m1 := hs.m1
  rw [eo] at m1
  have HC1 : Hid (∀ W, Below w.heap.size w W → Calls Tryz.prog 50 #[.slice wa s.words.length wc] W fun e w' => ∃ a' c', e = .returned (.slice a' s.words.length c') ∧ w'.ownsRow W.heap.size 3 1 (.slice a' s.words.length c') s.words.length (intsV s.words) ∧ Below W.heap.size W w') := fun W hb => by
    have h1 := (hs.below hb).fam.own .words
    rw [ew] at h1
    exact cloneI_row W B wa wc s.words h1 (by omega)
  have HC2 : Hid (∀ W, Below w.heap.size w W → Calls Tryz.prog 50 #[.slice oa s.own.length oc] W fun e w' => ∃ a' c', e = .returned (.slice a' s.own.length c') ∧ w'.ownsRow W.heap.size 3 1 (.slice a' s.own.length c') s.own.length (intsV s.own) ∧ Below W.heap.size W w') := fun W hb => by
    have h1 := (hs.below hb).fam.own .own
    rw [eo] at h1
    exact cloneI_row W B oa oc s.own h1 (by omega)
  have HFIN : Hid (∀ (W w3 w4 : World) (wv ov : Value), W.heap = w.heap → W.os = w.os → W.tape = w.tape → W.output = w.output → w3.ownsRow W.heap.size 3 1 wv s.words.length (intsV s.words) → Below W.heap.size W w3 → w4.ownsRow w3.heap.size 3 1 ov s.own.length (intsV s.own) → Below w3.heap.size w3 w4 → Mem1 w (w4.alloc (.cells #[wv, ov] 117)) w4.heap.size wv ov s.words s.own) := fun W w3 w4 wv ov e0 e1 e2 e3 h1 h2 h3 h4 => by
    have hz : W.heap.size = w.heap.size := by rw [e0]
    have hb : Below w.heap.size w w3 := ⟨h2.os.trans e1, h2.tape.trans e2, h2.output.trans e3, by have := h2.size; omega, fun k hk => (h2.block k (by omega)).trans (by rw [e0])⟩
    have hb4 : Below w.heap.size w w4 := hb.trans (h4.mono hb.size)
    rw [hz] at h1
    refine ⟨heap_alloc_new _ _, (fam_keeps h1 (fun g hg => h4.block g (h1.lt g hg).2)).alloc _, (own_low h3 hb.size).alloc _, hb4.size, fun e => ?_, fun e => ?_, fun g e1 e2 => ?_, hb4.alloc hb4.size _⟩
    · have := (h1.lt _ e).2
      have := h4.size
      omega
    · have := (h3.lt _ e).2; omega
    · have := (h1.lt _ e1).2
      have := (h3.lt _ e2).1
      omega
  obtain ⟨m, hmm⟩ : ∃ m, s.words.length = m := ⟨_, rfl⟩
  obtain ⟨k, hkk⟩ : ∃ m, s.own.length = m := ⟨_, rfl⟩
  rw [hmm] at m0 HC1 HFIN
  rw [hkk] at m1 HC2 HFIN
  clear hs ew eo hm hl hmm hkk
  go_enter Tryz.func189, Tryz.ntmps189
  go_wp2
  go_region_held3 (fun w' => w'.cell? ⟨mb, 0, none⟩ = some (.slice wa m wc) ∧ w'.cell? ⟨mb, 1, none⟩ = some (.slice oa k oc)) (refine ⟨?_, ?_⟩ <;> (repeat (first | assumption | refine cell_drw ?_ | refine cell_up ?_ _))) (first | (go_at_call 50; refine Calls.mono (HC1.out _ (by repeat (first | exact Below.refl _ _ | assumption | refine Below.drew ?_))) ?_; rintro e w3 ⟨a3, c3, rfl, ho3, hb3⟩; have z0 : w3.cell? ⟨mb, 0, none⟩ = some (.slice wa m wc) := (hb3.cell (p := ⟨mb, 0, none⟩) (lt_of_cell m0)).trans m0; have z1 : w3.cell? ⟨mb, 1, none⟩ = some (.slice oa k oc) := (hb3.cell (p := ⟨mb, 1, none⟩) (lt_of_cell m1)).trans m1; have hB3 : Below w.heap.size w w3 := ⟨hb3.os, hb3.tape, hb3.output, hb3.size, fun j hj => hb3.block j hj⟩) | (go_at_call 50; refine Calls.mono (HC2.out _ (by repeat (first | assumption | refine Below.drew ?_))) ?_; rintro e w4 ⟨a4, c4, rfl, ho4, hb4⟩; have y0 : w4.cell? ⟨mb, 0, none⟩ = some (.slice wa m wc) := (hb4.cell (p := ⟨mb, 0, none⟩) (lt_of_cell z0)).trans z0; have y1 : w4.cell? ⟨mb, 1, none⟩ = some (.slice oa k oc) := (hb4.cell (p := ⟨mb, 1, none⟩) (lt_of_cell z1)).trans z1))
  all_goals go_wp2
  all_goals go_ret
  all_goals exact ⟨_, _, _, rfl, HFIN.out w.drew w3 w4 _ _ rfl rfl rfl rfl ho3 hb3 ho4 hb4⟩
end

section
open Go.RowKit

section
variable {ι : Type} [DecidableEq ι] {wr w1 : World} {B : Nat} {ty : ι → TypeId} {sz : ι → Nat} {u : ι → Value} {n n1 : ι → Nat} {xs xs1 : ι → List Value}
/-- A row is copied, and laid into a table. -/
theorem Fam.copied (F : Fam wr B ty sz u n xs) {r p : ι} {x : Value} {m g i : Nat} {ys : List Value} (hB : B ≤ wr.heap.size) (hrp : r ≠ p) (h0 : (u r).ownBlock = none) (hrow : w1.ownsRow wr.heap.size (ty r) (sz r) x m ys) (hb : Below wr.heap.size wr w1) (hp : (u p).ownBlock = some g)
    (hn : n1 r = m) (hx : xs1 r = ys) (hnn : ∀ q, q ≠ r → n1 q = n q) (hxp : xs1 p = (xs p).set i x) (hxx : ∀ q, q ≠ r → q ≠ p → xs1 q = xs q) : Fam (w1.setCell ⟨g, i, none⟩ x) B ty sz (upd u r x) n1 xs1 := by
  have F1 := F.below hb
  have far : ∀ q k, (u q).ownBlock = some k → x.ownBlock ≠ some k := fun q k hk e => by
    have h1 := F.lt hk
    have h2 := (hrow.lt k e).1
    omega
  have F2 : Fam w1 B ty sz (upd u r x) (upd n r m) (upd xs r ys) := by
    refine ⟨fun q => ?_, fun a b k ha hb' => ?_⟩
    · by_cases hq : q = r
      · subst hq
        rw [upd_self, upd_self, upd_self]
        exact own_low hrow hB
      · rw [upd_ne _ _ hq, upd_ne _ _ hq, upd_ne _ _ hq]
        exact F1.own q
    · by_cases h1 : a = r
      · by_cases h2 : b = r
        · rw [h1, h2]
        · subst h1
          rw [upd_self] at ha
          rw [upd_ne _ _ h2] at hb'
          exact absurd ha (far b k hb')
      · rw [upd_ne _ _ h1] at ha
        by_cases h2 : b = r
        · subst h2
          rw [upd_self] at hb'
          exact absurd hb' (far a k ha)
        · rw [upd_ne _ _ h2] at hb'
          exact F.apart a b k ha hb'
  refine F2.put (r := p) (by rw [upd_ne _ _ (fun e => hrp e.symm)]; exact hp) i x (fun q => ?_) ?_ (fun q hq => ?_)
  · by_cases h : q = r
    · subst h; rw [upd_self]; exact hn
    · rw [upd_ne _ _ h]; exact hnn q h
  · rw [upd_ne _ _ (fun e => hrp e.symm)]; exact hxp
  · by_cases h : q = r
    · subst h; rw [upd_self]; exact hx
    · rw [upd_ne _ _ h]; exact hxx q h hq
end
/-- The roles of a memory. -/
def Rp.isMem : Rp → Bool
  | .mem => true
  | .words => true
  | .own => true
  | .box => true
  | .bufs => true
  | .buf _ => true
  | _ => false
/-- A memory that has just been made: its rows. -/
structure MemC (w w' : World) (Q : Cd) (mb : Nat) (v : Rp → Value) (s : Sx) : Prop where
  own : ∀ r, r.isMem = true → w'.ownsRow w.heap.size (pTy Q.K r) (pSz r) (v r) (pN Q s r) (pX Q mb v s r)
  apart : ∀ r q g, r.isMem = true → q.isMem = true → (v r).ownBlock = some g → (v q).ownBlock = some g → r = q
  mem : v .mem = boxV mb
  box : Q.K.bf = true → v .box = boxV Q.bb
  below : Below w.heap.size w w'
/-- The rows of a plain memory. -/
def p1V (mb : Nat) (wv ov : Value) : Rp → Value
  | .mem => boxV mb
  | .words => wv
  | .own => ov
  | _ => nilV
theorem Mem1.c {w w' : World} {mb : Nat} {wv ov : Value} {s : Sx} (h : Mem1 w w' mb wv ov s.words s.own) {Q : Cd} (hK : Q.K = plainK) : MemC w w' Q mb (p1V mb wv ov) s := by
  have hbf : Q.K.bf = false := by rw [hK]; rfl
  refine ⟨fun r hr => ?_, fun r q k hr hq h1 h2 => ?_, rfl, (fun hb => by rw [hbf] at hb; cases hb), h.below⟩
  · cases r with
    | mem => exact fam_box (xs := [wv, ov]) h.lo h.box
    | words => exact h.wrow
    | own => exact h.orow
    | box => simp only [pN, pX, hbf]; exact World.ownsRow_nil _ _ _ _
    | bufs => simp only [pN, pX, hbf]; exact World.ownsRow_nil _ _ _ _
    | buf t => simp only [pN, pX, hbf]; exact World.ownsRow_nil _ _ _ _
    | _ => cases hr
  · have s3 : ∀ k, (nilV).ownBlock = some k → False := fun k e => by simp [Value.ownBlock] at e
    have s1 : (boxV mb).ownBlock = some k → k = mb := fun e => by simpa [Value.ownBlock] using e.symm
    have key : ∀ r, (p1V mb wv ov r).ownBlock = some k → (r = .mem ∧ k = mb) ∨ (r = .words ∧ wv.ownBlock = some k) ∨ (r = .own ∧ ov.ownBlock = some k) := fun r e => by
      cases r with
      | mem => exact .inl ⟨rfl, s1 e⟩
      | words => exact .inr (.inl ⟨rfl, e⟩)
      | own => exact .inr (.inr ⟨rfl, e⟩)
      | _ => exact (s3 _ e).elim
    have a1 := h.a1
    have a2 := h.a2
    have a3 := h.a3
    rcases key r h1 with ⟨rfl, e1⟩ | ⟨rfl, e1⟩ | ⟨rfl, e1⟩ <;> rcases key q h2 with ⟨rfl, e2⟩ | ⟨rfl, e2⟩ | ⟨rfl, e2⟩ <;> first | rfl | (subst e1; exact absurd e2 (by assumption)) | (subst e2; exact absurd e1 (by assumption)) | (exact absurd e2 (a3 _ e1)) | (exact absurd e1 (a3 _ e2))
/-- What must be known of a state that is copied. -/
structure KOk (Q : Cd) (s : Sx) : Prop where
  nt : Q.nt = s.ths.length
  n0 : 0 < s.ths.length
  n4 : s.ths.length ≤ 4
  rg0 : ∀ t, t < s.ths.length → 0 < (thOf s t).regs.length
  rg : ∀ t, t < s.ths.length → (thOf s t).regs.length ≤ 200
  wl : ∀ t, t < s.ths.length → (thOf s t).wait.length ≤ 3
  words : s.words.length ≤ 64
  own : s.own.length ≤ 4
  pr : s.prints.length ≤ 10000
def Cd.at (Q : Cd) (bb : Nat) : Cd := { Q with bb := bb }
/-- Copies of a kind of memory. -/
structure MClone (K : Mk) (cf : Nat) : Prop where
  mClone : ∀ (a : Addr) (w : World), (method 379 K.tid (.pointer (some a)) "Clone").run Tryz.prog w = .ok (cf, .pointer (some a)) w
  cClone : ∀ (xs : Array Value) (w : World), (callFunc cf xs).run Tryz.prog w = .ok (.enter cf xs) w
  clone : ∀ (w : World) (B : Nat) (Q : Cd) (sb mb : Nat) (v : Rp → Value) (s : Sx), Q.K = K → QSt w B Q sb mb v s → KOk Q s →
    Calls Tryz.prog cf #[.pointer (some ⟨Q.top mb, 0, none⟩)] w fun e w' => ∃ mb' bb' vm, e = .returned (.iface K.tid (.pointer (some ⟨(Q.at bb').top mb', 0, none⟩))) ∧ MemC w w' (Q.at bb') mb' vm s
set_option maxRecDepth 100000 in
set_option maxHeartbeats 1600000 in
theorem plain_clone : MClone plainK 178 where
  mClone a w := by kernel_rfl
  cClone xs w := by kernel_rfl
  clone w B Q sb mb v s hK hs ho := by
    rw [plain_top hK]
    have HC := Hid.out (p := Hid _) (pcopy_any w B Q sb mb v s hs ho.words ho.own)
    have HK : Hid (Q.K = plainK) := hK
    clear hs ho hK
    go_enter Tryz.func178, Tryz.ntmps178
    go_wp2_with fail
    refine Calls.mono HC.out ?_
    rintro e w1 ⟨mb', wv, ov, rfl, hM⟩
    have HM := Hid.out (p := Hid _) hM
    clear HC hM
    go_wp2_with fail
    go_ret
    refine ⟨mb', 0, p1V mb' wv ov, ?_, HM.out.c (Q := Q.at 0) HK.out⟩
    rw [plain_top (Q := Q.at 0) HK.out]
    rfl
end

section
open Go.RowKit

theorem made_nils (n : Nat) : madeCells #[nilV] n = (List.replicate n nilV).toArray := by
  apply Array.ext'
  simp [madeCells]
  apply List.ext_getElem?
  intro i
  simp only [List.getElem?_map, List.getElem?_replicate]
  by_cases h : i < n
  · simp [h, Nat.mod_one]
  · simp [h]
theorem nils_row {w : World} {B g k : Nat} {ty : TypeId} (hB : B ≤ g) (hk : k ≤ 1000) (h : w.heap[g]? = some (.cells (madeCells #[nilV] k) ty (0, 0))) : w.ownsRow B ty 1 (.slice (some ⟨g, 0, none⟩) k k) k (List.replicate k nilV) := by
  rw [made_nils] at h
  refine ⟨by simp, Or.inr ⟨g, k, _, rfl, hB, h, Nat.le_refl _, by unfold maxLen; omega, by simp, ?_⟩⟩
  rw [List.take_of_length_le (by simp)]
theorem Mem0.low {w W0 w3 W : World} {mb lk : Nat} {wv ov : Value} {words : List Int} (h : Mem0 W0 w3 mb wv ov words lk) (h0 : Below w.heap.size w W0) (h3 : Below w3.heap.size w3 W) : Mem0 w W mb wv ov words lk := by
  have hl : mb < w3.heap.size := by
    rcases Nat.lt_or_ge mb w3.heap.size with h1 | h1
    · exact h1
    · have := h.box; rw [Array.getElem?_eq_none h1] at this; cases this
  exact ⟨(h3.block _ hl).trans h.box, fam_keeps (own_low h.wrow h0.size) (fun g e => h3.block g (h.wrow.lt g e).2), fam_keeps (own_low h.orow h0.size) (fun g e => h3.block g (h.orow.lt g e).2), Nat.le_trans h0.size h.lo, h.a1, h.a2, h.a3, (h0.trans (h.below.mono h0.size)).trans (h3.mono (Nat.le_trans h0.size h.below.size))⟩
/-- The rows of a memory with buffers that has just been made. -/
def b0V (mb bb g n : Nat) (wv ov : Value) : Rp → Value
  | .mem => boxV mb
  | .words => wv
  | .own => ov
  | .box => boxV bb
  | .bufs => .slice (some ⟨g, 0, none⟩) n n
  | _ => nilV
theorem Mem0.b {w W : World} {mb lk g n : Nat} {wv ov : Value} {words : List Int} (h : Mem0 w W mb wv ov words lk) (hn : n ≤ 4) (hg : W.heap[g]? = some (.cells (madeCells #[nilV] n) 262 (0, 0))) (hgl : w.heap.size ≤ g) (A : Nat → Option Addr) (L C : Nat → Nat) :
    MemQ ⟨A, L, C, bufK, W.heap.size, n⟩ w (W.alloc (.cells #[.pointer (some ⟨mb, 0, none⟩), .slice (some ⟨g, 0, none⟩) n n] 187)) mb (b0V mb W.heap.size g n wv ov) words lk := by
  have lt : ∀ k o, W.heap[k]? = some o → k < W.heap.size := fun k o hk => by
    rcases Nat.lt_or_ge k W.heap.size with h1 | h1
    · exact h1
    · rw [Array.getElem?_eq_none h1] at hk; cases hk
  have lm := lt _ _ h.box
  have lg := lt _ _ hg
  have c1 : g ≠ mb := fun e => by rw [e, h.box] at hg; simp at hg
  have c2 := own_type h.wrow hg (by decide)
  have c3 := own_type h.orow hg (by decide)
  have c4 : wv.ownBlock ≠ some W.heap.size := fun e => absurd (h.wrow.lt _ e).2 (by omega)
  have c5 : ov.ownBlock ≠ some W.heap.size := fun e => absurd (h.orow.lt _ e).2 (by omega)
  refine ⟨fun r hr => ?_, fun r q k hr hq => ?_, rfl, rfl, rfl, fun _ => rfl, rfl, fun _ => rfl, h.below.alloc h.below.size _⟩
  · cases r with
    | st => exact absurd rfl hr
    | mem => exact (fam_box (xs := [wv, ov]) h.lo h.box).alloc _
    | words => exact h.wrow.alloc _
    | own =>
      show World.ownsRow _ _ _ 1 ov (List.replicate lk (-1 : Int)).length _
      rw [List.length_replicate]
      exact h.orow.alloc _
    | thr => exact World.ownsRow_nil _ _ _ _
    | prints => exact World.ownsRow_nil _ _ _ _
    | regs t => exact World.ownsRow_nil _ _ _ _
    | box => exact fam_box (xs := [.pointer (some ⟨mb, 0, none⟩), .slice (some ⟨g, 0, none⟩) n n]) h.below.size (heap_alloc_new _ _)
    | bufs =>
      have e : pX ⟨A, L, C, bufK, W.heap.size, n⟩ mb (b0V mb W.heap.size g n wv ov) (sB words lk) .bufs = List.replicate n nilV := by
        show (List.range n).map (fun _ => nilV) = _
        exact List.eq_replicate_iff.2 ⟨by rw [List.length_map, List.length_range], fun b hb => by obtain ⟨_, _, e⟩ := List.mem_map.1 hb; exact e.symm⟩
      rw [e]
      exact (nils_row hgl (by omega) hg).alloc _
    | buf t => exact World.ownsRow_nil _ _ _ _
  · have s1 : ∀ b k, (boxV b).ownBlock = some k → k = b := fun b k e => by simpa [Value.ownBlock] using e.symm
    have s2 : ∀ b k, (Value.slice (some ⟨b, 0, none⟩) n n).ownBlock = some k → k = b := fun b k e => by simpa [Value.ownBlock] using e.symm
    have s3 : ∀ k, (nilV).ownBlock = some k → False := fun k e => by simp [Value.ownBlock] at e
    have a1 := h.a1
    have a2 := h.a2
    have a3 := h.a3
    have key : ∀ r k, (b0V mb W.heap.size g n wv ov r).ownBlock = some k → (r = .mem ∧ k = mb) ∨ (r = .words ∧ wv.ownBlock = some k) ∨ (r = .own ∧ ov.ownBlock = some k) ∨ (r = .box ∧ k = W.heap.size) ∨ (r = .bufs ∧ k = g) := fun r k e => by
      cases r with
      | mem => exact .inl ⟨rfl, s1 _ _ e⟩
      | words => exact .inr (.inl ⟨rfl, e⟩)
      | own => exact .inr (.inr (.inl ⟨rfl, e⟩))
      | box => exact .inr (.inr (.inr (.inl ⟨rfl, s1 _ _ e⟩)))
      | bufs => exact .inr (.inr (.inr (.inr ⟨rfl, s2 _ _ e⟩)))
      | st => exact (s3 _ e).elim
      | thr => exact (s3 _ e).elim
      | prints => exact (s3 _ e).elim
      | regs t => exact (s3 _ e).elim
      | buf t => exact (s3 _ e).elim
    rcases key r k hr with ⟨rfl, e1⟩ | ⟨rfl, e1⟩ | ⟨rfl, e1⟩ | ⟨rfl, e1⟩ | ⟨rfl, e1⟩ <;> rcases key q k hq with ⟨rfl, e2⟩ | ⟨rfl, e2⟩ | ⟨rfl, e2⟩ | ⟨rfl, e2⟩ | ⟨rfl, e2⟩ <;> first | rfl | (exfalso; omega) | (exfalso; subst e1; exact absurd e2 (by assumption)) | (exfalso; subst e2; exact absurd e1 (by assumption)) | (exact absurd e2 (a3 _ e1)) | (exact absurd e1 (a3 _ e2))

set_option maxRecDepth 100000 in
set_option maxHeartbeats 3200000 in
theorem newBuffered_any (w : World) (ca : Option Addr) (n cc : Nat) (wa : Option Addr) (wc lk rg : Nat) (words : List Int) (hw : SIs w wa words) (hnil : wa = none → words = [] ∧ wc = 0) (hm : words.length ≤ 64) (hlk : lk ≤ 4) (hn : n ≤ 4) :
    Calls Tryz.prog 64 #[prgV ca n cc wa words.length wc lk rg] w fun e w' => ∃ bb mb v, e = .returned (.pointer (some ⟨bb, 0, none⟩)) ∧ ∀ A L C, MemQ ⟨A, L, C, bufK, bb, n⟩ w w' mb v words lk := by
  have HNEW : Hid (∀ W, Below w.heap.size w W → Calls Tryz.prog 22 #[prgV ca n cc wa words.length wc lk rg] W fun e w' => ∃ mb wv ov, e = .returned (.pointer (some ⟨mb, 0, none⟩)) ∧ Mem0 W w' mb wv ov words lk) := fun W hb => newPlain_any W ca n cc wa wc lk rg words (hw.below hb) hnil hm hlk
  have hmk := fun W => run_make_row' (P := Tryz.prog) 185 262 nilV 24 Tryz.underlying185 (by kernel_rfl) rfl .i64 .i64 n (by omega) (by omega) W
  obtain ⟨m, hmm⟩ : ∃ m, words.length = m := ⟨_, rfl⟩
  rw [hmm] at HNEW ⊢
  clear hw hnil hm hmm
  have HN4 : Hid (n ≤ 4) := hn
  clear hn hlk
  go_enter Tryz.func64, Tryz.ntmps64
  go_wp2
  have q0 : (w.alloc (.cells #[.slice ca n cc, .slice wa m wc, .int .i64 (lk : Int), .int .i64 (rg : Int)] 25)).cell? ⟨w.heap.size, 0, none⟩ = some (.slice ca n cc) := by go_simp
  have q1 : (w.alloc (.cells #[.slice ca n cc, .slice wa m wc, .int .i64 (lk : Int), .int .i64 (rg : Int)] 25)).cell? ⟨w.heap.size, 1, none⟩ = some (.slice wa m wc) := by go_simp
  have q2 : (w.alloc (.cells #[.slice ca n cc, .slice wa m wc, .int .i64 (lk : Int), .int .i64 (rg : Int)] 25)).cell? ⟨w.heap.size, 2, none⟩ = some (.int .i64 (lk : Int)) := by go_simp
  have q3 : (w.alloc (.cells #[.slice ca n cc, .slice wa m wc, .int .i64 (lk : Int), .int .i64 (rg : Int)] 25)).cell? ⟨w.heap.size, 3, none⟩ = some (.int .i64 (rg : Int)) := by go_simp
  have HB1 : Hid (Below w.heap.size w (w.alloc (.cells #[.slice ca n cc, .slice wa m wc, .int .i64 (lk : Int), .int .i64 (rg : Int)] 25))) := (Below.refl _ _).alloc (Nat.le_refl _) _
  have hs1 : (w.alloc (.cells #[.slice ca n cc, .slice wa m wc, .int .i64 (lk : Int), .int .i64 (rg : Int)] 25)).heap.size = w.heap.size + 1 := by simp
  obtain ⟨W1, hW1⟩ : ∃ W1, w.alloc (.cells #[.slice ca n cc, .slice wa m wc, .int .i64 (lk : Int), .int .i64 (rg : Int)] 25) = W1 := ⟨_, rfl⟩
  rw [hW1] at q0 q1 q2 q3 HB1 hs1 ⊢
  clear hW1
  go_region_held3 (fun w' => w'.cell? ⟨w.heap.size, 0, none⟩ = some (.slice ca n cc) ∧ w'.cell? ⟨w.heap.size, 1, none⟩ = some (.slice wa m wc) ∧ w'.cell? ⟨w.heap.size, 2, none⟩ = some (.int .i64 (lk : Int)) ∧ w'.cell? ⟨w.heap.size, 3, none⟩ = some (.int .i64 (rg : Int))) (refine ⟨?_, ?_, ?_, ?_⟩ <;> (repeat (first | with_reducible assumption | with_reducible refine cell_drw ?_ | with_reducible refine cell_up ?_ _))) ((go_at_call 22; refine Calls.mono (HNEW.out _ (by repeat (first | exact HB1.out | refine Below.drew ?_ | refine Below.alloc ?_ (by have := HB1.out.size; simp; omega) _))) ?_; rintro e w3 ⟨mb, wv, ov, rfl, hm⟩; have z0 : w3.cell? ⟨w.heap.size, 0, none⟩ = some (.slice ca n cc) := (hm.below.cell (p := ⟨w.heap.size, 0, none⟩) (by show w.heap.size < _; simp; omega)).trans (by repeat (first | exact q0 | refine cell_drw ?_ | refine cell_up ?_ _)); have z1 : w3.cell? ⟨w.heap.size, 1, none⟩ = some (.slice wa m wc) := (hm.below.cell (p := ⟨w.heap.size, 1, none⟩) (by show w.heap.size < _; simp; omega)).trans (by repeat (first | exact q1 | refine cell_drw ?_ | refine cell_up ?_ _)); have z2 : w3.cell? ⟨w.heap.size, 2, none⟩ = some (.int .i64 (lk : Int)) := (hm.below.cell (p := ⟨w.heap.size, 2, none⟩) (by show w.heap.size < _; simp; omega)).trans (by repeat (first | exact q2 | refine cell_drw ?_ | refine cell_up ?_ _)); have z3 : w3.cell? ⟨w.heap.size, 3, none⟩ = some (.int .i64 (rg : Int)) := (hm.below.cell (p := ⟨w.heap.size, 3, none⟩) (by show w.heap.size < _; simp; omega)).trans (by repeat (first | exact q3 | refine cell_drw ?_ | refine cell_up ?_ _)); have HM := Hid.out (p := Hid _) hm; clear hm))
  all_goals go_wp2
  all_goals go_ret
  · refine ⟨w3.heap.size + 1, mb, b0V mb (w3.heap.size + 1) w3.heap.size n wv ov, rfl, fun A L C => ?_⟩
    have h := (HM.out.low HB1.out.drew ((Below.refl _ _).alloc (Nat.le_refl _) (.cells (madeCells #[nilV] n) 262))).b HN4.out (heap_alloc_new _ _) (Nat.le_trans HB1.out.drew.size HM.out.below.size) A L C
    rw [World.size_alloc] at h
    exact h
  · refine ⟨w3.heap.size, mb, b0V mb w3.heap.size (w.heap.size + 1) n wv ov, rfl, fun A L C => ?_⟩
    have hg : (W1.alloc (.cells (madeCells #[nilV] n) 262)).heap[w.heap.size + 1]? = some (.cells (madeCells #[nilV] n) 262 (0, 0)) := by
      have := heap_alloc_new W1 (.cells (madeCells #[nilV] n) 262)
      rwa [hs1] at this
    exact (HM.out.low (HB1.out.alloc HB1.out.size _).drew (Below.refl _ _)).b HN4.out ((HM.out.below.block _ (by simp [hs1])).trans hg) (Nat.le_succ _) A L C
end

end Go.Proofs.YtgofbkgfonlceacGreatDoor
