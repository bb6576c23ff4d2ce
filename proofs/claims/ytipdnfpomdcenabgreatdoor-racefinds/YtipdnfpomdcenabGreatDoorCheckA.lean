/-
  Copies of memories, as the program's state holds them.
  What the program's Check does.
  What the document's Check does.
  A program that is handed in, opened, with the bounds of its numbers; the table of powers.
-/
import Derived.Test.YtipdnfpomdcenabGreatDoorRead
import Derived.Test.YtipdnfpomdcenabGreatDoorOrder
import Derived.Test.YtipdnfpomdcenabGreatDoorSpaceP
import Derived.Test.YtipdnfpomdcenabGreatDoorWTell3
import Derived.Shelf.Vars
import Derived.Lib.LaidTab
namespace Go.Proofs.YtipdnfpomdcenabGreatDoor
section
open Go.RowKit

section
variable {ι : Type} [DecidableEq ι] {wr w1 : World} {B : Nat} {ty : ι → TypeId} {sz : ι → Nat} {u : ι → Value} {n n1 : ι → Nat} {xs xs1 : ι → List Value}
/-- A row is copied, and laid into a table. -/
theorem Fam.copied (F : Fam wr B ty sz u n xs) {r p : ι} {x : Value} {m g i : Nat} {ys : List Value} (hB : B ≤ wr.heap.size) (hrp : r ≠ p) (h0 : (u r).ownBlock = none) (hrow : w1.ownsRow wr.heap.size (ty r) (sz r) x m ys) (hb : Below wr.heap.size wr w1) (hp : (u p).ownBlock = some g)
    (hn : n1 r = m) (hx : xs1 r = ys) (hnn : ∀ q, q ≠ r → n1 q = n q) (hxp : xs1 p = (xs p).set i x) (hxx : ∀ q, q ≠ r → q ≠ p → xs1 q = xs q) : Fam (w1.setCell ⟨g, i, none⟩ x) B ty sz (upd u r x) n1 xs1 := by
  have F1 := F.below hb
  have far : ∀ q k, (u q).ownBlock = some k → x.ownBlock ≠ some k := fun q k hk e => by
    have h1 := F.lt hk
    have h2 := (hrow.lt k e).1
    omega
  have F2 : Fam w1 B ty sz (upd u r x) (upd n r m) (upd xs r ys) := by
    refine ⟨fun q => ?_, fun a b k ha hb' => ?_⟩
    · by_cases hq : q = r
      · subst hq
        rw [upd_self, upd_self, upd_self]
        exact own_low hrow hB
      · rw [upd_ne _ _ hq, upd_ne _ _ hq, upd_ne _ _ hq]
        exact F1.own q
    · by_cases h1 : a = r
      · by_cases h2 : b = r
        · rw [h1, h2]
        · subst h1
          rw [upd_self] at ha
          rw [upd_ne _ _ h2] at hb'
          exact absurd ha (far b k hb')
      · rw [upd_ne _ _ h1] at ha
        by_cases h2 : b = r
        · subst h2
          rw [upd_self] at hb'
          exact absurd hb' (far a k ha)
        · rw [upd_ne _ _ h2] at hb'
          exact F.apart a b k ha hb'
  refine F2.put (r := p) (by rw [upd_ne _ _ (fun e => hrp e.symm)]; exact hp) i x (fun q => ?_) ?_ (fun q hq => ?_)
  · by_cases h : q = r
    · subst h; rw [upd_self]; exact hn
    · rw [upd_ne _ _ h]; exact hnn q h
  · rw [upd_ne _ _ (fun e => hrp e.symm)]; exact hxp
  · by_cases h : q = r
    · subst h; rw [upd_self]; exact hx
    · rw [upd_ne _ _ h]; exact hxx q h hq
end
/-- The roles of a memory. -/
def Rp.isMem : Rp → Bool
  | .mem => true
  | .words => true
  | .own => true
  | .box => true
  | .bufs => true
  | .buf _ => true
  | _ => false
/-- A memory that has just been made: its rows. -/
structure MemC (w w' : World) (Q : Cd) (mb : Nat) (v : Rp → Value) (s : Sx) : Prop where
  own : ∀ r, r.isMem = true → w'.ownsRow w.heap.size (pTy Q.K r) (pSz r) (v r) (pN Q s r) (pX Q mb v s r)
  apart : ∀ r q g, r.isMem = true → q.isMem = true → (v r).ownBlock = some g → (v q).ownBlock = some g → r = q
  mem : v .mem = boxV mb
  box : Q.K.bf = true → v .box = boxV Q.bb
  below : Below w.heap.size w w'
/-- The rows of a plain memory. -/
def p1V (mb : Nat) (wv ov : Value) : Rp → Value
  | .mem => boxV mb
  | .words => wv
  | .own => ov
  | _ => nilV
theorem Mem1.c {w w' : World} {mb : Nat} {wv ov : Value} {s : Sx} (h : Mem1 w w' mb wv ov s.words s.own) {Q : Cd} (hK : Q.K = plainK) : MemC w w' Q mb (p1V mb wv ov) s := by
  have hbf : Q.K.bf = false := by rw [hK]; rfl
  refine ⟨fun r hr => ?_, fun r q k hr hq h1 h2 => ?_, rfl, (fun hb => by rw [hbf] at hb; cases hb), h.below⟩
  · cases r with
    | mem => exact fam_box (xs := [wv, ov]) h.lo h.box
    | words => exact h.wrow
    | own => exact h.orow
    | box => simp only [pN, pX, hbf]; exact World.ownsRow_nil _ _ _ _
    | bufs => simp only [pN, pX, hbf]; exact World.ownsRow_nil _ _ _ _
    | buf t => simp only [pN, pX, hbf]; exact World.ownsRow_nil _ _ _ _
    | _ => cases hr
  · have s3 : ∀ k, (nilV).ownBlock = some k → False := fun k e => by simp [Value.ownBlock] at e
    have s1 : (boxV mb).ownBlock = some k → k = mb := fun e => by simpa [Value.ownBlock] using e.symm
    have key : ∀ r, (p1V mb wv ov r).ownBlock = some k → (r = .mem ∧ k = mb) ∨ (r = .words ∧ wv.ownBlock = some k) ∨ (r = .own ∧ ov.ownBlock = some k) := fun r e => by
      cases r with
      | mem => exact .inl ⟨rfl, s1 e⟩
      | words => exact .inr (.inl ⟨rfl, e⟩)
      | own => exact .inr (.inr ⟨rfl, e⟩)
      | _ => exact (s3 _ e).elim
    have a1 := h.a1
    have a2 := h.a2
    have a3 := h.a3
    rcases key r h1 with ⟨rfl, e1⟩ | ⟨rfl, e1⟩ | ⟨rfl, e1⟩ <;> rcases key q h2 with ⟨rfl, e2⟩ | ⟨rfl, e2⟩ | ⟨rfl, e2⟩ <;> first | rfl | (subst e1; exact absurd e2 (by assumption)) | (subst e2; exact absurd e1 (by assumption)) | (exact absurd e2 (a3 _ e1)) | (exact absurd e1 (a3 _ e2))
/-- What must be known of a state that is copied. -/
structure KOk (Q : Cd) (s : Sx) : Prop where
  nt : Q.nt = s.ths.length
  n0 : 0 < s.ths.length
  n4 : s.ths.length ≤ 4
  rg0 : ∀ t, t < s.ths.length → 0 < (thOf s t).regs.length
  rg : ∀ t, t < s.ths.length → (thOf s t).regs.length ≤ 200
  wl : ∀ t, t < s.ths.length → (thOf s t).wait.length ≤ 3
  words : s.words.length ≤ 64
  own : s.own.length ≤ 4
  pr : s.prints.length ≤ 10000
def Cd.at (Q : Cd) (bb : Nat) : Cd := { Q with bb := bb }
/-- Copies of a kind of memory. -/
structure MClone (K : Mk) (cf : Nat) : Prop where
  mClone : ∀ (a : Addr) (w : World), (method 368 K.tid (.pointer (some a)) "Clone").run Tryz.prog w = .ok (cf, .pointer (some a)) w
  cClone : ∀ (xs : Array Value) (w : World), (callFunc cf xs).run Tryz.prog w = .ok (.enter cf xs) w
  clone : ∀ (w : World) (B : Nat) (Q : Cd) (sb mb : Nat) (v : Rp → Value) (s : Sx), Q.K = K → QSt w B Q sb mb v s → KOk Q s →
    Calls Tryz.prog cf #[.pointer (some ⟨Q.top mb, 0, none⟩)] w fun e w' => ∃ mb' bb' vm, e = .returned (.iface K.tid (.pointer (some ⟨(Q.at bb').top mb', 0, none⟩))) ∧ MemC w w' (Q.at bb') mb' vm s
set_option maxRecDepth 100000 in
set_option maxHeartbeats 1600000 in
theorem plain_clone : MClone plainK 170 where
  mClone a w := by kernel_rfl
  cClone xs w := by kernel_rfl
  clone w B Q sb mb v s hK hs ho := by
    rw [plain_top hK]
    have HC := Hid.out (p := Hid _) (pcopy_any w B Q sb mb v s hs ho.words ho.own)
    have HK : Hid (Q.K = plainK) := hK
    clear hs ho hK
    go_enter Tryz.func170, Tryz.ntmps170
    go_wp2_with fail
    refine Calls.mono HC.out ?_
    rintro e w1 ⟨mb', wv, ov, rfl, hM⟩
    have HM := Hid.out (p := Hid _) hM
    clear HC hM
    go_wp2_with fail
    go_ret
    refine ⟨mb', 0, p1V mb' wv ov, ?_, HM.out.c (Q := Q.at 0) HK.out⟩
    rw [plain_top (Q := Q.at 0) HK.out]
    rfl
end

section
open Go.RowKit

theorem ret3 {a b c x y z : Int} (h : (x, y, z) = (a, b, c)) : Ending.returned (ints3 a b c) = .returned (ints3 x y z) := by
  simp only [Prod.mk.injEq] at h
  obtain ⟨rfl, rfl, rfl⟩ := h
  rfl

set_option maxHeartbeats 1000000 in
theorem check_sizes (ca : Option Addr) (n cc : Nat) (wa : Option Addr) (m wc : Nat) (lk rg : Int) (s : Int) (HS : Hid (s = sizesE n m lk rg)) (h0 : (s != 0) = true) (w : World) :
    Calls Tryz.prog 23 #[prgV ca n cc wa m wc lk rg] w fun e w' => e = .returned (ints3 s 0 0) ∧ Below w.heap.size w w' := by
  go_enter Tryz.func23, Tryz.ntmps23
  go_wp2_with (first | (go_at_call 45; refine (checkSizes_any _ _ _ _ _ _ _ _ _).mono ?_; rintro e w1 ⟨rfl, hb1⟩; rw [← HS.out]; have hbx := (boxes_made w ca n cc wa m wc lk rg 25 30).below hb1; obtain ⟨hsz, p0, p1, p2, p3, r0, r1, r2, f0, f1, f2⟩ := hbx))
  exact bodyPost_ret (v := ints3 s 0 0) (by simp [results, Tryz.results23, go_sem, r0, r1, r2]) rfl
    ⟨rfl, ((((((Below.refl _ _).alloc (Nat.le_refl _) _).alloc (by simp) _).trans (hb1.mono (by simp; omega))).setCell (by simp) _).setCell (by simp) _).setCell (by simp) _⟩

theorem shapes_some (w : World) :
    Calls Tryz.prog 46 #[] w fun e w' => e = .returned (.map (some (w.heap.size + 1))) ∧ w'.heap[w.heap.size + 1]? = some (.map shapesArr 18) ∧ Below w.heap.size w w' := by
  refine (shapes_any w).mono ?_
  rintro e w' ⟨rfl, rfl⟩
  exact ⟨rfl, by simpa using (MapKept.heap_alloc (w.alloc (.cells #[.int .i64 1, .int .i64 1, .int .i64 1] 157)) (.map shapesArr 18)).1, ((Below.refl _ _).alloc (Nat.le_refl _) _).alloc (by simp) _⟩

set_option maxHeartbeats 1000000 in
theorem check_go (ca : Option Addr) (n cc : Nat) (wa : Option Addr) (m wc : Nat) (lk rg : Int) (A : Nat → Option Addr) (L C : Nat → Nat) (X : Nat → Nat → Nat → Int) (s x y z : Int) (HS : Hid (s = sizesE n m lk rg)) (h0 : (s != 0) = false)
    (HR : Hid (firstThread (thr rg m lk L X) n 0 = (x, y, z))) (w : World) (hp : PIn w ca n A L C X) :
    Calls Tryz.prog 23 #[prgV ca n cc wa m wc lk rg] w fun e w' => e = .returned (ints3 x y z) ∧ Below w.heap.size w w' := by
  go_enter Tryz.func23, Tryz.ntmps23
  go_wp2_with (first | (go_at_call 45; refine (checkSizes_any _ _ _ _ _ _ _ _ _).mono ?_; rintro e w1 ⟨rfl, hb1⟩; rw [← HS.out]; have hbx := (boxes_made w ca n cc wa m wc lk rg 25 30).below hb1) | (go_at_call 46; refine (shapes_some _).mono ?_; rintro e w2 ⟨rfl, hmap, hb2⟩; have hby := hbx.below hb2; obtain ⟨hsz, p0, p1, p2, p3, r0, r1, r2, f0, f1, f2⟩ := hby))
  have hp2 : PIn w2 ca n A L C X := hp.below ((((Below.refl _ _).alloc (Nat.le_refl _) _).alloc (by simp) _).trans ((hb1.mono (by simp; omega)).trans (hb2.mono (Nat.le_trans (by omega) hbx.size))))
  have HB2 : Below w.heap.size w w2 := ((((Below.refl _ _).alloc (Nat.le_refl _) _).alloc (by simp) _).trans ((hb1.mono (by simp; omega)).trans (hb2.mono (Nat.le_trans (by omega) hbx.size))))
  have hmb : w1.heap.size + 1 < w2.heap.size := by
    rcases Nat.lt_or_ge (w1.heap.size + 1) w2.heap.size with h1 | h1
    · exact h1
    · rw [Array.getElem?_eq_none h1] at hmap; cases hmap
  have hby := hbx.below hb2
  have hn := hp.num
  clear hp hb1 hb2 hbx hsz p0 p1 p2 p3 r0 r1 r2 f0 f1 f2
  have HM : Hid (w2.heap[w1.heap.size + 1]? = some (.map shapesArr 18)) := hmap
  clear hmap
  go_loopw [21] (fun i wr => ∃ k : Nat, k ≤ n ∧ i = .int .i64 k ∧ Below w2.heap.size w2 wr ∧ firstThread (thr rg m lk L X) (n - k) k = (x, y, z)) (fun i _ => n - (intOf i).toNat)
  case atStart => exact ⟨0, Nat.zero_le _, rfl, Below.refl _ _, HR.out⟩
  case round =>
    obtain ⟨k, hk, rfl, hbr, hr⟩ := hrel
    have HK : Hid (firstThread (thr rg m lk L X) (n - k) k = (x, y, z)) := hr
    clear hr
    by_cases hlt : k < n
    · obtain ⟨cb, co, rfl, hcell⟩ := (hp2.below hbr).code k hlt
      by_cases h400 : 400 < L k
      · have hend : (x, y, z) = (1, (k : Int), 0) := by rw [← HK.out, firstThread_hit hlt (by unfold thr; rw [if_pos h400])]
        obtain ⟨hsz, p0, p1, p2, p3, r0, r1, r2, f0, f1, f2⟩ := hby.below hbr
        have HE : Hid ((x, y, z) = (1, (k : Int), 0)) := hend
        clear hend
        go_wp2
        exact bodyPost_ret (v := ints3 1 k 0) (by simp [results, Tryz.results23, go_sem, r0, r1, r2]) rfl
          ⟨ret3 HE.out, (((HB2.trans (hbr.mono HB2.size)).setCell (by simp) _).setCell (by simp) _).setCell (by simp) _⟩
      · have hl : L k ≤ 400 := by omega
        rcases Nat.eq_zero_or_pos (L k) with hz | hpos
        · have HZ : Hid (L k = 0) := hz
          clear hz
          obtain ⟨hsz, p0, p1, p2, p3, r0, r1, r2, f0, f1, f2⟩ := hby.below hbr
          go_wp2_with (first | (go_at_call 47; refine (limitsOf_any _ _ _ _ _ _ _ _ _ _ _ hl _).mono ?_; rintro e w3 ⟨rfl, hb3⟩))
          have hb4 : Below wr.heap.size wr (w3.alloc (.cells #[.int .i64 1, .int .i64 rg, .int .i64 m, .int .i64 lk, .int .i64 (L k + 1), .int .i64 0] 100)) := hb3.alloc hb3.size _
          have hs3 := hb3.size
          clear hsz p0 p1 p2 p3 r0 r1 r2 f0 f1 f2 hcell
          go_loopw [36] (fun i wi => ∃ j : Nat, j ≤ L k ∧ i = .int .i64 j ∧ Below (w3.heap.size + 1) (w3.alloc (.cells #[.int .i64 1, .int .i64 rg, .int .i64 m, .int .i64 lk, .int .i64 (L k + 1), .int .i64 0] 100)) wi ∧ firstBad (fun i => ordE rg m lk (L k) (X k i 0) (X k i 1) (X k i 2) (X k i 3)) (L k - j) j = thr rg m lk L X k) (fun i _ => L k - (intOf i).toNat)
          case atStart => exact ⟨0, Nat.zero_le _, rfl, Below.refl _ _, by unfold thr; rw [if_neg h400]; rfl⟩
          case round =>
            obtain ⟨j, hj, rfl, hbi, hfj⟩ := hrel
            have HF : Hid (firstBad (fun i => ordE rg m lk (L k) (X k i 0) (X k i 1) (X k i 2) (X k i 3)) (L k - j) j = thr rg m lk L X k) := hfj
            clear hfj
            have hsi : w3.heap.size + 1 ≤ wr.heap.size := by have := hbi.size; simpa using this
            have hbri := hb4.trans (hbi.mono (by omega))
            have hb2i : Below w2.heap.size w2 wr := hbr.trans (hbri.mono hbr.size)
            by_cases hjl : j < L k
            · exact absurd hjl (by have := HZ.out; omega)
            · have hth : thr rg m lk L X k = none := by rw [← HF.out, firstBad_end (by omega)]
              have HK2 : Hid (firstThread (thr rg m lk L X) (n - (k + 1)) (k + 1) = (x, y, z)) := by rw [← firstThread_step hlt hth]; exact HK.out
              clear hth HK HF
              go_wp2
              go_roundw
              case rel => exact ⟨k + 1, by omega, by go_num, hb2i, HK2.out⟩
              case measure => simp [intOf]; omega
        · obtain ⟨ab, ao, hA⟩ : ∃ ab ao, A k = some ⟨ab, ao, none⟩ := let ⟨ab, ao, h, _⟩ := hp2.ord k 0 hlt hpos; ⟨ab, ao, h⟩
          rw [hA] at hcell
          obtain ⟨hsz, p0, p1, p2, p3, r0, r1, r2, f0, f1, f2⟩ := hby.below hbr
          go_wp2_with (first | (go_at_call 47; refine (limitsOf_any _ _ _ _ _ _ _ _ _ _ _ hl _).mono ?_; rintro e w3 ⟨rfl, hb3⟩))
          have hb4 : Below wr.heap.size wr (w3.alloc (.cells #[.int .i64 1, .int .i64 rg, .int .i64 m, .int .i64 lk, .int .i64 (L k + 1), .int .i64 0] 100)) := hb3.alloc hb3.size _
          have hs3 := hb3.size
          clear hsz p0 p1 p2 p3 r0 r1 r2 f0 f1 f2 hcell
          go_loopw [36] (fun i wi => ∃ j : Nat, j ≤ L k ∧ i = .int .i64 j ∧ Below (w3.heap.size + 1) (w3.alloc (.cells #[.int .i64 1, .int .i64 rg, .int .i64 m, .int .i64 lk, .int .i64 (L k + 1), .int .i64 0] 100)) wi ∧ firstBad (fun i => ordE rg m lk (L k) (X k i 0) (X k i 1) (X k i 2) (X k i 3)) (L k - j) j = thr rg m lk L X k) (fun i _ => L k - (intOf i).toNat)
          case atStart => exact ⟨0, Nat.zero_le _, rfl, Below.refl _ _, by unfold thr; rw [if_neg h400]; rfl⟩
          case round =>
            obtain ⟨j, hj, rfl, hbi, hfj⟩ := hrel
            have HF : Hid (firstBad (fun i => ordE rg m lk (L k) (X k i 0) (X k i 1) (X k i 2) (X k i 3)) (L k - j) j = thr rg m lk L X k) := hfj
            clear hfj
            have hsi : w3.heap.size + 1 ≤ wr.heap.size := by have := hbi.size; simpa using this
            have hbri := hb4.trans (hbi.mono (by omega))
            have hb2i : Below w2.heap.size w2 wr := hbr.trans (hbri.mono hbr.size)
            by_cases hjl : j < L k
            · obtain ⟨b', o', hA', c0, c1, c2, c3⟩ := (hp2.below hb2i).ord k j hlt hjl
              obtain ⟨rfl, rfl⟩ : b' = ab ∧ o' = ao := by rw [hA] at hA'; simpa [eq_comm] using hA'
              clear hA'
              have l0 : ∀ o, (wr.alloc o).cell? ⟨w3.heap.size, 0, none⟩ = some (.int .i64 1) := fun o => (World.cell?_alloc_lt wr o _ (by show w3.heap.size < _; omega)).trans ((hbi.cell (p := ⟨w3.heap.size, 0, none⟩) (by simp)).trans (by go_simp))
              have l1 : ∀ o, (wr.alloc o).cell? ⟨w3.heap.size, 1, none⟩ = some (.int .i64 rg) := fun o => (World.cell?_alloc_lt wr o _ (by show w3.heap.size < _; omega)).trans ((hbi.cell (p := ⟨w3.heap.size, 1, none⟩) (by simp)).trans (by go_simp))
              have l2 : ∀ o, (wr.alloc o).cell? ⟨w3.heap.size, 2, none⟩ = some (.int .i64 m) := fun o => (World.cell?_alloc_lt wr o _ (by show w3.heap.size < _; omega)).trans ((hbi.cell (p := ⟨w3.heap.size, 2, none⟩) (by simp)).trans (by go_simp))
              have l3 : ∀ o, (wr.alloc o).cell? ⟨w3.heap.size, 3, none⟩ = some (.int .i64 lk) := fun o => (World.cell?_alloc_lt wr o _ (by show w3.heap.size < _; omega)).trans ((hbi.cell (p := ⟨w3.heap.size, 3, none⟩) (by simp)).trans (by go_simp))
              have l4 : ∀ o, (wr.alloc o).cell? ⟨w3.heap.size, 4, none⟩ = some (.int .i64 (L k + 1)) := fun o => (World.cell?_alloc_lt wr o _ (by show w3.heap.size < _; omega)).trans ((hbi.cell (p := ⟨w3.heap.size, 4, none⟩) (by simp)).trans (by go_simp))
              have l5 : ∀ o, (wr.alloc o).cell? ⟨w3.heap.size, 5, none⟩ = some (.int .i64 0) := fun o => (World.cell?_alloc_lt wr o _ (by show w3.heap.size < _; omega)).trans ((hbi.cell (p := ⟨w3.heap.size, 5, none⟩) (by simp)).trans (by go_simp))
              have hmi : ∀ o, (wr.alloc o).heap[w1.heap.size + 1]? = some (.map shapesArr 18) := fun o => by
                rw [Below.heap_alloc _ _ _ (Nat.lt_of_lt_of_le hmb hb2i.size), hb2i.block _ hmb]; exact HM.out
              obtain ⟨ev, hev⟩ : ∃ ev, ordE rg m lk (L k) (X k j 0) (X k j 1) (X k j 2) (X k j 3) = ev := ⟨_, rfl⟩
              have HE : Hid (ordE rg m lk (L k) (X k j 0) (X k j 1) (X k j 2) (X k j 3) = ev) := hev
              clear hev
              by_cases hE : ev = 0
              · have hne : (ev != 0) = false := by simpa using hE
                have HF2 : Hid (firstBad (fun i => ordE rg m lk (L k) (X k i 0) (X k i 1) (X k i 2) (X k i 3)) (L k - (j + 1)) (j + 1) = thr rg m lk L X k) := by rw [← firstBad_step hjl (HE.out.trans hE)]; exact HF.out
                clear hE HF
                go_wp2_with (first | (go_at_call 48; refine (checkOrder_any _ _ _ _ _ _ _ _ _ _ (hmi _)).mono ?_; rintro e w5 ⟨rfl, hb5⟩; rw [HE.out]))
                go_roundw
                case rel => exact ⟨j + 1, by omega, by go_num, hbi.trans (((Below.refl _ _).alloc hsi _).trans (hb5.mono (by simp; omega))), HF2.out⟩
                case measure => simp [intOf]; omega
              · have hne : (ev != 0) = true := by simpa using hE
                have HE2 : Hid ((x, y, z) = (ev, (k : Int), (j : Int))) := by
                  have := firstBad_hit (E := fun i => ordE rg m lk (L k) (X k i 0) (X k i 1) (X k i 2) (X k i 3)) hjl (by rw [HE.out]; exact hE)
                  rw [HF.out, HE.out] at this
                  show (x, y, z) = _
                  rw [← HK.out, firstThread_hit hlt this]
                clear hE HF HK
                go_wp2_with (first | (go_at_call 48; refine (checkOrder_any _ _ _ _ _ _ _ _ _ _ (hmi _)).mono ?_; rintro e w5 ⟨rfl, hb5⟩; rw [HE.out]; have hbx6 := ((hby.below hb2i).below ((Below.refl _ _).alloc (Nat.le_refl _) _)).below hb5; obtain ⟨hsz, p0, p1, p2, p3, r0, r1, r2, f0, f1, f2⟩ := hbx6))
                exact bodyPost_ret (v := ints3 ev k j) (by simp [results, Tryz.results23, go_sem, r0, r1, r2]) rfl
                  ⟨ret3 HE2.out, ((((HB2.trans (hb2i.mono HB2.size)).trans (((Below.refl _ _).alloc (by have := HB2.size; have := hb2i.size; omega) _).trans (hb5.mono (by have := HB2.size; have := hb2i.size; simp; omega)))).setCell (by simp) _).setCell (by simp) _).setCell (by simp) _⟩
            · have hth : thr rg m lk L X k = none := by rw [← HF.out, firstBad_end (by omega)]
              have HK2 : Hid (firstThread (thr rg m lk L X) (n - (k + 1)) (k + 1) = (x, y, z)) := by rw [← firstThread_step hlt hth]; exact HK.out
              clear hth HK HF
              go_wp2
              go_roundw
              case rel => exact ⟨k + 1, by omega, by go_num, hb2i, HK2.out⟩
              case measure => simp [intOf]; omega
    · have hend : (x, y, z) = (0, 0, 0) := by rw [← HK.out, firstThread_end (by omega)]
      obtain ⟨hsz, p0, p1, p2, p3, r0, r1, r2, f0, f1, f2⟩ := hby.below hbr
      have HE : Hid ((x, y, z) = (0, 0, 0)) := hend
      clear hend
      go_wp2
      exact bodyPost_ret (v := ints3 0 0 0) (by simp [results, Tryz.results23, go_sem, r0, r1, r2]) rfl
        ⟨ret3 HE.out, (((HB2.trans (hbr.mono HB2.size)).setCell (by simp) _).setCell (by simp) _).setCell (by simp) _⟩

/-- Check, of every program that lies in memory: it answers the first thing that is wrong, and nothing that was there has changed. -/
theorem check_any (ca : Option Addr) (n cc : Nat) (wa : Option Addr) (m wc : Nat) (lk rg : Int) (A : Nat → Option Addr) (L C : Nat → Nat) (X : Nat → Nat → Nat → Int) (x y z : Int) (HR : Hid (chk n L X m lk rg = (x, y, z))) (w : World) (hp : PIn w ca n A L C X) :
    Calls Tryz.prog 23 #[prgV ca n cc wa m wc lk rg] w fun e w' => e = .returned (ints3 x y z) ∧ Below w.heap.size w w' := by
  have h := HR.out
  unfold chk at h
  by_cases h0 : sizesE n m lk rg = 0
  · rw [if_neg (by simpa using h0)] at h
    exact check_go ca n cc wa m wc lk rg A L C X _ x y z rfl (by simpa using h0) h w hp
  · rw [if_pos h0] at h
    simp only [Prod.mk.injEq] at h
    obtain ⟨h1, rfl, rfl⟩ := h
    exact check_sizes ca n cc wa m wc lk rg x h1.symm (by rw [← h1]; simpa using h0) w
end

section
open Go.RowKit

set_option maxHeartbeats 1000000 in
theorem rcheck_size (ca : Option Addr) (n cc : Nat) (wa : Option Addr) (m wc : Nat) (lk rg : Int) (h : (n : Int) < 1 ∨ 4 < (n : Int) ∨ 64 < (m : Int)) (w : World) :
    Calls Tryz.prog 9 #[prgV ca n cc wa m wc lk rg] w fun e w' => e = .returned (ints3 1 0 0) ∧ Below w.heap.size w w' := by
  rcases (by omega : (n : Int) < 1 ∨ ((1 ≤ (n : Int) ∧ 4 < (n : Int)) ∨ ((1 ≤ (n : Int) ∧ (n : Int) ≤ 4) ∧ 64 < (m : Int)))) with h1 | h1 | h1
  all_goals
    clear h
    go_enter Tryz.func9, Tryz.ntmps9
    go_wp2
    exact bodyPost_ret (v := ints3 1 0 0) (by simp [results, Tryz.results9, go_sem]) rfl
      ⟨rfl, ((Below.refl _ _).alloc (Nat.le_refl _) _).alloc (by simp) _⟩

set_option maxHeartbeats 1000000 in
theorem rcheck_range (ca : Option Addr) (n cc : Nat) (wa : Option Addr) (m wc : Nat) (lk rg : Int) (h1 : 1 ≤ (n : Int) ∧ (n : Int) ≤ 4) (h2 : (m : Int) ≤ 64) (h : lk < 0 ∨ 4 < lk ∨ rg < 1 ∨ 200 < rg) (w : World) :
    Calls Tryz.prog 9 #[prgV ca n cc wa m wc lk rg] w fun e w' => e = .returned (ints3 3 0 0) ∧ Below w.heap.size w w' := by
  rcases (by omega : lk < 0 ∨ (0 ≤ lk ∧ 4 < lk) ∨ ((0 ≤ lk ∧ lk ≤ 4) ∧ rg < 1) ∨ ((0 ≤ lk ∧ lk ≤ 4) ∧ 1 ≤ rg ∧ 200 < rg)) with h3 | h3 | h3 | h3
  all_goals
    clear h
    go_enter Tryz.func9, Tryz.ntmps9
    go_wp2
    exact bodyPost_ret (v := ints3 3 0 0) (by simp [results, Tryz.results9, go_sem]) rfl
      ⟨rfl, ((Below.refl _ _).alloc (Nat.le_refl _) _).alloc (by simp) _⟩

/-- The kinds by their number. -/
def kj (x y z : Int) (k : Nat) : Int := if k = 0 then x else if k = 1 then y else z

theorem ks_spec {op x y z : Int} (h : kd op = some (x, y, z)) :
     (ks op).size ≤ 3 ∧ (∀ k (hk : k < (ks op).size), (1 ≤ kj x y z k ∧ kj x y z k ≤ 5) ∧ ((ks op)[k].toNat : Int) = letter (kj x y z k)) ∧ ∀ k, (ks op).size ≤ k → k < 3 → kj x y z k = 0 := by
  rcases op_cases op with h1 | rfl | rfl | rfl | rfl | rfl | rfl | rfl | rfl | rfl | rfl | rfl | rfl | rfl | rfl | rfl | rfl | rfl | rfl
  · rw [kd_out h1] at h; cases h
  all_goals
    simp only [kd] at h
    simp at h
    obtain ⟨rfl, rfl, rfl⟩ := h
    refine ⟨by decide, ?_, ?_⟩
    · intro k hk
      have hk' : k < 3 := Nat.lt_of_lt_of_le hk (by decide)
      rcases (by omega : k = 0 ∨ k = 1 ∨ k = 2) with rfl | rfl | rfl <;> first | exact absurd hk (by decide) | exact ⟨⟨by decide, by decide⟩, rfl⟩
    · intro k hk hk3
      rcases (by omega : k = 0 ∨ k = 1 ∨ k = 2) with rfl | rfl | rfl <;> first | exact absurd hk (by decide) | decide
end

section
open Go.ChangeShapes Go.WideShapes Go.ChangeAt Go.RowKit Go.Joins Go.Deep

theorem i64n_of {v : Int} (h : (Lit.int .i64 v).wf = true) : I64n v := by
  have e : IntKind.i64.min = -9223372036854775808 := rfl
  simpa [Lit.wf, I64n, e] using h
set_option maxRecDepth 100000 in
theorem open_prog3 {H : Type} {enc : TypeId × Value → H} {W : World} {b0 : Nat} {v : Value} {d : DataW H} {p : List MemPlace} (hv : Value.okWide Tryz.prog W .any b0 25 v) (h : DataW.Trod enc Tryz.prog W 0 (fun _ => true) true 25 v d p) :
    ∃ (ca : Option Addr) (n cc : Nat) (wa : Option Addr) (words : List Int) (wc : Nat) (lk rg : Int) (A : Nat → Option Addr) (L C : Nat → Nat) (X : Nat → Nat → Nat → Int), v = prgV ca n cc wa words.length wc lk rg ∧ words.length ≤ 9223372036854775807 ∧ PIn W ca n A L C X ∧ SIs W wa words ∧ (wa = none → words = [] ∧ wc = 0) ∧ (∀ t i, t < n → i < L t → I64n (X t i 2)) ∧ ∀ x, x ∈ words → I64n x := by
  obtain ⟨c0, c1, c2, c3, y0, y1, y2, y3, m, rfl, _, _, h0, h1, h2, h3⟩ := open_agg4 Tryz.underlying25 (by kernel_rfl) cells25 hv h
  obtain ⟨ca, n, cc, A, L, C, X, rfl, hp, hwf⟩ := read_code h0
  obtain ⟨lk, e2, _, _⟩ := DataW.trod_int Tryz.underlying3 h2
  obtain ⟨rg, e3, _, _⟩ := DataW.trod_int Tryz.underlying3 h3
  simp at e2 e3
  subst e2 e3
  have hx2 : ∀ t i, t < n → i < L t → I64n (X t i 2) := fun t i ht hi => i64n_of (hwf t i 2 ht hi (by omega))
  rcases open_slice1 Tryz.underlying23 cells3 h1 with ⟨hcs, _⟩ | ⟨a, len, cap, _, _, V, _, _, hcs, _, hl, hm, hmm, _, hx⟩
  · simp at hcs
    subst hcs
    exact ⟨ca, n, cc, none, [], 0, lk, rg, A, L, C, X, rfl, by simp, hp, fun i hi => absurd hi (Nat.not_lt_zero _), fun _ => ⟨rfl, rfl⟩, hx2, fun v hv => by cases hv⟩
  · simp at hcs hmm
    subst hcs
    obtain ⟨Y, hY⟩ := choose_lt (α := Int) (p := fun i (y : Int) => W.cell? (a.add i) = some (.int .i64 y) ∧ I64n y) (n := len) (fun i hi => by
      obtain ⟨x1, x2⟩ := hx i (by omega)
      obtain ⟨y, e, _, wf⟩ := DataW.trod_int Tryz.underlying3 x2
      simp at e
      exact ⟨y, by rw [x1, e], i64n_of wf⟩)
    have hlen : ((List.range len).map Y).length = len := by simp
    refine ⟨ca, n, cc, some a, (List.range len).map Y, cap, lk, rg, A, L, C, X, by rw [hlen], by rw [hlen]; unfold maxLen at hm; omega, hp, fun i hi => ?_, fun e => (by cases e), hx2, fun v hv => ?_⟩
    · rw [hlen] at hi
      obtain ⟨b, o, sp⟩ := a
      have hsp : sp = none := by simpa [Addr.add] using World.cell?_spot (hY 0 (by omega)).1
      subst hsp
      refine ⟨b, o, rfl, ?_⟩
      rw [← Go.WideShapes.add_plain, (hY i hi).1]
      simp [List.getD, hi]
    · simp only [List.mem_map, List.mem_range] at hv
      obtain ⟨i, hi, rfl⟩ := hv
      exact (hY i hi).2
end

end Go.Proofs.YtipdnfpomdcenabGreatDoor
