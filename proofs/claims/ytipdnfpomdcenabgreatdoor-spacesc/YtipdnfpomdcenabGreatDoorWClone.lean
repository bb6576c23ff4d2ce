/-
  Copies of lists, whatever they hold.
  Copies of memories.
  Copies of memories, as the program's state holds them.
-/
import Derived.Test.YtipdnfpomdcenabGreatDoorPNew
import Derived.Test.YtipdnfpomdcenabGreatDoorPBufK
import Derived.Test.YtipdnfpomdcenabGreatDoorFam
import Derived.Deep.RegionHeld3
namespace Go.Proofs.YtipdnfpomdcenabGreatDoor
section
open Go.RowKit

/-- 'append([]T{}, l...)' of a row. -/
theorem app_srcG {T e : TypeId} {z : Value} {size bytes : Nat} (ht : Tryz.prog.underlying T = some (.slice e)) (hinfo : (Tryz.prog.info? e).map (fun i => (i.zero, i.size, i.bytes)) = some (some z, size, bytes)) (hzs : z.cells.size = size) (hsz : 0 < size) (W : World) {B' : Nat} {g0 c0 n : Nat} {xs : List Value} (hown : W.ownsRow B' e size (.slice (some ⟨g0, 0, none⟩) n c0) n xs) (h1 : ∀ u ∈ xs, u.oneCell' = true) (hn : n ≤ 1000000) (hby : bytes ≤ 1000) :
    ∃ g cap w3, (AppS #[T, T] T #[.slice (some ⟨W.heap.size, 0, none⟩) 0 0, .slice (some ⟨g0, 0, none⟩) n c0]).run Tryz.prog (W.alloc (.cells #[] e)) = .ok (.slice (some ⟨g, 0, none⟩) n cap) w3 ∧ w3.ownsRow W.heap.size e size (.slice (some ⟨g, 0, none⟩) n cap) n xs ∧ Below W.heap.size W w3 := by
  obtain ⟨i, hi, hz0, hz1, hz2⟩ := info_is hinfo
  have hmade := World.ownsRow_made (base := W.heap.size) (e := e) (size := size) W #[] 0 (Nat.le_refl _) (by decide) (by simp)
  have hbl : Below W.heap.size W (W.alloc (.cells #[] e)) := (Below.refl _ _).alloc (Nat.le_refl _) _
  have hcell : ∀ j u, xs[j]? = some u → (W.alloc (.cells #[] e)).cell? ((⟨g0, 0, none⟩ : Addr).add j) = some u := fun j u hu => by
    have := fam_cell hown (g := g0) rfl hu
    have hadd : (⟨g0, 0, none⟩ : Addr).add j = ⟨g0, j, none⟩ := by unfold Addr.add; split <;> simp_all
    rw [hadd]
    exact cell_up this _
  rcases Nat.eq_zero_or_pos n with h0 | h0
  · subst h0
    have hxs : xs = [] := List.eq_nil_of_length_eq_zero (by have := hown.1; simpa using this)
    subst hxs
    refine ⟨W.heap.size, 0, W.alloc (.cells #[] e), ?_, hmade, hbl⟩
    have hs : Src Tryz.prog i.size T (.slice (some ⟨g0, 0, none⟩) 0 c0) 0 [] (W.alloc (.cells #[] e)) := Src.ofSlice _ ht ⟨g0, 0, none⟩ 0 c0 [] (by simp) (fun j u h => by simp at h) (fun u h => by cases h)
    exact run_append_room_src (P := Tryz.prog) (W.alloc (.cells #[] e)) T T T e i ht hi W.heap.size 0 0 0 (.slice (some ⟨g0, 0, none⟩) 0 c0) 0 [] hs (Nat.le_refl _) (fun j h => by simp at h) (fun j h => by simp at h)
  · obtain ⟨g, cap, w3, r1, r2, r3, r4, r5⟩ := run_append_lies (P := Tryz.prog) (W.alloc (.cells #[] e)) T T W.heap.size e i z size bytes ht hi hz0 hz1 hz2 hzs hsz _ 0 [] hmade ⟨g0, 0, none⟩ n c0 xs hown.1 hcell h1 h0 (by unfold maxLen; omega) (by
      have : (0 + n) * bytes ≤ 1000000 * 1000 := Nat.mul_le_mul (by omega) hby
      omega) (by simp) (W.heap.size + 1) (by simp)
    rw [Nat.zero_add] at r1 r2
    refine ⟨g, cap, w3, r1, r2, hbl.grown r3 (by simp) (fun k hk => ?_)⟩
    have : W.heap.size = k := by simpa [Value.ownBlock] using hk
    omega
theorem infoSThr : (Tryz.prog.info? 140).map (fun i => (i.zero, i.size, i.bytes)) = some (some (.agg #[nilV, .int .i64 0, nilV]), 3, 56) := by kernel_rfl
theorem infoSto : (Tryz.prog.info? 256).map (fun i => (i.zero, i.size, i.bytes)) = some (some (.agg #[.bool false, .int .i64 0, .int .i64 0]), 3, 24) := by kernel_rfl
theorem infoLSto : (Tryz.prog.info? 251).map (fun i => (i.zero, i.size, i.bytes)) = some (some nilV, 1, 24) := by kernel_rfl

attribute [local go_sem ↓] appS_eq in
set_option maxRecDepth 100000 in
set_option maxHeartbeats 1600000 in
theorem cloneT_any (w : World) (B : Nat) (v : Value) (n : Nat) (xs : List Value) (hown : w.ownsRow B 140 3 v n xs) (h1 : ∀ u ∈ xs, u.oneCell' = true) (hn : n ≤ 1000000) :
    Calls Tryz.prog 123 #[v] w fun e w' => ∃ u, e = .returned u ∧ w'.ownsRow w.heap.size 140 3 u n xs ∧ Below w.heap.size w w' := by
  rcases hown.2 with ⟨h0, h2⟩ | ⟨g, cap, cur, hv, _⟩
  · subst h0 h2
    have hxs : xs = [] := List.eq_nil_of_length_eq_zero (by have := hown.1; simpa using this)
    subst hxs
    have hne := fun W => Lib.run_eql_slice_nil (P := Tryz.prog) W 109 140 none 0 0 0 0 Tryz.underlying109
    clear hown h1
    go_enter Tryz.func123, Tryz.ntmps123
    go_wp2
    go_ret
    exact ⟨nilV, rfl, World.ownsRow_nil _ _ _ _, Below.refl _ _⟩
  · subst hv
    obtain ⟨g2, cap2, w3, r1, r2, r3⟩ := app_srcG Tryz.underlying109 infoSThr rfl (by omega) w hown h1 hn (by omega)
    have hne := fun W => Lib.run_eql_slice_nil (P := Tryz.prog) W 109 140 (some ⟨g, 0, none⟩) n cap 0 0 Tryz.underlying109
    have HR := Hid.out (p := Hid _) (And.intro r2 r3)
    clear hown h1 r2 r3
    go_enter Tryz.func123, Tryz.ntmps123
    go_wp2
    go_ret
    exact ⟨_, rfl, HR.out⟩

attribute [local go_sem ↓] appS_eq in
set_option maxRecDepth 100000 in
set_option maxHeartbeats 1600000 in
theorem cloneS_any (w : World) (B : Nat) (v : Value) (n : Nat) (xs : List Value) (hown : w.ownsRow B 256 3 v n xs) (h1 : ∀ u ∈ xs, u.oneCell' = true) (hn : n ≤ 1000000) :
    Calls Tryz.prog 198 #[v] w fun e w' => ∃ u, e = .returned u ∧ w'.ownsRow w.heap.size 256 3 u n xs ∧ Below w.heap.size w w' := by
  rcases hown.2 with ⟨h0, h2⟩ | ⟨g, cap, cur, hv, _⟩
  · subst h0 h2
    have hxs : xs = [] := List.eq_nil_of_length_eq_zero (by have := hown.1; simpa using this)
    subst hxs
    have hne := fun W => Lib.run_eql_slice_nil (P := Tryz.prog) W 251 256 none 0 0 0 0 Tryz.underlying251
    clear hown h1
    go_enter Tryz.func198, Tryz.ntmps198
    go_wp2
    go_ret
    exact ⟨nilV, rfl, World.ownsRow_nil _ _ _ _, Below.refl _ _⟩
  · subst hv
    obtain ⟨g2, cap2, w3, r1, r2, r3⟩ := app_srcG Tryz.underlying251 infoSto rfl (by omega) w hown h1 hn (by omega)
    have hne := fun W => Lib.run_eql_slice_nil (P := Tryz.prog) W 251 256 (some ⟨g, 0, none⟩) n cap 0 0 Tryz.underlying251
    have HR := Hid.out (p := Hid _) (And.intro r2 r3)
    clear hown h1 r2 r3
    go_enter Tryz.func198, Tryz.ntmps198
    go_wp2
    go_ret
    exact ⟨_, rfl, HR.out⟩

attribute [local go_sem ↓] appS_eq in
set_option maxRecDepth 100000 in
set_option maxHeartbeats 1600000 in
theorem cloneL_any (w : World) (B : Nat) (v : Value) (n : Nat) (xs : List Value) (hown : w.ownsRow B 251 1 v n xs) (h1 : ∀ u ∈ xs, u.oneCell' = true) (hn : n ≤ 1000000) :
    Calls Tryz.prog 197 #[v] w fun e w' => ∃ u, e = .returned u ∧ w'.ownsRow w.heap.size 251 1 u n xs ∧ Below w.heap.size w w' := by
  rcases hown.2 with ⟨h0, h2⟩ | ⟨g, cap, cur, hv, _⟩
  · subst h0 h2
    have hxs : xs = [] := List.eq_nil_of_length_eq_zero (by have := hown.1; simpa using this)
    subst hxs
    have hne := fun W => Lib.run_eql_slice_nil (P := Tryz.prog) W 125 251 none 0 0 0 0 Tryz.underlying125
    clear hown h1
    go_enter Tryz.func197, Tryz.ntmps197
    go_wp2
    go_ret
    exact ⟨nilV, rfl, World.ownsRow_nil _ _ _ _, Below.refl _ _⟩
  · subst hv
    obtain ⟨g2, cap2, w3, r1, r2, r3⟩ := app_srcG Tryz.underlying125 infoLSto rfl (by omega) w hown h1 hn (by omega)
    have hne := fun W => Lib.run_eql_slice_nil (P := Tryz.prog) W 125 251 (some ⟨g, 0, none⟩) n cap 0 0 Tryz.underlying125
    have HR := Hid.out (p := Hid _) (And.intro r2 r3)
    clear hown h1 r2 r3
    go_enter Tryz.func197, Tryz.ntmps197
    go_wp2
    go_ret
    exact ⟨_, rfl, HR.out⟩

attribute [local go_sem ↓] appS_eq in
set_option maxRecDepth 100000 in
set_option maxHeartbeats 1600000 in
theorem cloneI_any (w : World) (B : Nat) (v : Value) (n : Nat) (xs : List Value) (hown : w.ownsRow B 3 1 v n xs) (h1 : ∀ u ∈ xs, u.oneCell' = true) (hn : n ≤ 1000000) :
    Calls Tryz.prog 57 #[v] w fun e w' => ∃ u, e = .returned u ∧ w'.ownsRow w.heap.size 3 1 u n xs ∧ Below w.heap.size w w' := by
  rcases hown.2 with ⟨h0, h2⟩ | ⟨g, cap, cur, hv, _⟩
  · subst h0 h2
    have hxs : xs = [] := List.eq_nil_of_length_eq_zero (by have := hown.1; simpa using this)
    subst hxs
    have hne := fun W => Lib.run_eql_slice_nil (P := Tryz.prog) W 23 3 none 0 0 0 0 Tryz.underlying23
    clear hown h1
    go_enter Tryz.func57, Tryz.ntmps57
    go_wp2
    go_ret
    exact ⟨nilV, rfl, World.ownsRow_nil _ _ _ _, Below.refl _ _⟩
  · subst hv
    obtain ⟨g2, cap2, w3, r1, r2, r3⟩ := app_srcG Tryz.underlying23 infoI rfl (by omega) w hown h1 hn (by omega)
    have hne := fun W => Lib.run_eql_slice_nil (P := Tryz.prog) W 23 3 (some ⟨g, 0, none⟩) n cap 0 0 Tryz.underlying23
    have HR := Hid.out (p := Hid _) (And.intro r2 r3)
    clear hown h1 r2 r3
    go_enter Tryz.func57, Tryz.ntmps57
    go_wp2
    go_ret
    exact ⟨_, rfl, HR.out⟩
end

section
open Go.RowKit

/-- A plain memory that has just been made, in the block mb. -/
structure Mem1 (w w' : World) (mb : Nat) (wv ov : Value) (words own : List Int) : Prop where
  box : w'.heap[mb]? = some (.cells #[wv, ov] 118 (0, 0))
  wrow : w'.ownsRow w.heap.size 3 1 wv words.length (intsV words)
  orow : w'.ownsRow w.heap.size 3 1 ov own.length (intsV own)
  lo : w.heap.size ≤ mb
  a1 : wv.ownBlock ≠ some mb
  a2 : ov.ownBlock ≠ some mb
  a3 : ∀ g, wv.ownBlock = some g → ov.ownBlock ≠ some g
  below : Below w.heap.size w w'
theorem cloneI_row (w : World) (B : Nat) (a : Option Addr) (c : Nat) (l : List Int) (hown : w.ownsRow B 3 1 (.slice a l.length c) l.length (intsV l)) (hn : l.length ≤ 1000000) :
    Calls Tryz.prog 57 #[.slice a l.length c] w fun e w' => ∃ a' c', e = .returned (.slice a' l.length c') ∧ w'.ownsRow w.heap.size 3 1 (.slice a' l.length c') l.length (intsV l) ∧ Below w.heap.size w w' :=
  (cloneI_any w B _ _ _ hown (intsV_one l) hn).mono fun e w' ⟨u, h1, h2, h3⟩ => by
    obtain ⟨a', c', rfl⟩ := fam_form h2
    exact ⟨a', c', h1, h2, h3⟩
set_option maxRecDepth 100000 in
set_option maxHeartbeats 3200000 in
theorem pcopy_any (w : World) (B : Nat) (Q : Cd) (sb mb : Nat) (v : Rp → Value) (s : Sx) (hs : QSt w B Q sb mb v s) (hm : s.words.length ≤ 64) (hl : s.own.length ≤ 4) :
    Calls Tryz.prog 181 #[.pointer (some ⟨mb, 0, none⟩)] w fun e w' => ∃ mb' wv ov, e = .returned (.pointer (some ⟨mb', 0, none⟩)) ∧ Mem1 w w' mb' wv ov s.words s.own := by
  obtain ⟨wa, wc, ew⟩ := hs.form .words
  change v .words = .slice wa s.words.length wc at ew
  obtain ⟨oa, oc, eo⟩ := hs.form .own
  change v .own = .slice oa s.own.length oc at eo
  have m0 := hs.m0
  rw [ew] at m0
  have m1 := hs.m1
  rw [eo] at m1
  have HC1 : Hid (∀ W, Below w.heap.size w W → Calls Tryz.prog 57 #[.slice wa s.words.length wc] W fun e w' => ∃ a' c', e = .returned (.slice a' s.words.length c') ∧ w'.ownsRow W.heap.size 3 1 (.slice a' s.words.length c') s.words.length (intsV s.words) ∧ Below W.heap.size W w') := fun W hb => by
    have h1 := (hs.below hb).fam.own .words
    rw [ew] at h1
    exact cloneI_row W B wa wc s.words h1 (by omega)
  have HC2 : Hid (∀ W, Below w.heap.size w W → Calls Tryz.prog 57 #[.slice oa s.own.length oc] W fun e w' => ∃ a' c', e = .returned (.slice a' s.own.length c') ∧ w'.ownsRow W.heap.size 3 1 (.slice a' s.own.length c') s.own.length (intsV s.own) ∧ Below W.heap.size W w') := fun W hb => by
    have h1 := (hs.below hb).fam.own .own
    rw [eo] at h1
    exact cloneI_row W B oa oc s.own h1 (by omega)
  have HFIN : Hid (∀ (W w3 w4 : World) (wv ov : Value), W.heap = w.heap → W.os = w.os → W.tape = w.tape → W.output = w.output → w3.ownsRow W.heap.size 3 1 wv s.words.length (intsV s.words) → Below W.heap.size W w3 → w4.ownsRow w3.heap.size 3 1 ov s.own.length (intsV s.own) → Below w3.heap.size w3 w4 → Mem1 w (w4.alloc (.cells #[wv, ov] 118)) w4.heap.size wv ov s.words s.own) := fun W w3 w4 wv ov e0 e1 e2 e3 h1 h2 h3 h4 => by
    have hz : W.heap.size = w.heap.size := by rw [e0]
    have hb : Below w.heap.size w w3 := ⟨h2.os.trans e1, h2.tape.trans e2, h2.output.trans e3, by have := h2.size; omega, fun k hk => (h2.block k (by omega)).trans (by rw [e0])⟩
    have hb4 : Below w.heap.size w w4 := hb.trans (h4.mono hb.size)
    rw [hz] at h1
    refine ⟨heap_alloc_new _ _, (fam_keeps h1 (fun g hg => h4.block g (h1.lt g hg).2)).alloc _, (own_low h3 hb.size).alloc _, hb4.size, fun e => ?_, fun e => ?_, fun g e1 e2 => ?_, hb4.alloc hb4.size _⟩
    · have := (h1.lt _ e).2
      have := h4.size
      omega
    · have := (h3.lt _ e).2; omega
    · have := (h1.lt _ e1).2
      have := (h3.lt _ e2).1
      omega
  obtain ⟨m, hmm⟩ : ∃ m, s.words.length = m := ⟨_, rfl⟩
  obtain ⟨k, hkk⟩ : ∃ m, s.own.length = m := ⟨_, rfl⟩
  rw [hmm] at m0 HC1 HFIN
  rw [hkk] at m1 HC2 HFIN
  clear hs ew eo hm hl hmm hkk
  go_enter Tryz.func181, Tryz.ntmps181
  go_wp2
  go_region_held3 (fun w' => w'.cell? ⟨mb, 0, none⟩ = some (.slice wa m wc) ∧ w'.cell? ⟨mb, 1, none⟩ = some (.slice oa k oc)) (refine ⟨?_, ?_⟩ <;> (repeat (first | assumption | refine cell_drw ?_ | refine cell_up ?_ _))) (first | (go_at_call 57; refine Calls.mono (HC1.out _ (by repeat (first | exact Below.refl _ _ | assumption | refine Below.drew ?_))) ?_; rintro e w3 ⟨a3, c3, rfl, ho3, hb3⟩; have z0 : w3.cell? ⟨mb, 0, none⟩ = some (.slice wa m wc) := (hb3.cell (p := ⟨mb, 0, none⟩) (lt_of_cell m0)).trans m0; have z1 : w3.cell? ⟨mb, 1, none⟩ = some (.slice oa k oc) := (hb3.cell (p := ⟨mb, 1, none⟩) (lt_of_cell m1)).trans m1; have hB3 : Below w.heap.size w w3 := ⟨hb3.os, hb3.tape, hb3.output, hb3.size, fun j hj => hb3.block j hj⟩) | (go_at_call 57; refine Calls.mono (HC2.out _ (by repeat (first | assumption | refine Below.drew ?_))) ?_; rintro e w4 ⟨a4, c4, rfl, ho4, hb4⟩; have y0 : w4.cell? ⟨mb, 0, none⟩ = some (.slice wa m wc) := (hb4.cell (p := ⟨mb, 0, none⟩) (lt_of_cell z0)).trans z0; have y1 : w4.cell? ⟨mb, 1, none⟩ = some (.slice oa k oc) := (hb4.cell (p := ⟨mb, 1, none⟩) (lt_of_cell z1)).trans z1))
  all_goals go_wp2
  all_goals go_ret
  all_goals exact ⟨_, _, _, rfl, HFIN.out w.drew w3 w4 _ _ rfl rfl rfl rfl ho3 hb3 ho4 hb4⟩
end

section
open Go.RowKit

section
variable {ι : Type} [DecidableEq ι] {wr w1 : World} {B : Nat} {ty : ι → TypeId} {sz : ι → Nat} {u : ι → Value} {n n1 : ι → Nat} {xs xs1 : ι → List Value}
/-- A row is copied, and laid into a table. -/
theorem Fam.copied (F : Fam wr B ty sz u n xs) {r p : ι} {x : Value} {m g i : Nat} {ys : List Value} (hB : B ≤ wr.heap.size) (hrp : r ≠ p) (h0 : (u r).ownBlock = none) (hrow : w1.ownsRow wr.heap.size (ty r) (sz r) x m ys) (hb : Below wr.heap.size wr w1) (hp : (u p).ownBlock = some g)
    (hn : n1 r = m) (hx : xs1 r = ys) (hnn : ∀ q, q ≠ r → n1 q = n q) (hxp : xs1 p = (xs p).set i x) (hxx : ∀ q, q ≠ r → q ≠ p → xs1 q = xs q) : Fam (w1.setCell ⟨g, i, none⟩ x) B ty sz (upd u r x) n1 xs1 := by
  have F1 := F.below hb
  have far : ∀ q k, (u q).ownBlock = some k → x.ownBlock ≠ some k := fun q k hk e => by
    have h1 := F.lt hk
    have h2 := (hrow.lt k e).1
    omega
  have F2 : Fam w1 B ty sz (upd u r x) (upd n r m) (upd xs r ys) := by
    refine ⟨fun q => ?_, fun a b k ha hb' => ?_⟩
    · by_cases hq : q = r
      · subst hq
        rw [upd_self, upd_self, upd_self]
        exact own_low hrow hB
      · rw [upd_ne _ _ hq, upd_ne _ _ hq, upd_ne _ _ hq]
        exact F1.own q
    · by_cases h1 : a = r
      · by_cases h2 : b = r
        · rw [h1, h2]
        · subst h1
          rw [upd_self] at ha
          rw [upd_ne _ _ h2] at hb'
          exact absurd ha (far b k hb')
      · rw [upd_ne _ _ h1] at ha
        by_cases h2 : b = r
        · subst h2
          rw [upd_self] at hb'
          exact absurd hb' (far a k ha)
        · rw [upd_ne _ _ h2] at hb'
          exact F.apart a b k ha hb'
  refine F2.put (r := p) (by rw [upd_ne _ _ (fun e => hrp e.symm)]; exact hp) i x (fun q => ?_) ?_ (fun q hq => ?_)
  · by_cases h : q = r
    · subst h; rw [upd_self]; exact hn
    · rw [upd_ne _ _ h]; exact hnn q h
  · rw [upd_ne _ _ (fun e => hrp e.symm)]; exact hxp
  · by_cases h : q = r
    · subst h; rw [upd_self]; exact hx
    · rw [upd_ne _ _ h]; exact hxx q h hq
end
/-- The roles of a memory. -/
def Rp.isMem : Rp → Bool
  | .mem => true
  | .words => true
  | .own => true
  | .box => true
  | .bufs => true
  | .buf _ => true
  | _ => false
/-- A memory that has just been made: its rows. -/
structure MemC (w w' : World) (Q : Cd) (mb : Nat) (v : Rp → Value) (s : Sx) : Prop where
  own : ∀ r, r.isMem = true → w'.ownsRow w.heap.size (pTy Q.K r) (pSz r) (v r) (pN Q s r) (pX Q mb v s r)
  apart : ∀ r q g, r.isMem = true → q.isMem = true → (v r).ownBlock = some g → (v q).ownBlock = some g → r = q
  mem : v .mem = boxV mb
  box : Q.K.bf = true → v .box = boxV Q.bb
  below : Below w.heap.size w w'
/-- The rows of a plain memory. -/
def p1V (mb : Nat) (wv ov : Value) : Rp → Value
  | .mem => boxV mb
  | .words => wv
  | .own => ov
  | _ => nilV
theorem Mem1.c {w w' : World} {mb : Nat} {wv ov : Value} {s : Sx} (h : Mem1 w w' mb wv ov s.words s.own) {Q : Cd} (hK : Q.K = plainK) : MemC w w' Q mb (p1V mb wv ov) s := by
  have hbf : Q.K.bf = false := by rw [hK]; rfl
  refine ⟨fun r hr => ?_, fun r q k hr hq h1 h2 => ?_, rfl, (fun hb => by rw [hbf] at hb; cases hb), h.below⟩
  · cases r with
    | mem => exact fam_box (xs := [wv, ov]) h.lo h.box
    | words => exact h.wrow
    | own => exact h.orow
    | box => simp only [pN, pX, hbf]; exact World.ownsRow_nil _ _ _ _
    | bufs => simp only [pN, pX, hbf]; exact World.ownsRow_nil _ _ _ _
    | buf t => simp only [pN, pX, hbf]; exact World.ownsRow_nil _ _ _ _
    | _ => cases hr
  · have s3 : ∀ k, (nilV).ownBlock = some k → False := fun k e => by simp [Value.ownBlock] at e
    have s1 : (boxV mb).ownBlock = some k → k = mb := fun e => by simpa [Value.ownBlock] using e.symm
    have key : ∀ r, (p1V mb wv ov r).ownBlock = some k → (r = .mem ∧ k = mb) ∨ (r = .words ∧ wv.ownBlock = some k) ∨ (r = .own ∧ ov.ownBlock = some k) := fun r e => by
      cases r with
      | mem => exact .inl ⟨rfl, s1 e⟩
      | words => exact .inr (.inl ⟨rfl, e⟩)
      | own => exact .inr (.inr ⟨rfl, e⟩)
      | _ => exact (s3 _ e).elim
    have a1 := h.a1
    have a2 := h.a2
    have a3 := h.a3
    rcases key r h1 with ⟨rfl, e1⟩ | ⟨rfl, e1⟩ | ⟨rfl, e1⟩ <;> rcases key q h2 with ⟨rfl, e2⟩ | ⟨rfl, e2⟩ | ⟨rfl, e2⟩ <;> first | rfl | (subst e1; exact absurd e2 (by assumption)) | (subst e2; exact absurd e1 (by assumption)) | (exact absurd e2 (a3 _ e1)) | (exact absurd e1 (a3 _ e2))
/-- What must be known of a state that is copied. -/
structure KOk (Q : Cd) (s : Sx) : Prop where
  nt : Q.nt = s.ths.length
  n0 : 0 < s.ths.length
  n4 : s.ths.length ≤ 4
  rg0 : ∀ t, t < s.ths.length → 0 < (thOf s t).regs.length
  rg : ∀ t, t < s.ths.length → (thOf s t).regs.length ≤ 200
  wl : ∀ t, t < s.ths.length → (thOf s t).wait.length ≤ 3
  words : s.words.length ≤ 64
  own : s.own.length ≤ 4
  pr : s.prints.length ≤ 10000
def Cd.at (Q : Cd) (bb : Nat) : Cd := { Q with bb := bb }
/-- Copies of a kind of memory. -/
structure MClone (K : Mk) (cf : Nat) : Prop where
  mClone : ∀ (a : Addr) (w : World), (method 368 K.tid (.pointer (some a)) "Clone").run Tryz.prog w = .ok (cf, .pointer (some a)) w
  cClone : ∀ (xs : Array Value) (w : World), (callFunc cf xs).run Tryz.prog w = .ok (.enter cf xs) w
  clone : ∀ (w : World) (B : Nat) (Q : Cd) (sb mb : Nat) (v : Rp → Value) (s : Sx), Q.K = K → QSt w B Q sb mb v s → KOk Q s →
    Calls Tryz.prog cf #[.pointer (some ⟨Q.top mb, 0, none⟩)] w fun e w' => ∃ mb' bb' vm, e = .returned (.iface K.tid (.pointer (some ⟨(Q.at bb').top mb', 0, none⟩))) ∧ MemC w w' (Q.at bb') mb' vm s
set_option maxRecDepth 100000 in
set_option maxHeartbeats 1600000 in
theorem plain_clone : MClone plainK 170 where
  mClone a w := by kernel_rfl
  cClone xs w := by kernel_rfl
  clone w B Q sb mb v s hK hs ho := by
    rw [plain_top hK]
    have HC := Hid.out (p := Hid _) (pcopy_any w B Q sb mb v s hs ho.words ho.own)
    have HK : Hid (Q.K = plainK) := hK
    clear hs ho hK
    go_enter Tryz.func170, Tryz.ntmps170
    go_wp2_with fail
    refine Calls.mono HC.out ?_
    rintro e w1 ⟨mb', wv, ov, rfl, hM⟩
    have HM := Hid.out (p := Hid _) hM
    clear HC hM
    go_wp2_with fail
    go_ret
    refine ⟨mb', 0, p1V mb' wv ov, ?_, HM.out.c (Q := Q.at 0) HK.out⟩
    rw [plain_top (Q := Q.at 0) HK.out]
    rfl
end

end Go.Proofs.YtipdnfpomdcenabGreatDoor
