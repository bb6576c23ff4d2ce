/-
  What the methods of the plain memory do.
  A text of numbers tells them; numbers of a run fit: plain functions.
-/
import Derived.Test.YtipdnfpomdcenabGreatDoorPRow
import Derived.Test.YtipdnfpomdcenabGreatDoorReachP
import Derived.Lib.ItoaNum
import Derived.Lib.ItoaLen
namespace Go.Proofs.YtipdnfpomdcenabGreatDoor
section
open Go.RowKit

set_option maxRecDepth 100000 in
set_option maxHeartbeats 1600000 in
theorem has_yes (w : World) (B : Nat) (Q : Cd) (sb mb : Nat) (v : Rp → Value) (s : Sx) (x : Int) (hs : QSt w B Q sb mb v s) (_hm : s.words.length ≤ 64) (hx : 0 ≤ x ∧ x < (s.words.length : Int)) :
    Calls Tryz.prog 172 #[.pointer (some ⟨mb, 0, none⟩), .int .i64 x] w fun e w' => e = .returned (.bool true) ∧ w' = w := by
  obtain ⟨a, c, hv⟩ := hs.form .words
  have k0 := hs.m0
  rw [hv] at k0
  change w.cell? ⟨mb, 0, none⟩ = some (.slice a s.words.length c) at k0
  obtain ⟨n, hn⟩ : ∃ n, s.words.length = n := ⟨_, rfl⟩
  rw [hn] at k0 _hm hx
  obtain ⟨h0, h1⟩ := hx
  clear hs hv hn
  go_enter Tryz.func172, Tryz.ntmps172
  go_wp2
  go_ret
  exact ⟨rfl, rfl⟩
set_option maxRecDepth 100000 in
set_option maxHeartbeats 1600000 in
theorem has_no (w : World) (B : Nat) (Q : Cd) (sb mb : Nat) (v : Rp → Value) (s : Sx) (x : Int) (hs : QSt w B Q sb mb v s) (_hm : s.words.length ≤ 64) (hx : x < 0 ∨ (s.words.length : Int) ≤ x) :
    Calls Tryz.prog 172 #[.pointer (some ⟨mb, 0, none⟩), .int .i64 x] w fun e w' => e = .returned (.bool false) ∧ w' = w := by
  obtain ⟨a, c, hv⟩ := hs.form .words
  have k0 := hs.m0
  rw [hv] at k0
  change w.cell? ⟨mb, 0, none⟩ = some (.slice a s.words.length c) at k0
  obtain ⟨n, hn⟩ : ∃ n, s.words.length = n := ⟨_, rfl⟩
  rw [hn] at k0 _hm hx
  clear hs hv hn
  by_cases h0 : x < 0
  · clear hx
    have h0' : decide (0 ≤ x) = false := by simpa using h0
    go_enter Tryz.func172, Tryz.ntmps172
    go_wp2
    go_ret
    exact ⟨rfl, rfl⟩
  · have h1 : (n : Int) ≤ x := by omega
    have h0' : 0 ≤ x := by omega
    clear hx h0
    go_enter Tryz.func172, Tryz.ntmps172
    go_wp2
    go_ret
    exact ⟨ret_bool (by simp; omega), rfl⟩
set_option maxRecDepth 100000 in
set_option maxHeartbeats 1600000 in
theorem pload_any (w : World) (B : Nat) (Q : Cd) (sb mb : Nat) (v : Rp → Value) (s : Sx) (t : Int) (x : Nat) (hs : QSt w B Q sb mb v s) (_hm : s.words.length ≤ 64) (hx : x < s.words.length) :
    Calls Tryz.prog 173 #[.pointer (some ⟨mb, 0, none⟩), .int .i64 t, .int .i64 x] w fun e w' => e = .returned (.int .i64 (s.words.getD x 0)) ∧ w' = w := by
  obtain ⟨wb, wc, hv, hwb, _⟩ := hs.blk .words (by show 0 < s.words.length; omega)
  have k0 := hs.m0
  rw [hv] at k0
  change w.cell? ⟨mb, 0, none⟩ = some (.slice (some ⟨wb, 0, none⟩) s.words.length wc) at k0
  have kw := hs.word hwb hx
  obtain ⟨n, hn⟩ : ∃ n, s.words.length = n := ⟨_, rfl⟩
  rw [hn] at k0 _hm hx
  obtain ⟨y, hy⟩ : ∃ n, s.words.getD x 0 = n := ⟨_, rfl⟩
  rw [hy] at kw ⊢
  clear hs hv hn hwb hy
  go_enter Tryz.func173, Tryz.ntmps173
  go_wp2
  go_ret
  exact ⟨rfl, rfl⟩
set_option maxRecDepth 100000 in
set_option maxHeartbeats 1600000 in
theorem pstore_any (w : World) (B : Nat) (Q : Cd) (sb mb : Nat) (v : Rp → Value) (s : Sx) (t y : Int) (x : Nat) (hs : QSt w B Q sb mb v s) (_hm : s.words.length ≤ 64) (hx : x < s.words.length) :
    Calls Tryz.prog 175 #[.pointer (some ⟨mb, 0, none⟩), .int .i64 t, .int .i64 x, .int .i64 y] w fun e w' => e = .returned (.tuple #[]) ∧ QSt w' B Q sb mb v { s with words := s.words.set x y } ∧ Moved w w' v v := by
  obtain ⟨wb, wc, hv, hwb, _⟩ := hs.blk .words (by show 0 < s.words.length; omega)
  have k0 := hs.m0
  rw [hv] at k0
  change w.cell? ⟨mb, 0, none⟩ = some (.slice (some ⟨wb, 0, none⟩) s.words.length wc) at k0
  have kw := hs.word hwb hx
  have kf := hs.fam.frozen hwb x
  have HF : Hid (QSt (w.setCell ⟨wb, x, none⟩ (.int .i64 y)) B Q sb mb v { s with words := s.words.set x y } ∧ Moved w (w.setCell ⟨wb, x, none⟩ (.int .i64 y)) v v) := ⟨hs.setWord hwb x y, (Moved.refl _ _).put hwb x _⟩
  obtain ⟨n, hn⟩ : ∃ n, s.words.length = n := ⟨_, rfl⟩
  rw [hn] at k0 _hm hx
  obtain ⟨z, hz⟩ : ∃ n, s.words.getD x 0 = n := ⟨_, rfl⟩
  rw [hz] at kw
  clear hs hv hn hwb hz
  go_enter Tryz.func175, Tryz.ntmps175
  go_wp2
  go_end0
  exact ⟨rfl, HF.out⟩
set_option maxRecDepth 100000 in
set_option maxHeartbeats 1600000 in
theorem pswap_yes (w : World) (B : Nat) (Q : Cd) (sb mb : Nat) (v : Rp → Value) (s : Sx) (t f y : Int) (x : Nat) (hs : QSt w B Q sb mb v s) (_hm : s.words.length ≤ 64) (hx : x < s.words.length) (hf : s.words.getD x 0 = f) :
    Calls Tryz.prog 176 #[.pointer (some ⟨mb, 0, none⟩), .int .i64 t, .int .i64 x, .int .i64 f, .int .i64 y] w fun e w' => e = .returned (.bool true) ∧ QSt w' B Q sb mb v { s with words := s.words.set x y } ∧ Moved w w' v v := by
  obtain ⟨wb, wc, hv, hwb, _⟩ := hs.blk .words (by show 0 < s.words.length; omega)
  have k0 := hs.m0
  rw [hv] at k0
  change w.cell? ⟨mb, 0, none⟩ = some (.slice (some ⟨wb, 0, none⟩) s.words.length wc) at k0
  have kw := hs.word hwb hx
  have kf := hs.fam.frozen hwb x
  have HF : Hid (QSt (w.setCell ⟨wb, x, none⟩ (.int .i64 y)) B Q sb mb v { s with words := s.words.set x y } ∧ Moved w (w.setCell ⟨wb, x, none⟩ (.int .i64 y)) v v) := ⟨hs.setWord hwb x y, (Moved.refl _ _).put hwb x _⟩
  obtain ⟨n, hn⟩ : ∃ n, s.words.length = n := ⟨_, rfl⟩
  rw [hn] at k0 _hm hx
  rw [hf] at kw
  clear hs hv hn hwb hf
  go_enter Tryz.func176, Tryz.ntmps176
  go_wp2
  go_ret
  exact ⟨rfl, HF.out⟩
set_option maxRecDepth 100000 in
set_option maxHeartbeats 1600000 in
theorem pswap_no (w : World) (B : Nat) (Q : Cd) (sb mb : Nat) (v : Rp → Value) (s : Sx) (t f y : Int) (x : Nat) (hs : QSt w B Q sb mb v s) (_hm : s.words.length ≤ 64) (hx : x < s.words.length) (hf : ¬ s.words.getD x 0 = f) :
    Calls Tryz.prog 176 #[.pointer (some ⟨mb, 0, none⟩), .int .i64 t, .int .i64 x, .int .i64 f, .int .i64 y] w fun e w' => e = .returned (.bool false) ∧ w' = w := by
  obtain ⟨wb, wc, hv, hwb, _⟩ := hs.blk .words (by show 0 < s.words.length; omega)
  have k0 := hs.m0
  rw [hv] at k0
  change w.cell? ⟨mb, 0, none⟩ = some (.slice (some ⟨wb, 0, none⟩) s.words.length wc) at k0
  have kw := hs.word hwb hx
  obtain ⟨n, hn⟩ : ∃ n, s.words.length = n := ⟨_, rfl⟩
  rw [hn] at k0 _hm hx
  obtain ⟨z, hz⟩ : ∃ n, s.words.getD x 0 = n := ⟨_, rfl⟩
  rw [hz] at kw hf
  clear hs hv hn hwb hz
  go_enter Tryz.func176, Tryz.ntmps176
  go_wp2
  go_ret
  exact ⟨rfl, rfl⟩
set_option maxRecDepth 100000 in
set_option maxHeartbeats 1600000 in
theorem plock_any (w : World) (B : Nat) (Q : Cd) (sb mb : Nat) (v : Rp → Value) (s : Sx) (t : Int) (x : Nat) (hs : QSt w B Q sb mb v s) (_hm : s.own.length ≤ 4) (hx : x < s.own.length) :
    Calls Tryz.prog 174 #[.pointer (some ⟨mb, 0, none⟩), .int .i64 t, .int .i64 x] w fun e w' => e = .returned (.tuple #[]) ∧ QSt w' B Q sb mb v { s with own := s.own.set x t } ∧ Moved w w' v v := by
  obtain ⟨wb, wc, hv, hwb, _⟩ := hs.blk .own (by show 0 < s.own.length; omega)
  have k0 := hs.m1
  rw [hv] at k0
  change w.cell? ⟨mb, 1, none⟩ = some (.slice (some ⟨wb, 0, none⟩) s.own.length wc) at k0
  have kw := hs.owner hwb hx
  have kf := hs.fam.frozen hwb x
  have HF : Hid (QSt (w.setCell ⟨wb, x, none⟩ (.int .i64 t)) B Q sb mb v { s with own := s.own.set x t } ∧ Moved w (w.setCell ⟨wb, x, none⟩ (.int .i64 t)) v v) := ⟨hs.setOwn hwb x t, (Moved.refl _ _).put hwb x _⟩
  obtain ⟨n, hn⟩ : ∃ n, s.own.length = n := ⟨_, rfl⟩
  rw [hn] at k0 _hm hx
  obtain ⟨z, hz⟩ : ∃ n, s.own.getD x 0 = n := ⟨_, rfl⟩
  rw [hz] at kw
  clear hs hv hn hwb hz
  go_enter Tryz.func174, Tryz.ntmps174
  go_wp2
  go_end0
  exact ⟨rfl, HF.out⟩
set_option maxRecDepth 100000 in
set_option maxHeartbeats 1600000 in
theorem holds_any (w : World) (B : Nat) (Q : Cd) (sb mb : Nat) (v : Rp → Value) (s : Sx) (t : Int) (x : Nat) (hs : QSt w B Q sb mb v s) (_hm : s.own.length ≤ 4) (hx : x < s.own.length) :
    Calls Tryz.prog 182 #[.pointer (some ⟨mb, 0, none⟩), .int .i64 t, .int .i64 x] w fun e w' => e = .returned (.bool (decide (s.own.getD x 0 = t))) ∧ w = w' := by
  obtain ⟨wb, wc, hv, hwb, _⟩ := hs.blk .own (by show 0 < s.own.length; omega)
  have k0 := hs.m1
  rw [hv] at k0
  change w.cell? ⟨mb, 1, none⟩ = some (.slice (some ⟨wb, 0, none⟩) s.own.length wc) at k0
  have kw := hs.owner hwb hx
  obtain ⟨n, hn⟩ : ∃ n, s.own.length = n := ⟨_, rfl⟩
  rw [hn] at k0 _hm hx
  obtain ⟨z, hz⟩ : ∃ n, s.own.getD x 0 = n := ⟨_, rfl⟩
  rw [hz] at kw ⊢
  clear hs hv hn hwb hz
  go_enter Tryz.func182, Tryz.ntmps182
  go_wp2
  go_ret
  exact ⟨ret_bool (by rw [Bool.eq_iff_iff]; simp), rfl⟩
set_option maxRecDepth 100000 in
set_option maxHeartbeats 1600000 in
theorem punlock_yes (w : World) (B : Nat) (Q : Cd) (sb mb : Nat) (v : Rp → Value) (s : Sx) (t : Int) (x : Nat) (hs : QSt w B Q sb mb v s) (_hm : s.own.length ≤ 4) (hx : x < s.own.length) (ht : s.own.getD x 0 = t) :
    Calls Tryz.prog 178 #[.pointer (some ⟨mb, 0, none⟩), .int .i64 t, .int .i64 x] w fun e w' => e = .returned (.bool true) ∧ QSt w' B Q sb mb v { s with own := s.own.set x (-1) } ∧ Moved w w' v v := by
  have HH := holds_any w B Q sb mb v s t x hs _hm hx
  rw [decide_eq_true ht] at HH
  obtain ⟨wb, wc, hv, hwb, _⟩ := hs.blk .own (by show 0 < s.own.length; omega)
  have k0 := hs.m1
  rw [hv] at k0
  change w.cell? ⟨mb, 1, none⟩ = some (.slice (some ⟨wb, 0, none⟩) s.own.length wc) at k0
  have kw := hs.owner hwb hx
  have kf := hs.fam.frozen hwb x
  have HF : Hid (QSt (w.setCell ⟨wb, x, none⟩ (.int .i64 (-1))) B Q sb mb v { s with own := s.own.set x (-1) } ∧ Moved w (w.setCell ⟨wb, x, none⟩ (.int .i64 (-1))) v v) := ⟨hs.setOwn hwb x (-1), (Moved.refl _ _).put hwb x _⟩
  obtain ⟨n, hn⟩ : ∃ n, s.own.length = n := ⟨_, rfl⟩
  rw [hn] at k0 _hm hx
  obtain ⟨z, hz⟩ : ∃ n, s.own.getD x 0 = n := ⟨_, rfl⟩
  rw [hz] at kw
  have HHH := Hid.out (p := Hid _) HH
  clear hs hv hn hwb hz HH ht
  go_enter Tryz.func178, Tryz.ntmps178
  go_wp2_with fail
  refine Calls.mono HHH.out ?_
  rintro e w1 ⟨rfl, rfl⟩
  go_wp2
  go_ret
  exact ⟨rfl, HF.out⟩
set_option maxRecDepth 100000 in
set_option maxHeartbeats 1600000 in
theorem punlock_no (w : World) (B : Nat) (Q : Cd) (sb mb : Nat) (v : Rp → Value) (s : Sx) (t : Int) (x : Nat) (hs : QSt w B Q sb mb v s) (_hm : s.own.length ≤ 4) (hx : x < s.own.length) (ht : ¬ s.own.getD x 0 = t) :
    Calls Tryz.prog 178 #[.pointer (some ⟨mb, 0, none⟩), .int .i64 t, .int .i64 x] w fun e w' => e = .returned (.bool false) ∧ w' = w := by
  have HH := holds_any w B Q sb mb v s t x hs _hm hx
  rw [decide_eq_false ht] at HH
  have HHH := Hid.out (p := Hid _) HH
  clear hs HH ht
  go_enter Tryz.func178, Tryz.ntmps178
  go_wp2_with fail
  refine Calls.mono HHH.out ?_
  rintro e w1 ⟨rfl, rfl⟩
  go_wp2
  go_ret
  exact ⟨rfl, rfl⟩
theorem waiting_any (mb : Nat) (t f : Value) (w : World) : Calls Tryz.prog 179 #[.pointer (some ⟨mb, 0, none⟩), t, f] w fun e w' => e = .returned (.tuple #[]) ∧ w = w' := by
  go_enter Tryz.func179, Tryz.ntmps179
  go_wp2
  go_end0
  exact ⟨rfl, rfl⟩
set_option maxRecDepth 100000 in
set_option maxHeartbeats 1600000 in
theorem pable_any (w : World) (B : Nat) (Q : Cd) (sb mb : Nat) (v : Rp → Value) (s : Sx) (t op a b c : Int) (hs : QSt w B Q sb mb v s) (_hm : s.own.length ≤ 4) (ha : op = 17 → 0 ≤ a ∧ a < (s.own.length : Int)) :
    Calls Tryz.prog 169 #[.pointer (some ⟨mb, 0, none⟩), .int .i64 t, ints4 op a b c] w fun e w' => e = .returned (.bool (ableO s.own 0 op a)) ∧ Below w.heap.size w w' := by
  have fin : ∀ o, Below w.heap.size w (w.alloc o) := fun o => (Below.refl _ _).alloc (Nat.le_refl _) _
  by_cases h : op = 17
  · subst h
    obtain ⟨j, rfl, hj⟩ := toN (ha rfl)
    obtain ⟨wb, wc, hv, hwb, _⟩ := hs.blk .own (by show 0 < s.own.length; omega)
    have k0 := hs.m1
    rw [hv] at k0
    change w.cell? ⟨mb, 1, none⟩ = some (.slice (some ⟨wb, 0, none⟩) s.own.length wc) at k0
    have kw := hs.owner hwb hj
    have k0u := cell_up k0
    have kwu := cell_up kw
    have hr : ableO s.own 0 17 (j : Int) = decide (s.own.getD j 0 = -1) := by simp [ableO]
    rw [hr]
    obtain ⟨n, hn⟩ : ∃ n, s.own.length = n := ⟨_, rfl⟩
    rw [hn] at k0u _hm hj
    obtain ⟨z, hz⟩ : ∃ n, s.own.getD j 0 = n := ⟨_, rfl⟩
    rw [hz] at kwu ⊢
    clear hs hv hn hwb hz ha k0 kw hr
    go_enter Tryz.func169, Tryz.ntmps169
    go_wp2
    go_quiet (fail)
    go_wp2
    go_ret
    exact ⟨ret_bool (by rw [Bool.eq_iff_iff]; simp), below_drewN (fin _)⟩
  · have hr : ableO s.own 0 op a = true := by
      unfold ableO
      split
      · simp
      · split
        · simp
        · rfl
    rw [hr]
    have h' : (op != 17) = true := by simpa using h
    clear hs ha hr
    go_enter Tryz.func169, Tryz.ntmps169
    go_wp2
    go_quiet (fail)
    go_wp2
    go_ret
    exact ⟨rfl, below_drewN (fin _)⟩
end

section
open Go.RowKit

/-! A text of numbers. -/
def valD (l : List UInt8) : Nat := l.foldl (fun a c => a * 10 + (c.toNat - 48)) 0
theorem valD_snoc (l : List UInt8) (c : UInt8) : valD (l ++ [c]) = valD l * 10 + (c.toNat - 48) := by simp [valD, List.foldl_append]
theorem decD_ok : ∀ (n u : Nat), u ≤ n → (∀ c, c ∈ Lib.decDigits u → 48 ≤ c.toNat ∧ c.toNat ≤ 57) ∧ valD (Lib.decDigits u) = u := by
  intro n
  have hd : ∀ d : Nat, d < 10 → (UInt8.ofNat (48 + d)).toNat = 48 + d := by decide
  induction n with
  | zero =>
    intro u h
    obtain rfl : u = 0 := by omega
    rw [Lib.decDigits, dif_pos (by omega)]
    exact ⟨fun c hc => by rw [List.mem_singleton.mp hc, hd 0 (by omega)]; omega, rfl⟩
  | succ n ih =>
    intro u h
    rw [Lib.decDigits]
    split
    · rename_i h1
      refine ⟨fun c hc => by rw [List.mem_singleton.mp hc, hd u h1]; omega, ?_⟩
      show 0 * 10 + ((UInt8.ofNat (48 + u)).toNat - 48) = u
      rw [hd u h1]; omega
    · rename_i h1
      obtain ⟨a1, a2⟩ := ih (u / 10) (by omega)
      refine ⟨fun c hc => ?_, ?_⟩
      · rcases List.mem_append.mp hc with hc | hc
        · exact a1 c hc
        · rw [List.mem_singleton.mp hc, hd (u % 10) (by omega)]; omega
      · rw [valD_snoc, a2, hd (u % 10) (by omega)]; omega
theorem decD_inj {u v : Nat} (h : Lib.decDigits u = Lib.decDigits v) : u = v := by
  rw [← (decD_ok _ u (Nat.le_refl _)).2, ← (decD_ok _ v (Nat.le_refl _)).2, h]
theorem itoa_mem {n : Int} {c : UInt8} (h : c ∈ Lib.itoa n) : c ≠ 32 := by
  have key : ∀ u, c ∈ Lib.decDigits u → c ≠ 32 := fun u hc e => by
    have := (decD_ok _ u (Nat.le_refl _)).1 c hc
    rw [e] at this
    exact absurd this.1 (by decide)
  unfold Lib.itoa at h
  split at h
  · rcases List.mem_cons.mp h with e | h
    · rw [e]; decide
    · exact key _ h
  · exact key _ h
theorem dec_not_neg {u : Nat} {r : List UInt8} (h : Lib.decDigits u = 45 :: r) : False := by
  have := (decD_ok _ u (Nat.le_refl _)).1 45 (by rw [h]; simp)
  exact absurd this.1 (by decide)
theorem itoa_inj {a b : Int} (h : Lib.itoa a = Lib.itoa b) : a = b := by
  unfold Lib.itoa at h
  split at h
  · split at h
    · have := decD_inj (List.cons.inj h).2
      omega
    · exact (dec_not_neg h.symm).elim
  · split at h
    · exact (dec_not_neg h).elim
    · have := decD_inj h
      omega
/-- Numbers as text: each with a blank behind it. -/
def textT (xs : List Int) : List UInt8 := xs.flatMap fun n => Lib.itoa n ++ [32]
theorem textT_snoc (xs : List Int) (n : Int) : textT (xs ++ [n]) = textT xs ++ (Lib.itoa n ++ [32]) := by simp [textT]
theorem cut_blank : ∀ {l l' r r' : List UInt8}, (∀ c, c ∈ l → c ≠ 32) → (∀ c, c ∈ l' → c ≠ 32) → l ++ 32 :: r = l' ++ 32 :: r' → l = l' ∧ r = r'
  | [], [], _, _, _, _, h => ⟨rfl, (List.cons.inj h).2⟩
  | [], b :: l', _, _, _, h2, h => absurd (List.cons.inj h).1.symm (h2 b (by simp))
  | a :: l, [], _, _, h1, _, h => absurd (List.cons.inj h).1 (h1 a (by simp))
  | a :: l, b :: l', r, r', h1, h2, h => by
    have h3 := List.cons.inj h
    obtain ⟨h4, h5⟩ := cut_blank (fun c hc => h1 c (by simp [hc])) (fun c hc => h2 c (by simp [hc])) h3.2
    exact ⟨by rw [h3.1, h4], h5⟩
theorem textT_inj : ∀ {xs ys : List Int}, textT xs = textT ys → xs = ys
  | [], [], _ => rfl
  | [], b :: ys, h => by
    have : (textT (b :: ys)).length = 0 := by rw [← h]; rfl
    simp [textT] at this
  | a :: xs, [], h => by
    have : (textT (a :: xs)).length = 0 := by rw [h]; rfl
    simp [textT] at this
  | a :: xs, b :: ys, h => by
    have e : ∀ (n : Int) (l : List Int), textT (n :: l) = Lib.itoa n ++ 32 :: textT l := fun n l => by simp [textT]
    rw [e, e] at h
    obtain ⟨h1, h2⟩ := cut_blank (fun c hc => itoa_mem hc) (fun c hc => itoa_mem hc) h
    rw [itoa_inj h1, textT_inj h2]
/-- A number that an int can hold. -/
def I64n (x : Int) : Prop := -9223372036854775808 ≤ x ∧ x ≤ 9223372036854775807
theorem textT_len : ∀ {xs : List Int}, (∀ x, x ∈ xs → I64n x) → (textT xs).length ≤ 22 * xs.length
  | [], _ => Nat.zero_le _
  | a :: xs, h => by
    have h1 := Lib.itoa_length_le a (h a (by simp)).1 (h a (by simp)).2
    have h2 := textT_len (xs := xs) (fun x hx => h x (by simp [hx]))
    have e : textT (a :: xs) = Lib.itoa a ++ 32 :: textT xs := by simp [textT]
    rw [e]
    simp only [List.length_append, List.length_cons]
    omega

/-! Numbers of a run fit. -/
structure VOk (s : Sx) : Prop where
  regs : ∀ h, h ∈ s.ths → ∀ x, x ∈ h.regs → I64n x
  wait : ∀ h, h ∈ s.ths → ∀ x, x ∈ h.wait → I64n x.what
  words : ∀ x, x ∈ s.words → I64n x
  own : ∀ x, x ∈ s.own → I64n x
  prints : ∀ x, x ∈ s.prints → I64n x
theorem i64_wrap (x : Int) : I64n (IntKind.i64.wrap x) := by
  rw [IntKind.wrap_i64]
  unfold I64n
  omega
theorem i64_getD {l : List Int} (h : ∀ x, x ∈ l → I64n x) (k : Nat) : I64n (l.getD k 0) := by
  rw [List.getD_eq_getElem?_getD]
  cases e : l[k]? with
  | none => exact ⟨by decide, by decide⟩
  | some y => exact h y (List.mem_of_getElem? e)
theorem i64_set {l : List Int} (h : ∀ x, x ∈ l → I64n x) {k : Nat} {v : Int} (hv : I64n v) : ∀ x, x ∈ l.set k v → I64n x := fun x hx => by
  rcases List.mem_or_eq_of_mem_set hx with hx | rfl
  · exact h x hx
  · exact hv
section
variable {s : Sx} {t : Nat}
theorem VOk.th (h : VOk s) {x : Th} (hr : ∀ y, y ∈ x.regs → I64n y) (hw : ∀ y, y ∈ x.wait → I64n y.what) : VOk (setTh s t x) := by
  refine ⟨fun g hg => ?_, fun g hg => ?_, h.words, h.own, h.prints⟩
  · rcases List.mem_or_eq_of_mem_set hg with hg | rfl
    · exact h.regs g hg
    · exact hr
  · rcases List.mem_or_eq_of_mem_set hg with hg | rfl
    · exact h.wait g hg
    · exact hw
theorem thOf_mem (ht : t < s.ths.length) : thOf s t ∈ s.ths := by
  unfold thOf
  rw [List.getD_eq_getElem?_getD, List.getElem?_eq_getElem ht]
  exact List.getElem_mem ht
theorem VOk.getR (h : VOk s) (ht : t < s.ths.length) (r : Int) : I64n (getR s t r) := i64_getD (h.regs _ (thOf_mem ht)) _
theorem VOk.setR (h : VOk s) (ht : t < s.ths.length) (r : Int) {v : Int} (hv : I64n v) : VOk (setR s t r v) := h.th (i64_set (h.regs _ (thOf_mem ht)) hv) (fun y hy => h.wait (thOf s t) (thOf_mem ht) y hy)
theorem VOk.pc (h : VOk s) (ht : t < s.ths.length) (k : Nat) : VOk (setTh s t { thOf s t with pc := k }) := h.th (fun y hy => h.regs (thOf s t) (thOf_mem ht) y hy) (fun y hy => h.wait (thOf s t) (thOf_mem ht) y hy)
theorem VOk.done (h : VOk s) {x : Wt} (hx : I64n x.what) : VOk (doneW s x) := by
  unfold doneW
  split
  · exact ⟨h.regs, h.wait, h.words, i64_set h.own ⟨by decide, by decide⟩, h.prints⟩
  · exact ⟨h.regs, h.wait, i64_set h.words hx, h.own, h.prints⟩
theorem VOk.store (h : VOk s) (ht : t < s.ths.length) (mode : Int) {x : Wt} (hx : I64n x.what) : VOk (storeW mode s t x) := by
  unfold storeW
  split
  · refine h.th (fun y hy => h.regs (thOf s t) (thOf_mem ht) y hy) (fun y hy => ?_)
    rcases List.mem_append.mp hy with hy | hy
    · exact h.wait _ (thOf_mem ht) y hy
    · rw [List.mem_singleton.mp hy]; exact hx
  · exact h.done hx
theorem VOk.finds (h : VOk s) (ht : t < s.ths.length) (wd : Int) : I64n (findsW s t wd) := by
  unfold findsW
  split
  · rename_i x hx
    exact h.wait _ (thOf_mem ht) x (by simpa using List.mem_of_find?_eq_some hx)
  · exact i64_getD h.words _
theorem i64_bit (b : Bool) : I64n (bitI b) := by cases b <;> exact ⟨by decide, by decide⟩
theorem VOk.order (h : VOk s) (ht : t < s.ths.length) (h4 : t < 4) (mode op a b c : Int) (hb : I64n b) : VOk (orderX mode s t op a b c) := by
  unfold orderX
  by_cases e : op = 1
  · rw [if_pos e]
    exact h.setR ht a hb
  rw [if_neg e]
  clear e
  by_cases e : op = 2
  · rw [if_pos e]
    exact h.setR ht a (h.getR ht b)
  rw [if_neg e]
  clear e
  by_cases e : op = 3
  · rw [if_pos e]
    exact h.setR ht a (i64_wrap _)
  rw [if_neg e]
  clear e
  by_cases e : op = 4
  · rw [if_pos e]
    exact h.setR ht a (i64_wrap _)
  rw [if_neg e]
  clear e
  by_cases e : op = 5
  · rw [if_pos e]
    exact h.setR ht a (i64_wrap _)
  rw [if_neg e]
  clear e
  by_cases e : op = 6
  · rw [if_pos e]
    exact h.setR ht a (i64_bit _)
  rw [if_neg e]
  clear e
  by_cases e : op = 7
  · rw [if_pos e]
    exact h.setR ht a (i64_bit _)
  rw [if_neg e]
  clear e
  by_cases e : op = 8
  · rw [if_pos e]
    exact h.setR ht a (h.finds ht b)
  rw [if_neg e]
  clear e
  by_cases e : op = 9
  · rw [if_pos e]
    exact h.store ht mode (h.getR ht b)
  rw [if_neg e]
  clear e
  by_cases e : op = 10
  · rw [if_pos e]
    by_cases e2 : Go.Proofs.YtipdnfpomdcenabGreatDoor.getR s t b < 0 ∨ (s.words.length : Int) ≤ Go.Proofs.YtipdnfpomdcenabGreatDoor.getR s t b
    · rw [if_pos e2]; exact ⟨h.regs, h.wait, h.words, h.own, h.prints⟩
    · rw [if_neg e2]; exact h.setR ht a (h.finds ht _)
  rw [if_neg e]
  clear e
  by_cases e : op = 11
  · rw [if_pos e]
    by_cases e2 : Go.Proofs.YtipdnfpomdcenabGreatDoor.getR s t a < 0 ∨ (s.words.length : Int) ≤ Go.Proofs.YtipdnfpomdcenabGreatDoor.getR s t a
    · rw [if_pos e2]; exact ⟨h.regs, h.wait, h.words, h.own, h.prints⟩
    · rw [if_neg e2]; exact h.store ht mode (h.getR ht b)
  rw [if_neg e]
  clear e
  by_cases e : op = 13
  · rw [if_pos e]
    by_cases e2 : s.words.getD a.toNat 0 = Go.Proofs.YtipdnfpomdcenabGreatDoor.getR s t b
    · rw [if_pos e2]
      have h1 : VOk { s with words := s.words.set a.toNat (Go.Proofs.YtipdnfpomdcenabGreatDoor.getR s t c) } := ⟨h.regs, h.wait, i64_set h.words (h.getR ht c), h.own, h.prints⟩
      exact h1.setR ht b ⟨by decide, by decide⟩
    · rw [if_neg e2]; exact h.setR ht b ⟨by decide, by decide⟩
  rw [if_neg e]
  clear e
  by_cases e : op = 14
  · rw [if_pos e]
    exact h.pc ht _
  rw [if_neg e]
  clear e
  by_cases e : op = 15
  · rw [if_pos e]
    by_cases e2 : Go.Proofs.YtipdnfpomdcenabGreatDoor.getR s t a = 0
    · rw [if_pos e2]; exact h.pc ht _
    · rw [if_neg e2]; exact h
  rw [if_neg e]
  clear e
  by_cases e : op = 16
  · rw [if_pos e]
    refine ⟨h.regs, h.wait, h.words, h.own, fun x hx => ?_⟩
    rcases List.mem_append.mp hx with hx | hx
    · exact h.prints x hx
    · rcases List.mem_cons.mp hx with rfl | hx
      · exact ⟨by omega, by omega⟩
      · rw [List.mem_singleton.mp hx]; exact h.getR ht a
  rw [if_neg e]
  clear e
  by_cases e : op = 17
  · rw [if_pos e]
    exact ⟨h.regs, h.wait, h.words, i64_set h.own ⟨by omega, by omega⟩, h.prints⟩
  rw [if_neg e]
  clear e
  by_cases e : op = 18
  · rw [if_pos e]
    by_cases e2 : s.own.getD a.toNat 0 ≠ t ∨ ((thOf s t).wait.any fun x => x.lk && decide (x.wh = a)) = true
    · rw [if_pos e2]; exact ⟨h.regs, h.wait, h.words, h.own, h.prints⟩
    · rw [if_neg e2]; exact h.store ht mode (x := ⟨true, a, 0⟩) (show I64n 0 from ⟨by decide, by decide⟩)
  rw [if_neg e]
  clear e
  exact h
end
/-- A move keeps all numbers such that an int can hold them. -/
theorem VOk.move {n : Nat} {L : Nat → Nat} {X : Nat → Nat → Nat → Int} {m lk rg : Nat} {mode : Int} {s : Sx} (h : VOk s) (ho : SOk n L m lk rg mode s) (hn : n ≤ 4) (hX : ∀ t i, t < n → i < L t → I64n (X t i 2)) {mv : Int} (hmv : mv ∈ movesX L X mode s) : VOk (doX X mode s mv.toNat) := by
  rcases movesX_mem hmv with ⟨t, ht, rfl, ha⟩ | ⟨t, k, ht, hk, rfl, _⟩
  · rw [show (8 * (t : Int)).toNat = 8 * t by omega]
    unfold doX
    simp only [show 8 * t / 8 = t by omega, show 8 * t % 8 = 0 by omega]
    rw [if_neg (by omega)]
    have htn : t < n := by rw [← ho.ths]; exact ht
    exact (h.pc ht _).order (by rw [ths_set]; exact ht) (by omega) mode _ _ _ _ (hX t _ htn (able_lt ha))
  · have h3 := ho.wlen t (by rw [← ho.ths]; exact ht)
    rw [show (8 * (t : Int) + (k : Int) + 1).toNat = 8 * t + k + 1 by omega, doX_wait (by omega)]
    have hx : (thOf s t).wait.getD k default ∈ (thOf s t).wait := by
      rw [List.getD_eq_getElem?_getD, List.getElem?_eq_getElem hk]; exact List.getElem_mem hk
    exact (h.done (h.wait _ (thOf_mem ht) _ hx)).th (fun y hy => h.regs (thOf s t) (thOf_mem ht) y hy) (fun y hy => h.wait (thOf s t) (thOf_mem ht) y (List.mem_of_mem_eraseIdx hy))
theorem VOk.begin {n : Nat} {words : List Int} {lk rg : Nat} (hw : ∀ x, x ∈ words → I64n x) : VOk (beginX n words lk rg) := by
  refine ⟨fun g hg x hx => ?_, fun g hg x hx => ?_, hw, fun x hx => ?_, fun x hx => (by cases hx)⟩
  · rw [(List.mem_replicate.mp hg).2] at hx
    rw [(List.mem_replicate.mp hx).2]
    exact ⟨by decide, by decide⟩
  · rw [(List.mem_replicate.mp hg).2] at hx
    cases hx
  · rw [(List.mem_replicate.mp hx).2]
    exact ⟨by decide, by decide⟩
/-- What a state tells fits. -/
theorem tel_fits {n : Nat} {L : Nat → Nat} {m lk rg : Nat} {mode : Int} {s : Sx} (h : VOk s) (ho : SOk n L m lk rg mode s) (hL : ∀ t, t < n → L t ≤ 400) (hm : m ≤ 64) (hlk : lk ≤ 4) : ∀ x, x ∈ telX mode s → I64n x := by
  intro x hx
  unfold telX telM at hx
  rcases List.mem_append.mp hx with hx | hx
  · rcases List.mem_append.mp hx with hx | hx
    · obtain ⟨g, hg, hx⟩ := List.mem_flatMap.mp hx
      unfold telT at hx
      rcases List.mem_append.mp hx with hx | hx
      · obtain ⟨t, ht, rfl⟩ := ho.mem hg
        rw [List.mem_singleton.mp hx]
        have h1 := ho.pc t ht
        have h2 := hL t ht
        exact ⟨by omega, by omega⟩
      · exact h.regs g hg x hx
    · rcases List.mem_append.mp hx with hx | hx
      · rcases List.mem_append.mp hx with hx | hx
        · exact h.words x hx
        · exact h.own x hx
      · split at hx
        · obtain ⟨g, hg, hx⟩ := List.mem_flatMap.mp hx
          unfold telB at hx
          obtain ⟨t, ht, rfl⟩ := ho.mem hg
          rcases List.mem_append.mp hx with hx | hx
          · rw [List.mem_singleton.mp hx]
            have h1 := ho.wlen t ht
            exact ⟨by omega, by omega⟩
          · obtain ⟨y, hy, hx⟩ := List.mem_flatMap.mp hx
            have h1 := (ho.wok t ht y hy).1
            unfold telW at hx
            rcases List.mem_cons.mp hx with rfl | hx
            · cases hk : y.lk <;> rw [hk] at h1 <;> simp only [if_true, Bool.false_eq_true, if_false] at h1 ⊢ <;> exact ⟨by omega, by omega⟩
            · rw [List.mem_singleton.mp hx]
              exact h.wait _ hg y hy
        · cases hx
  · exact h.prints x hx
end

end Go.Proofs.YtipdnfpomdcenabGreatDoor
