/-
  What the methods of the plain memory do.
-/
import Derived.Test.YtipdnfpomdcenabPRow
import Derived.Test.YtipdnfpomdcenabRBegin
namespace Go.Proofs.Ytipdnfpomdcenab
open Go.RowKit

set_option maxRecDepth 100000 in
set_option maxHeartbeats 1600000 in
theorem has_yes (w : World) (B : Nat) (Q : Cd) (sb mb : Nat) (v : Rp → Value) (s : Sx) (x : Int) (hs : QSt w B Q sb mb v s) (_hm : s.words.length ≤ 64) (hx : 0 ≤ x ∧ x < (s.words.length : Int)) :
    Calls Try.prog 77 #[.pointer (some ⟨mb, 0, none⟩), .int .i64 x] w fun e w' => e = .returned (.bool true) ∧ w' = w := by
  obtain ⟨a, c, hv⟩ := hs.form .words
  have k0 := hs.m0
  rw [hv] at k0
  change w.cell? ⟨mb, 0, none⟩ = some (.slice a s.words.length c) at k0
  obtain ⟨n, hn⟩ : ∃ n, s.words.length = n := ⟨_, rfl⟩
  rw [hn] at k0 _hm hx
  obtain ⟨h0, h1⟩ := hx
  clear hs hv hn
  go_enter Try.func77, Try.ntmps77
  go_wp2
  go_ret
  exact ⟨rfl, rfl⟩
set_option maxRecDepth 100000 in
set_option maxHeartbeats 1600000 in
theorem has_no (w : World) (B : Nat) (Q : Cd) (sb mb : Nat) (v : Rp → Value) (s : Sx) (x : Int) (hs : QSt w B Q sb mb v s) (_hm : s.words.length ≤ 64) (hx : x < 0 ∨ (s.words.length : Int) ≤ x) :
    Calls Try.prog 77 #[.pointer (some ⟨mb, 0, none⟩), .int .i64 x] w fun e w' => e = .returned (.bool false) ∧ w' = w := by
  obtain ⟨a, c, hv⟩ := hs.form .words
  have k0 := hs.m0
  rw [hv] at k0
  change w.cell? ⟨mb, 0, none⟩ = some (.slice a s.words.length c) at k0
  obtain ⟨n, hn⟩ : ∃ n, s.words.length = n := ⟨_, rfl⟩
  rw [hn] at k0 _hm hx
  clear hs hv hn
  by_cases h0 : x < 0
  · clear hx
    have h0' : decide (0 ≤ x) = false := by simpa using h0
    go_enter Try.func77, Try.ntmps77
    go_wp2
    go_ret
    exact ⟨rfl, rfl⟩
  · have h1 : (n : Int) ≤ x := by omega
    have h0' : 0 ≤ x := by omega
    clear hx h0
    go_enter Try.func77, Try.ntmps77
    go_wp2
    go_ret
    exact ⟨ret_bool (by simp; omega), rfl⟩
set_option maxRecDepth 100000 in
set_option maxHeartbeats 1600000 in
theorem pload_any (w : World) (B : Nat) (Q : Cd) (sb mb : Nat) (v : Rp → Value) (s : Sx) (t : Int) (x : Nat) (hs : QSt w B Q sb mb v s) (_hm : s.words.length ≤ 64) (hx : x < s.words.length) :
    Calls Try.prog 90 #[.pointer (some ⟨mb, 0, none⟩), .int .i64 t, .int .i64 x] w fun e w' => e = .returned (.int .i64 (s.words.getD x 0)) ∧ w' = w := by
  obtain ⟨wb, wc, hv, hwb, _⟩ := hs.blk .words (by show 0 < s.words.length; omega)
  have k0 := hs.m0
  rw [hv] at k0
  change w.cell? ⟨mb, 0, none⟩ = some (.slice (some ⟨wb, 0, none⟩) s.words.length wc) at k0
  have kw := hs.word hwb hx
  obtain ⟨n, hn⟩ : ∃ n, s.words.length = n := ⟨_, rfl⟩
  rw [hn] at k0 _hm hx
  obtain ⟨y, hy⟩ : ∃ n, s.words.getD x 0 = n := ⟨_, rfl⟩
  rw [hy] at kw ⊢
  clear hs hv hn hwb hy
  go_enter Try.func90, Try.ntmps90
  go_wp2
  go_ret
  exact ⟨rfl, rfl⟩
set_option maxRecDepth 100000 in
set_option maxHeartbeats 1600000 in
theorem pstore_any (w : World) (B : Nat) (Q : Cd) (sb mb : Nat) (v : Rp → Value) (s : Sx) (t y : Int) (x : Nat) (hs : QSt w B Q sb mb v s) (_hm : s.words.length ≤ 64) (hx : x < s.words.length) :
    Calls Try.prog 88 #[.pointer (some ⟨mb, 0, none⟩), .int .i64 t, .int .i64 x, .int .i64 y] w fun e w' => e = .returned (.tuple #[]) ∧ QSt w' B Q sb mb v { s with words := s.words.set x y } ∧ Moved w w' v v := by
  obtain ⟨wb, wc, hv, hwb, _⟩ := hs.blk .words (by show 0 < s.words.length; omega)
  have k0 := hs.m0
  rw [hv] at k0
  change w.cell? ⟨mb, 0, none⟩ = some (.slice (some ⟨wb, 0, none⟩) s.words.length wc) at k0
  have kw := hs.word hwb hx
  have kf := hs.fam.frozen hwb x
  have HF : Hid (QSt (w.setCell ⟨wb, x, none⟩ (.int .i64 y)) B Q sb mb v { s with words := s.words.set x y } ∧ Moved w (w.setCell ⟨wb, x, none⟩ (.int .i64 y)) v v) := ⟨hs.setWord hwb x y, (Moved.refl _ _).put hwb x _⟩
  obtain ⟨n, hn⟩ : ∃ n, s.words.length = n := ⟨_, rfl⟩
  rw [hn] at k0 _hm hx
  obtain ⟨z, hz⟩ : ∃ n, s.words.getD x 0 = n := ⟨_, rfl⟩
  rw [hz] at kw
  clear hs hv hn hwb hz
  go_enter Try.func88, Try.ntmps88
  go_wp2
  go_end0
  exact ⟨rfl, HF.out⟩
set_option maxRecDepth 100000 in
set_option maxHeartbeats 1600000 in
theorem pswap_yes (w : World) (B : Nat) (Q : Cd) (sb mb : Nat) (v : Rp → Value) (s : Sx) (t f y : Int) (x : Nat) (hs : QSt w B Q sb mb v s) (_hm : s.words.length ≤ 64) (hx : x < s.words.length) (hf : s.words.getD x 0 = f) :
    Calls Try.prog 81 #[.pointer (some ⟨mb, 0, none⟩), .int .i64 t, .int .i64 x, .int .i64 f, .int .i64 y] w fun e w' => e = .returned (.bool true) ∧ QSt w' B Q sb mb v { s with words := s.words.set x y } ∧ Moved w w' v v := by
  obtain ⟨wb, wc, hv, hwb, _⟩ := hs.blk .words (by show 0 < s.words.length; omega)
  have k0 := hs.m0
  rw [hv] at k0
  change w.cell? ⟨mb, 0, none⟩ = some (.slice (some ⟨wb, 0, none⟩) s.words.length wc) at k0
  have kw := hs.word hwb hx
  have kf := hs.fam.frozen hwb x
  have HF : Hid (QSt (w.setCell ⟨wb, x, none⟩ (.int .i64 y)) B Q sb mb v { s with words := s.words.set x y } ∧ Moved w (w.setCell ⟨wb, x, none⟩ (.int .i64 y)) v v) := ⟨hs.setWord hwb x y, (Moved.refl _ _).put hwb x _⟩
  obtain ⟨n, hn⟩ : ∃ n, s.words.length = n := ⟨_, rfl⟩
  rw [hn] at k0 _hm hx
  rw [hf] at kw
  clear hs hv hn hwb hf
  go_enter Try.func81, Try.ntmps81
  go_wp2
  go_ret
  exact ⟨rfl, HF.out⟩
set_option maxRecDepth 100000 in
set_option maxHeartbeats 1600000 in
theorem pswap_no (w : World) (B : Nat) (Q : Cd) (sb mb : Nat) (v : Rp → Value) (s : Sx) (t f y : Int) (x : Nat) (hs : QSt w B Q sb mb v s) (_hm : s.words.length ≤ 64) (hx : x < s.words.length) (hf : ¬ s.words.getD x 0 = f) :
    Calls Try.prog 81 #[.pointer (some ⟨mb, 0, none⟩), .int .i64 t, .int .i64 x, .int .i64 f, .int .i64 y] w fun e w' => e = .returned (.bool false) ∧ w' = w := by
  obtain ⟨wb, wc, hv, hwb, _⟩ := hs.blk .words (by show 0 < s.words.length; omega)
  have k0 := hs.m0
  rw [hv] at k0
  change w.cell? ⟨mb, 0, none⟩ = some (.slice (some ⟨wb, 0, none⟩) s.words.length wc) at k0
  have kw := hs.word hwb hx
  obtain ⟨n, hn⟩ : ∃ n, s.words.length = n := ⟨_, rfl⟩
  rw [hn] at k0 _hm hx
  obtain ⟨z, hz⟩ : ∃ n, s.words.getD x 0 = n := ⟨_, rfl⟩
  rw [hz] at kw hf
  clear hs hv hn hwb hz
  go_enter Try.func81, Try.ntmps81
  go_wp2
  go_ret
  exact ⟨rfl, rfl⟩
set_option maxRecDepth 100000 in
set_option maxHeartbeats 1600000 in
theorem plock_any (w : World) (B : Nat) (Q : Cd) (sb mb : Nat) (v : Rp → Value) (s : Sx) (t : Int) (x : Nat) (hs : QSt w B Q sb mb v s) (_hm : s.own.length ≤ 4) (hx : x < s.own.length) :
    Calls Try.prog 79 #[.pointer (some ⟨mb, 0, none⟩), .int .i64 t, .int .i64 x] w fun e w' => e = .returned (.tuple #[]) ∧ QSt w' B Q sb mb v { s with own := s.own.set x t } ∧ Moved w w' v v := by
  obtain ⟨wb, wc, hv, hwb, _⟩ := hs.blk .own (by show 0 < s.own.length; omega)
  have k0 := hs.m1
  rw [hv] at k0
  change w.cell? ⟨mb, 1, none⟩ = some (.slice (some ⟨wb, 0, none⟩) s.own.length wc) at k0
  have kw := hs.owner hwb hx
  have kf := hs.fam.frozen hwb x
  have HF : Hid (QSt (w.setCell ⟨wb, x, none⟩ (.int .i64 t)) B Q sb mb v { s with own := s.own.set x t } ∧ Moved w (w.setCell ⟨wb, x, none⟩ (.int .i64 t)) v v) := ⟨hs.setOwn hwb x t, (Moved.refl _ _).put hwb x _⟩
  obtain ⟨n, hn⟩ : ∃ n, s.own.length = n := ⟨_, rfl⟩
  rw [hn] at k0 _hm hx
  obtain ⟨z, hz⟩ : ∃ n, s.own.getD x 0 = n := ⟨_, rfl⟩
  rw [hz] at kw
  clear hs hv hn hwb hz
  go_enter Try.func79, Try.ntmps79
  go_wp2
  go_end0
  exact ⟨rfl, HF.out⟩
set_option maxRecDepth 100000 in
set_option maxHeartbeats 1600000 in
theorem holds_any (w : World) (B : Nat) (Q : Cd) (sb mb : Nat) (v : Rp → Value) (s : Sx) (t : Int) (x : Nat) (hs : QSt w B Q sb mb v s) (_hm : s.own.length ≤ 4) (hx : x < s.own.length) :
    Calls Try.prog 92 #[.pointer (some ⟨mb, 0, none⟩), .int .i64 t, .int .i64 x] w fun e w' => e = .returned (.bool (decide (s.own.getD x 0 = t))) ∧ w = w' := by
  obtain ⟨wb, wc, hv, hwb, _⟩ := hs.blk .own (by show 0 < s.own.length; omega)
  have k0 := hs.m1
  rw [hv] at k0
  change w.cell? ⟨mb, 1, none⟩ = some (.slice (some ⟨wb, 0, none⟩) s.own.length wc) at k0
  have kw := hs.owner hwb hx
  obtain ⟨n, hn⟩ : ∃ n, s.own.length = n := ⟨_, rfl⟩
  rw [hn] at k0 _hm hx
  obtain ⟨z, hz⟩ : ∃ n, s.own.getD x 0 = n := ⟨_, rfl⟩
  rw [hz] at kw ⊢
  clear hs hv hn hwb hz
  go_enter Try.func92, Try.ntmps92
  go_wp2
  go_ret
  exact ⟨ret_bool (by rw [Bool.eq_iff_iff]; simp), rfl⟩
set_option maxRecDepth 100000 in
set_option maxHeartbeats 1600000 in
theorem punlock_yes (w : World) (B : Nat) (Q : Cd) (sb mb : Nat) (v : Rp → Value) (s : Sx) (t : Int) (x : Nat) (hs : QSt w B Q sb mb v s) (_hm : s.own.length ≤ 4) (hx : x < s.own.length) (ht : s.own.getD x 0 = t) :
    Calls Try.prog 87 #[.pointer (some ⟨mb, 0, none⟩), .int .i64 t, .int .i64 x] w fun e w' => e = .returned (.bool true) ∧ QSt w' B Q sb mb v { s with own := s.own.set x (-1) } ∧ Moved w w' v v := by
  have HH := holds_any w B Q sb mb v s t x hs _hm hx
  rw [decide_eq_true ht] at HH
  obtain ⟨wb, wc, hv, hwb, _⟩ := hs.blk .own (by show 0 < s.own.length; omega)
  have k0 := hs.m1
  rw [hv] at k0
  change w.cell? ⟨mb, 1, none⟩ = some (.slice (some ⟨wb, 0, none⟩) s.own.length wc) at k0
  have kw := hs.owner hwb hx
  have kf := hs.fam.frozen hwb x
  have HF : Hid (QSt (w.setCell ⟨wb, x, none⟩ (.int .i64 (-1))) B Q sb mb v { s with own := s.own.set x (-1) } ∧ Moved w (w.setCell ⟨wb, x, none⟩ (.int .i64 (-1))) v v) := ⟨hs.setOwn hwb x (-1), (Moved.refl _ _).put hwb x _⟩
  obtain ⟨n, hn⟩ : ∃ n, s.own.length = n := ⟨_, rfl⟩
  rw [hn] at k0 _hm hx
  obtain ⟨z, hz⟩ : ∃ n, s.own.getD x 0 = n := ⟨_, rfl⟩
  rw [hz] at kw
  have HHH := Hid.out (p := Hid _) HH
  clear hs hv hn hwb hz HH ht
  go_enter Try.func87, Try.ntmps87
  go_wp2_with fail
  refine Calls.mono HHH.out ?_
  rintro e w1 ⟨rfl, rfl⟩
  go_wp2
  go_ret
  exact ⟨rfl, HF.out⟩
set_option maxRecDepth 100000 in
set_option maxHeartbeats 1600000 in
theorem punlock_no (w : World) (B : Nat) (Q : Cd) (sb mb : Nat) (v : Rp → Value) (s : Sx) (t : Int) (x : Nat) (hs : QSt w B Q sb mb v s) (_hm : s.own.length ≤ 4) (hx : x < s.own.length) (ht : ¬ s.own.getD x 0 = t) :
    Calls Try.prog 87 #[.pointer (some ⟨mb, 0, none⟩), .int .i64 t, .int .i64 x] w fun e w' => e = .returned (.bool false) ∧ w' = w := by
  have HH := holds_any w B Q sb mb v s t x hs _hm hx
  rw [decide_eq_false ht] at HH
  have HHH := Hid.out (p := Hid _) HH
  clear hs HH ht
  go_enter Try.func87, Try.ntmps87
  go_wp2_with fail
  refine Calls.mono HHH.out ?_
  rintro e w1 ⟨rfl, rfl⟩
  go_wp2
  go_ret
  exact ⟨rfl, rfl⟩
theorem waiting_any (mb : Nat) (t f : Value) (w : World) : Calls Try.prog 97 #[.pointer (some ⟨mb, 0, none⟩), t, f] w fun e w' => e = .returned (.tuple #[]) ∧ w = w' := by
  go_enter Try.func97, Try.ntmps97
  go_wp2
  go_end0
  exact ⟨rfl, rfl⟩
set_option maxRecDepth 100000 in
set_option maxHeartbeats 1600000 in
theorem pable_any (w : World) (B : Nat) (Q : Cd) (sb mb : Nat) (v : Rp → Value) (s : Sx) (t op a b c : Int) (hs : QSt w B Q sb mb v s) (_hm : s.own.length ≤ 4) (ha : op = 17 → 0 ≤ a ∧ a < (s.own.length : Int)) :
    Calls Try.prog 85 #[.pointer (some ⟨mb, 0, none⟩), .int .i64 t, ints4 op a b c] w fun e w' => e = .returned (.bool (ableO s.own 0 op a)) ∧ Below w.heap.size w w' := by
  have fin : ∀ o, Below w.heap.size w (w.alloc o) := fun o => (Below.refl _ _).alloc (Nat.le_refl _) _
  by_cases h : op = 17
  · subst h
    obtain ⟨j, rfl, hj⟩ := toN (ha rfl)
    obtain ⟨wb, wc, hv, hwb, _⟩ := hs.blk .own (by show 0 < s.own.length; omega)
    have k0 := hs.m1
    rw [hv] at k0
    change w.cell? ⟨mb, 1, none⟩ = some (.slice (some ⟨wb, 0, none⟩) s.own.length wc) at k0
    have kw := hs.owner hwb hj
    have k0u := cell_up k0
    have kwu := cell_up kw
    have hr : ableO s.own 0 17 (j : Int) = decide (s.own.getD j 0 = -1) := by simp [ableO]
    rw [hr]
    obtain ⟨n, hn⟩ : ∃ n, s.own.length = n := ⟨_, rfl⟩
    rw [hn] at k0u _hm hj
    obtain ⟨z, hz⟩ : ∃ n, s.own.getD j 0 = n := ⟨_, rfl⟩
    rw [hz] at kwu ⊢
    clear hs hv hn hwb hz ha k0 kw hr
    go_enter Try.func85, Try.ntmps85
    go_wp2
    go_quiet (fail)
    go_wp2
    go_ret
    exact ⟨ret_bool (by rw [Bool.eq_iff_iff]; simp), below_drewN (fin _)⟩
  · have hr : ableO s.own 0 op a = true := by
      unfold ableO
      split
      · simp
      · split
        · simp
        · rfl
    rw [hr]
    have h' : (op != 17) = true := by simpa using h
    clear hs ha hr
    go_enter Try.func85, Try.ntmps85
    go_wp2
    go_quiet (fail)
    go_wp2
    go_ret
    exact ⟨rfl, below_drewN (fin _)⟩

end Go.Proofs.Ytipdnfpomdcenab
