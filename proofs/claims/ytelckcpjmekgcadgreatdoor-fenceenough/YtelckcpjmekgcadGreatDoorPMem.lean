/-
  What the methods of the plain memory do.
  What the program makes of orders that a thread's registers alone have to do with.
-/
import Derived.Test.YtelckcpjmekgcadGreatDoorPRow
import Derived.Test.YtelckcpjmekgcadGreatDoorRMay
import Derived.Test.YtelckcpjmekgcadGreatDoorInProg
namespace Go.Proofs.YtelckcpjmekgcadGreatDoor
section
open Go.RowKit

set_option maxRecDepth 100000 in
set_option maxHeartbeats 1600000 in
theorem has_yes (w : World) (B : Nat) (Q : Cd) (sb mb : Nat) (v : Rp → Value) (s : Sx) (x : Int) (hs : QSt w B Q sb mb v s) (_hm : s.words.length ≤ 64) (hx : 0 ≤ x ∧ x < (s.words.length : Int)) :
    Calls Tryz.prog 129 #[.pointer (some ⟨mb, 0, none⟩), .int .i64 x] w fun e w' => e = .returned (.bool true) ∧ w' = w := by
  obtain ⟨a, c, hv⟩ := hs.form .words
  have k0 := hs.m0
  rw [hv] at k0
  change w.cell? ⟨mb, 0, none⟩ = some (.slice a s.words.length c) at k0
  obtain ⟨n, hn⟩ : ∃ n, s.words.length = n := ⟨_, rfl⟩
  rw [hn] at k0 _hm hx
  obtain ⟨h0, h1⟩ := hx
  clear hs hv hn
  go_enter Tryz.func129, Tryz.ntmps129
  go_wp2
  go_ret
  exact ⟨rfl, rfl⟩
set_option maxRecDepth 100000 in
set_option maxHeartbeats 1600000 in
theorem has_no (w : World) (B : Nat) (Q : Cd) (sb mb : Nat) (v : Rp → Value) (s : Sx) (x : Int) (hs : QSt w B Q sb mb v s) (_hm : s.words.length ≤ 64) (hx : x < 0 ∨ (s.words.length : Int) ≤ x) :
    Calls Tryz.prog 129 #[.pointer (some ⟨mb, 0, none⟩), .int .i64 x] w fun e w' => e = .returned (.bool false) ∧ w' = w := by
  obtain ⟨a, c, hv⟩ := hs.form .words
  have k0 := hs.m0
  rw [hv] at k0
  change w.cell? ⟨mb, 0, none⟩ = some (.slice a s.words.length c) at k0
  obtain ⟨n, hn⟩ : ∃ n, s.words.length = n := ⟨_, rfl⟩
  rw [hn] at k0 _hm hx
  clear hs hv hn
  by_cases h0 : x < 0
  · clear hx
    have h0' : decide (0 ≤ x) = false := by simpa using h0
    go_enter Tryz.func129, Tryz.ntmps129
    go_wp2
    go_ret
    exact ⟨rfl, rfl⟩
  · have h1 : (n : Int) ≤ x := by omega
    have h0' : 0 ≤ x := by omega
    clear hx h0
    go_enter Tryz.func129, Tryz.ntmps129
    go_wp2
    go_ret
    exact ⟨ret_bool (by simp; omega), rfl⟩
set_option maxRecDepth 100000 in
set_option maxHeartbeats 1600000 in
theorem pload_any (w : World) (B : Nat) (Q : Cd) (sb mb : Nat) (v : Rp → Value) (s : Sx) (t : Int) (x : Nat) (hs : QSt w B Q sb mb v s) (_hm : s.words.length ≤ 64) (hx : x < s.words.length) :
    Calls Tryz.prog 130 #[.pointer (some ⟨mb, 0, none⟩), .int .i64 t, .int .i64 x] w fun e w' => e = .returned (.int .i64 (s.words.getD x 0)) ∧ w' = w := by
  obtain ⟨wb, wc, hv, hwb, _⟩ := hs.blk .words (by show 0 < s.words.length; omega)
  have k0 := hs.m0
  rw [hv] at k0
  change w.cell? ⟨mb, 0, none⟩ = some (.slice (some ⟨wb, 0, none⟩) s.words.length wc) at k0
  have kw := hs.word hwb hx
  obtain ⟨n, hn⟩ : ∃ n, s.words.length = n := ⟨_, rfl⟩
  rw [hn] at k0 _hm hx
  obtain ⟨y, hy⟩ : ∃ n, s.words.getD x 0 = n := ⟨_, rfl⟩
  rw [hy] at kw ⊢
  clear hs hv hn hwb hy
  go_enter Tryz.func130, Tryz.ntmps130
  go_wp2
  go_ret
  exact ⟨rfl, rfl⟩
set_option maxRecDepth 100000 in
set_option maxHeartbeats 1600000 in
theorem pstore_any (w : World) (B : Nat) (Q : Cd) (sb mb : Nat) (v : Rp → Value) (s : Sx) (t y : Int) (x : Nat) (hs : QSt w B Q sb mb v s) (_hm : s.words.length ≤ 64) (hx : x < s.words.length) :
    Calls Tryz.prog 132 #[.pointer (some ⟨mb, 0, none⟩), .int .i64 t, .int .i64 x, .int .i64 y] w fun e w' => e = .returned (.tuple #[]) ∧ QSt w' B Q sb mb v { s with words := s.words.set x y } ∧ Moved w w' v v := by
  obtain ⟨wb, wc, hv, hwb, _⟩ := hs.blk .words (by show 0 < s.words.length; omega)
  have k0 := hs.m0
  rw [hv] at k0
  change w.cell? ⟨mb, 0, none⟩ = some (.slice (some ⟨wb, 0, none⟩) s.words.length wc) at k0
  have kw := hs.word hwb hx
  have kf := hs.fam.frozen hwb x
  have HF : Hid (QSt (w.setCell ⟨wb, x, none⟩ (.int .i64 y)) B Q sb mb v { s with words := s.words.set x y } ∧ Moved w (w.setCell ⟨wb, x, none⟩ (.int .i64 y)) v v) := ⟨hs.setWord hwb x y, (Moved.refl _ _).put hwb x _⟩
  obtain ⟨n, hn⟩ : ∃ n, s.words.length = n := ⟨_, rfl⟩
  rw [hn] at k0 _hm hx
  obtain ⟨z, hz⟩ : ∃ n, s.words.getD x 0 = n := ⟨_, rfl⟩
  rw [hz] at kw
  clear hs hv hn hwb hz
  go_enter Tryz.func132, Tryz.ntmps132
  go_wp2
  go_end0
  exact ⟨rfl, HF.out⟩
set_option maxRecDepth 100000 in
set_option maxHeartbeats 1600000 in
theorem pswap_yes (w : World) (B : Nat) (Q : Cd) (sb mb : Nat) (v : Rp → Value) (s : Sx) (t f y : Int) (x : Nat) (hs : QSt w B Q sb mb v s) (_hm : s.words.length ≤ 64) (hx : x < s.words.length) (hf : s.words.getD x 0 = f) :
    Calls Tryz.prog 133 #[.pointer (some ⟨mb, 0, none⟩), .int .i64 t, .int .i64 x, .int .i64 f, .int .i64 y] w fun e w' => e = .returned (.bool true) ∧ QSt w' B Q sb mb v { s with words := s.words.set x y } ∧ Moved w w' v v := by
  obtain ⟨wb, wc, hv, hwb, _⟩ := hs.blk .words (by show 0 < s.words.length; omega)
  have k0 := hs.m0
  rw [hv] at k0
  change w.cell? ⟨mb, 0, none⟩ = some (.slice (some ⟨wb, 0, none⟩) s.words.length wc) at k0
  have kw := hs.word hwb hx
  have kf := hs.fam.frozen hwb x
  have HF : Hid (QSt (w.setCell ⟨wb, x, none⟩ (.int .i64 y)) B Q sb mb v { s with words := s.words.set x y } ∧ Moved w (w.setCell ⟨wb, x, none⟩ (.int .i64 y)) v v) := ⟨hs.setWord hwb x y, (Moved.refl _ _).put hwb x _⟩
  obtain ⟨n, hn⟩ : ∃ n, s.words.length = n := ⟨_, rfl⟩
  rw [hn] at k0 _hm hx
  rw [hf] at kw
  clear hs hv hn hwb hf
  go_enter Tryz.func133, Tryz.ntmps133
  go_wp2
  go_ret
  exact ⟨rfl, HF.out⟩
set_option maxRecDepth 100000 in
set_option maxHeartbeats 1600000 in
theorem pswap_no (w : World) (B : Nat) (Q : Cd) (sb mb : Nat) (v : Rp → Value) (s : Sx) (t f y : Int) (x : Nat) (hs : QSt w B Q sb mb v s) (_hm : s.words.length ≤ 64) (hx : x < s.words.length) (hf : ¬ s.words.getD x 0 = f) :
    Calls Tryz.prog 133 #[.pointer (some ⟨mb, 0, none⟩), .int .i64 t, .int .i64 x, .int .i64 f, .int .i64 y] w fun e w' => e = .returned (.bool false) ∧ w' = w := by
  obtain ⟨wb, wc, hv, hwb, _⟩ := hs.blk .words (by show 0 < s.words.length; omega)
  have k0 := hs.m0
  rw [hv] at k0
  change w.cell? ⟨mb, 0, none⟩ = some (.slice (some ⟨wb, 0, none⟩) s.words.length wc) at k0
  have kw := hs.word hwb hx
  obtain ⟨n, hn⟩ : ∃ n, s.words.length = n := ⟨_, rfl⟩
  rw [hn] at k0 _hm hx
  obtain ⟨z, hz⟩ : ∃ n, s.words.getD x 0 = n := ⟨_, rfl⟩
  rw [hz] at kw hf
  clear hs hv hn hwb hz
  go_enter Tryz.func133, Tryz.ntmps133
  go_wp2
  go_ret
  exact ⟨rfl, rfl⟩
set_option maxRecDepth 100000 in
set_option maxHeartbeats 1600000 in
theorem plock_any (w : World) (B : Nat) (Q : Cd) (sb mb : Nat) (v : Rp → Value) (s : Sx) (t : Int) (x : Nat) (hs : QSt w B Q sb mb v s) (_hm : s.own.length ≤ 4) (hx : x < s.own.length) :
    Calls Tryz.prog 131 #[.pointer (some ⟨mb, 0, none⟩), .int .i64 t, .int .i64 x] w fun e w' => e = .returned (.tuple #[]) ∧ QSt w' B Q sb mb v { s with own := s.own.set x t } ∧ Moved w w' v v := by
  obtain ⟨wb, wc, hv, hwb, _⟩ := hs.blk .own (by show 0 < s.own.length; omega)
  have k0 := hs.m1
  rw [hv] at k0
  change w.cell? ⟨mb, 1, none⟩ = some (.slice (some ⟨wb, 0, none⟩) s.own.length wc) at k0
  have kw := hs.owner hwb hx
  have kf := hs.fam.frozen hwb x
  have HF : Hid (QSt (w.setCell ⟨wb, x, none⟩ (.int .i64 t)) B Q sb mb v { s with own := s.own.set x t } ∧ Moved w (w.setCell ⟨wb, x, none⟩ (.int .i64 t)) v v) := ⟨hs.setOwn hwb x t, (Moved.refl _ _).put hwb x _⟩
  obtain ⟨n, hn⟩ : ∃ n, s.own.length = n := ⟨_, rfl⟩
  rw [hn] at k0 _hm hx
  obtain ⟨z, hz⟩ : ∃ n, s.own.getD x 0 = n := ⟨_, rfl⟩
  rw [hz] at kw
  clear hs hv hn hwb hz
  go_enter Tryz.func131, Tryz.ntmps131
  go_wp2
  go_end0
  exact ⟨rfl, HF.out⟩
set_option maxRecDepth 100000 in
set_option maxHeartbeats 1600000 in
theorem holds_any (w : World) (B : Nat) (Q : Cd) (sb mb : Nat) (v : Rp → Value) (s : Sx) (t : Int) (x : Nat) (hs : QSt w B Q sb mb v s) (_hm : s.own.length ≤ 4) (hx : x < s.own.length) :
    Calls Tryz.prog 139 #[.pointer (some ⟨mb, 0, none⟩), .int .i64 t, .int .i64 x] w fun e w' => e = .returned (.bool (decide (s.own.getD x 0 = t))) ∧ w = w' := by
  obtain ⟨wb, wc, hv, hwb, _⟩ := hs.blk .own (by show 0 < s.own.length; omega)
  have k0 := hs.m1
  rw [hv] at k0
  change w.cell? ⟨mb, 1, none⟩ = some (.slice (some ⟨wb, 0, none⟩) s.own.length wc) at k0
  have kw := hs.owner hwb hx
  obtain ⟨n, hn⟩ : ∃ n, s.own.length = n := ⟨_, rfl⟩
  rw [hn] at k0 _hm hx
  obtain ⟨z, hz⟩ : ∃ n, s.own.getD x 0 = n := ⟨_, rfl⟩
  rw [hz] at kw ⊢
  clear hs hv hn hwb hz
  go_enter Tryz.func139, Tryz.ntmps139
  go_wp2
  go_ret
  exact ⟨ret_bool (by rw [Bool.eq_iff_iff]; simp), rfl⟩
set_option maxRecDepth 100000 in
set_option maxHeartbeats 1600000 in
theorem punlock_yes (w : World) (B : Nat) (Q : Cd) (sb mb : Nat) (v : Rp → Value) (s : Sx) (t : Int) (x : Nat) (hs : QSt w B Q sb mb v s) (_hm : s.own.length ≤ 4) (hx : x < s.own.length) (ht : s.own.getD x 0 = t) :
    Calls Tryz.prog 135 #[.pointer (some ⟨mb, 0, none⟩), .int .i64 t, .int .i64 x] w fun e w' => e = .returned (.bool true) ∧ QSt w' B Q sb mb v { s with own := s.own.set x (-1) } ∧ Moved w w' v v := by
  have HH := holds_any w B Q sb mb v s t x hs _hm hx
  rw [decide_eq_true ht] at HH
  obtain ⟨wb, wc, hv, hwb, _⟩ := hs.blk .own (by show 0 < s.own.length; omega)
  have k0 := hs.m1
  rw [hv] at k0
  change w.cell? ⟨mb, 1, none⟩ = some (.slice (some ⟨wb, 0, none⟩) s.own.length wc) at k0
  have kw := hs.owner hwb hx
  have kf := hs.fam.frozen hwb x
  have HF : Hid (QSt (w.setCell ⟨wb, x, none⟩ (.int .i64 (-1))) B Q sb mb v { s with own := s.own.set x (-1) } ∧ Moved w (w.setCell ⟨wb, x, none⟩ (.int .i64 (-1))) v v) := ⟨hs.setOwn hwb x (-1), (Moved.refl _ _).put hwb x _⟩
  obtain ⟨n, hn⟩ : ∃ n, s.own.length = n := ⟨_, rfl⟩
  rw [hn] at k0 _hm hx
  obtain ⟨z, hz⟩ : ∃ n, s.own.getD x 0 = n := ⟨_, rfl⟩
  rw [hz] at kw
  have HHH := Hid.out (p := Hid _) HH
  clear hs hv hn hwb hz HH ht
  go_enter Tryz.func135, Tryz.ntmps135
  go_wp2_with fail
  refine Calls.mono HHH.out ?_
  rintro e w1 ⟨rfl, rfl⟩
  go_wp2
  go_ret
  exact ⟨rfl, HF.out⟩
set_option maxRecDepth 100000 in
set_option maxHeartbeats 1600000 in
theorem punlock_no (w : World) (B : Nat) (Q : Cd) (sb mb : Nat) (v : Rp → Value) (s : Sx) (t : Int) (x : Nat) (hs : QSt w B Q sb mb v s) (_hm : s.own.length ≤ 4) (hx : x < s.own.length) (ht : ¬ s.own.getD x 0 = t) :
    Calls Tryz.prog 135 #[.pointer (some ⟨mb, 0, none⟩), .int .i64 t, .int .i64 x] w fun e w' => e = .returned (.bool false) ∧ w' = w := by
  have HH := holds_any w B Q sb mb v s t x hs _hm hx
  rw [decide_eq_false ht] at HH
  have HHH := Hid.out (p := Hid _) HH
  clear hs HH ht
  go_enter Tryz.func135, Tryz.ntmps135
  go_wp2_with fail
  refine Calls.mono HHH.out ?_
  rintro e w1 ⟨rfl, rfl⟩
  go_wp2
  go_ret
  exact ⟨rfl, rfl⟩
theorem waiting_any (mb : Nat) (t f : Value) (w : World) : Calls Tryz.prog 136 #[.pointer (some ⟨mb, 0, none⟩), t, f] w fun e w' => e = .returned (.tuple #[]) ∧ w = w' := by
  go_enter Tryz.func136, Tryz.ntmps136
  go_wp2
  go_end0
  exact ⟨rfl, rfl⟩
set_option maxRecDepth 100000 in
set_option maxHeartbeats 1600000 in
theorem pable_any (w : World) (B : Nat) (Q : Cd) (sb mb : Nat) (v : Rp → Value) (s : Sx) (t op a b c : Int) (hs : QSt w B Q sb mb v s) (_hm : s.own.length ≤ 4) (ha : op = 17 → 0 ≤ a ∧ a < (s.own.length : Int)) :
    Calls Tryz.prog 126 #[.pointer (some ⟨mb, 0, none⟩), .int .i64 t, ints4 op a b c] w fun e w' => e = .returned (.bool (ableO s.own 0 op a)) ∧ Below w.heap.size w w' := by
  have fin : ∀ o, Below w.heap.size w (w.alloc o) := fun o => (Below.refl _ _).alloc (Nat.le_refl _) _
  by_cases h : op = 17
  · subst h
    obtain ⟨j, rfl, hj⟩ := toN (ha rfl)
    obtain ⟨wb, wc, hv, hwb, _⟩ := hs.blk .own (by show 0 < s.own.length; omega)
    have k0 := hs.m1
    rw [hv] at k0
    change w.cell? ⟨mb, 1, none⟩ = some (.slice (some ⟨wb, 0, none⟩) s.own.length wc) at k0
    have kw := hs.owner hwb hj
    have k0u := cell_up k0
    have kwu := cell_up kw
    have hr : ableO s.own 0 17 (j : Int) = decide (s.own.getD j 0 = -1) := by simp [ableO]
    rw [hr]
    obtain ⟨n, hn⟩ : ∃ n, s.own.length = n := ⟨_, rfl⟩
    rw [hn] at k0u _hm hj
    obtain ⟨z, hz⟩ : ∃ n, s.own.getD j 0 = n := ⟨_, rfl⟩
    rw [hz] at kwu ⊢
    clear hs hv hn hwb hz ha k0 kw hr
    go_enter Tryz.func126, Tryz.ntmps126
    go_wp2
    go_quiet (fail)
    go_wp2
    go_ret
    exact ⟨ret_bool (by rw [Bool.eq_iff_iff]; simp), below_drewN (fin _)⟩
  · have hr : ableO s.own 0 op a = true := by
      unfold ableO
      split
      · simp
      · split
        · simp
        · rfl
    rw [hr]
    have h' : (op != 17) = true := by simpa using h
    clear hs ha hr
    go_enter Tryz.func126, Tryz.ntmps126
    go_wp2
    go_quiet (fail)
    go_wp2
    go_ret
    exact ⟨rfl, below_drewN (fin _)⟩
end

section
open Go.RowKit

set_option maxRecDepth 100000 in
set_option maxHeartbeats 3200000 in
theorem reckon_1 (w : World) (B : Nat) (Q : Cd) (sb mb : Nat) (v : Rp → Value) (s : Sx) (rg t tb : Nat) (ia : Nat) (b : Int) (c : Int) (hs : QSt w B Q sb mb v s) (htb : (v .thr).ownBlock = some tb) (ht : t < s.ths.length) (_hn : s.ths.length ≤ 4) (hrl : (thOf s t).regs.length = rg) (_hrg : rg ≤ 200) (ha : ia < rg) :
    Calls Tryz.prog 97 #[.pointer (some ⟨tb, t * 3, none⟩), ints4 1 (ia : Int) b c] w fun e w' => e = .returned (.tuple #[]) ∧ QSt w' B Q sb mb v (orderX Q.K.mode s t 1 (ia : Int) b c) ∧ Moved w w' v v := by
  have hst : orderX Q.K.mode s t 1 (ia : Int) b c = setR s t (ia : Int) (b) := by
    rfl
  rw [hst]
  obtain ⟨rb, rc, hrv, hrb, hlt⟩ := hs.blk (.regs t) (by show 0 < (thOf s t).regs.length; omega)
  have hrn : pN Q s (.regs t) = rg := hrl
  rw [hrn] at hrv
  have cr := hs.regs htb ht
  rw [hrv] at cr
  have wa := hs.reg hrb (r := ia) (by omega)
  have fa := hs.fam.frozen hrb ia
  have cru := cell_up cr
  have wau := cell_up wa
  have fau := frozen_up (a := ⟨rb, ia, none⟩) hlt fa
  have HF := Hid.out (p := Hid _) (⟨hs.setReg hrb ht ia (b), (Moved.refl w v).put hrb ia _⟩ : QSt (w.setCell ⟨rb, ia, none⟩ (.int .i64 (b))) B Q sb mb v (setR s t (ia : Int) (b)) ∧ Moved w (w.setCell ⟨rb, ia, none⟩ (.int .i64 (b))) v v)
  obtain ⟨VA, eA⟩ : ∃ x, getR s t (ia : Int) = x := ⟨_, rfl⟩
  have wa' := wau
  simp only [eA] at wa'
  clear wau wa hs hrv hrb hst hrn eA
  go_enter Tryz.func97, Tryz.ntmps97
  go_wp2
  go_end0
  exact ⟨rfl, QSt.same (HF.out.1.alloc _) rfl, Moved.same (HF.out.2.alloc _) rfl rfl rfl rfl⟩

set_option maxRecDepth 100000 in
set_option maxHeartbeats 3200000 in
theorem reckon_2 (w : World) (B : Nat) (Q : Cd) (sb mb : Nat) (v : Rp → Value) (s : Sx) (rg t tb : Nat) (ia : Nat) (ib : Nat) (c : Int) (hs : QSt w B Q sb mb v s) (htb : (v .thr).ownBlock = some tb) (ht : t < s.ths.length) (_hn : s.ths.length ≤ 4) (hrl : (thOf s t).regs.length = rg) (_hrg : rg ≤ 200) (ha : ia < rg) (hb : ib < rg) :
    Calls Tryz.prog 97 #[.pointer (some ⟨tb, t * 3, none⟩), ints4 2 (ia : Int) (ib : Int) c] w fun e w' => e = .returned (.tuple #[]) ∧ QSt w' B Q sb mb v (orderX Q.K.mode s t 2 (ia : Int) (ib : Int) c) ∧ Moved w w' v v := by
  have hst : orderX Q.K.mode s t 2 (ia : Int) (ib : Int) c = setR s t (ia : Int) ((getR s t (ib : Int))) := by
    rfl
  rw [hst]
  obtain ⟨rb, rc, hrv, hrb, hlt⟩ := hs.blk (.regs t) (by show 0 < (thOf s t).regs.length; omega)
  have hrn : pN Q s (.regs t) = rg := hrl
  rw [hrn] at hrv
  have cr := hs.regs htb ht
  rw [hrv] at cr
  have wa := hs.reg hrb (r := ia) (by omega)
  have fa := hs.fam.frozen hrb ia
  have cru := cell_up cr
  have wau := cell_up wa
  have fau := frozen_up (a := ⟨rb, ia, none⟩) hlt fa
  have wb := hs.reg hrb (r := ib) (by omega)
  have wbu := cell_up wb
  have HF := Hid.out (p := Hid _) (⟨hs.setReg hrb ht ia ((getR s t (ib : Int))), (Moved.refl w v).put hrb ia _⟩ : QSt (w.setCell ⟨rb, ia, none⟩ (.int .i64 ((getR s t (ib : Int))))) B Q sb mb v (setR s t (ia : Int) ((getR s t (ib : Int)))) ∧ Moved w (w.setCell ⟨rb, ia, none⟩ (.int .i64 ((getR s t (ib : Int))))) v v)
  obtain ⟨Vb, eb⟩ : ∃ x, getR s t (ib : Int) = x := ⟨_, rfl⟩
  rw [eb] at HF ⊢
  rw [eb] at wb wbu
  obtain ⟨VA, eA⟩ : ∃ x, getR s t (ia : Int) = x := ⟨_, rfl⟩
  have wa' := wau
  simp only [eA] at wa'
  clear wau wa hs hrv hrb hst hrn eA eb
  go_enter Tryz.func97, Tryz.ntmps97
  go_wp2
  refine region_tail 9 (by kernel_rfl) (by kernel_rfl) ?_
  simp only [List.take_succ_cons, List.take_zero, List.drop_succ_cons, List.drop_zero]
  repeat still_step
  refine wpStill_nil ?_
  go_wp2
  go_end0
  exact ⟨rfl, QSt.same (HF.out.1.alloc _) rfl, Moved.same (HF.out.2.alloc _) rfl rfl rfl rfl⟩

set_option maxRecDepth 100000 in
set_option maxHeartbeats 3200000 in
theorem reckon_3 (w : World) (B : Nat) (Q : Cd) (sb mb : Nat) (v : Rp → Value) (s : Sx) (rg t tb : Nat) (ia : Nat) (ib : Nat) (ic : Nat) (hs : QSt w B Q sb mb v s) (htb : (v .thr).ownBlock = some tb) (ht : t < s.ths.length) (_hn : s.ths.length ≤ 4) (hrl : (thOf s t).regs.length = rg) (_hrg : rg ≤ 200) (ha : ia < rg) (hb : ib < rg) (hc : ic < rg) :
    Calls Tryz.prog 97 #[.pointer (some ⟨tb, t * 3, none⟩), ints4 3 (ia : Int) (ib : Int) (ic : Int)] w fun e w' => e = .returned (.tuple #[]) ∧ QSt w' B Q sb mb v (orderX Q.K.mode s t 3 (ia : Int) (ib : Int) (ic : Int)) ∧ Moved w w' v v := by
  have hst : orderX Q.K.mode s t 3 (ia : Int) (ib : Int) (ic : Int) = setR s t (ia : Int) (wrap64 ((getR s t (ib : Int)) + (getR s t (ic : Int)))) := by
    show setR s t (ia : Int) _ = _
    rw [IntWalk.i64_left]
  rw [hst]
  obtain ⟨rb, rc, hrv, hrb, hlt⟩ := hs.blk (.regs t) (by show 0 < (thOf s t).regs.length; omega)
  have hrn : pN Q s (.regs t) = rg := hrl
  rw [hrn] at hrv
  have cr := hs.regs htb ht
  rw [hrv] at cr
  have wa := hs.reg hrb (r := ia) (by omega)
  have fa := hs.fam.frozen hrb ia
  have cru := cell_up cr
  have wau := cell_up wa
  have fau := frozen_up (a := ⟨rb, ia, none⟩) hlt fa
  have wb := hs.reg hrb (r := ib) (by omega)
  have wbu := cell_up wb
  have wc := hs.reg hrb (r := ic) (by omega)
  have wcu := cell_up wc
  have HF := Hid.out (p := Hid _) (⟨hs.setReg hrb ht ia (wrap64 ((getR s t (ib : Int)) + (getR s t (ic : Int)))), (Moved.refl w v).put hrb ia _⟩ : QSt (w.setCell ⟨rb, ia, none⟩ (.int .i64 (wrap64 ((getR s t (ib : Int)) + (getR s t (ic : Int)))))) B Q sb mb v (setR s t (ia : Int) (wrap64 ((getR s t (ib : Int)) + (getR s t (ic : Int))))) ∧ Moved w (w.setCell ⟨rb, ia, none⟩ (.int .i64 (wrap64 ((getR s t (ib : Int)) + (getR s t (ic : Int)))))) v v)
  obtain ⟨Vb, eb⟩ : ∃ x, getR s t (ib : Int) = x := ⟨_, rfl⟩
  obtain ⟨Vc, ec⟩ : ∃ x, getR s t (ic : Int) = x := ⟨_, rfl⟩
  rw [eb, ec] at HF ⊢
  rw [eb] at wb wbu
  rw [ec] at wc wcu
  obtain ⟨VA, eA⟩ : ∃ x, getR s t (ia : Int) = x := ⟨_, rfl⟩
  have wa' := wau
  simp only [eA] at wa'
  clear wau wa hs hrv hrb hst hrn eA eb ec
  go_enter Tryz.func97, Tryz.ntmps97
  go_wp2
  refine region_tail 15 (by kernel_rfl) (by kernel_rfl) ?_
  simp only [List.take_succ_cons, List.take_zero, List.drop_succ_cons, List.drop_zero]
  repeat still_step
  refine wpStill_nil ?_
  go_wp2
  go_end0
  exact ⟨rfl, QSt.same (HF.out.1.alloc _) rfl, Moved.same (HF.out.2.alloc _) rfl rfl rfl rfl⟩

set_option maxRecDepth 100000 in
set_option maxHeartbeats 3200000 in
theorem reckon_4 (w : World) (B : Nat) (Q : Cd) (sb mb : Nat) (v : Rp → Value) (s : Sx) (rg t tb : Nat) (ia : Nat) (ib : Nat) (ic : Nat) (hs : QSt w B Q sb mb v s) (htb : (v .thr).ownBlock = some tb) (ht : t < s.ths.length) (_hn : s.ths.length ≤ 4) (hrl : (thOf s t).regs.length = rg) (_hrg : rg ≤ 200) (ha : ia < rg) (hb : ib < rg) (hc : ic < rg) :
    Calls Tryz.prog 97 #[.pointer (some ⟨tb, t * 3, none⟩), ints4 4 (ia : Int) (ib : Int) (ic : Int)] w fun e w' => e = .returned (.tuple #[]) ∧ QSt w' B Q sb mb v (orderX Q.K.mode s t 4 (ia : Int) (ib : Int) (ic : Int)) ∧ Moved w w' v v := by
  have hst : orderX Q.K.mode s t 4 (ia : Int) (ib : Int) (ic : Int) = setR s t (ia : Int) (wrap64 ((getR s t (ib : Int)) - (getR s t (ic : Int)))) := by
    show setR s t (ia : Int) _ = _
    rw [IntWalk.i64_left]
  rw [hst]
  obtain ⟨rb, rc, hrv, hrb, hlt⟩ := hs.blk (.regs t) (by show 0 < (thOf s t).regs.length; omega)
  have hrn : pN Q s (.regs t) = rg := hrl
  rw [hrn] at hrv
  have cr := hs.regs htb ht
  rw [hrv] at cr
  have wa := hs.reg hrb (r := ia) (by omega)
  have fa := hs.fam.frozen hrb ia
  have cru := cell_up cr
  have wau := cell_up wa
  have fau := frozen_up (a := ⟨rb, ia, none⟩) hlt fa
  have wb := hs.reg hrb (r := ib) (by omega)
  have wbu := cell_up wb
  have wc := hs.reg hrb (r := ic) (by omega)
  have wcu := cell_up wc
  have HF := Hid.out (p := Hid _) (⟨hs.setReg hrb ht ia (wrap64 ((getR s t (ib : Int)) - (getR s t (ic : Int)))), (Moved.refl w v).put hrb ia _⟩ : QSt (w.setCell ⟨rb, ia, none⟩ (.int .i64 (wrap64 ((getR s t (ib : Int)) - (getR s t (ic : Int)))))) B Q sb mb v (setR s t (ia : Int) (wrap64 ((getR s t (ib : Int)) - (getR s t (ic : Int))))) ∧ Moved w (w.setCell ⟨rb, ia, none⟩ (.int .i64 (wrap64 ((getR s t (ib : Int)) - (getR s t (ic : Int)))))) v v)
  obtain ⟨Vb, eb⟩ : ∃ x, getR s t (ib : Int) = x := ⟨_, rfl⟩
  obtain ⟨Vc, ec⟩ : ∃ x, getR s t (ic : Int) = x := ⟨_, rfl⟩
  rw [eb, ec] at HF ⊢
  rw [eb] at wb wbu
  rw [ec] at wc wcu
  obtain ⟨VA, eA⟩ : ∃ x, getR s t (ia : Int) = x := ⟨_, rfl⟩
  have wa' := wau
  simp only [eA] at wa'
  clear wau wa hs hrv hrb hst hrn eA eb ec
  go_enter Tryz.func97, Tryz.ntmps97
  go_wp2
  refine region_tail 15 (by kernel_rfl) (by kernel_rfl) ?_
  simp only [List.take_succ_cons, List.take_zero, List.drop_succ_cons, List.drop_zero]
  repeat still_step
  refine wpStill_nil ?_
  go_wp2
  go_end0
  exact ⟨rfl, QSt.same (HF.out.1.alloc _) rfl, Moved.same (HF.out.2.alloc _) rfl rfl rfl rfl⟩

set_option maxRecDepth 100000 in
set_option maxHeartbeats 3200000 in
theorem reckon_5 (w : World) (B : Nat) (Q : Cd) (sb mb : Nat) (v : Rp → Value) (s : Sx) (rg t tb : Nat) (ia : Nat) (ib : Nat) (ic : Nat) (hs : QSt w B Q sb mb v s) (htb : (v .thr).ownBlock = some tb) (ht : t < s.ths.length) (_hn : s.ths.length ≤ 4) (hrl : (thOf s t).regs.length = rg) (_hrg : rg ≤ 200) (ha : ia < rg) (hb : ib < rg) (hc : ic < rg) :
    Calls Tryz.prog 97 #[.pointer (some ⟨tb, t * 3, none⟩), ints4 5 (ia : Int) (ib : Int) (ic : Int)] w fun e w' => e = .returned (.tuple #[]) ∧ QSt w' B Q sb mb v (orderX Q.K.mode s t 5 (ia : Int) (ib : Int) (ic : Int)) ∧ Moved w w' v v := by
  have hst : orderX Q.K.mode s t 5 (ia : Int) (ib : Int) (ic : Int) = setR s t (ia : Int) (wrap64 ((getR s t (ib : Int)) * (getR s t (ic : Int)))) := by
    show setR s t (ia : Int) _ = _
    rw [IntWalk.i64_left]
  rw [hst]
  obtain ⟨rb, rc, hrv, hrb, hlt⟩ := hs.blk (.regs t) (by show 0 < (thOf s t).regs.length; omega)
  have hrn : pN Q s (.regs t) = rg := hrl
  rw [hrn] at hrv
  have cr := hs.regs htb ht
  rw [hrv] at cr
  have wa := hs.reg hrb (r := ia) (by omega)
  have fa := hs.fam.frozen hrb ia
  have cru := cell_up cr
  have wau := cell_up wa
  have fau := frozen_up (a := ⟨rb, ia, none⟩) hlt fa
  have wb := hs.reg hrb (r := ib) (by omega)
  have wbu := cell_up wb
  have wc := hs.reg hrb (r := ic) (by omega)
  have wcu := cell_up wc
  have HF := Hid.out (p := Hid _) (⟨hs.setReg hrb ht ia (wrap64 ((getR s t (ib : Int)) * (getR s t (ic : Int)))), (Moved.refl w v).put hrb ia _⟩ : QSt (w.setCell ⟨rb, ia, none⟩ (.int .i64 (wrap64 ((getR s t (ib : Int)) * (getR s t (ic : Int)))))) B Q sb mb v (setR s t (ia : Int) (wrap64 ((getR s t (ib : Int)) * (getR s t (ic : Int))))) ∧ Moved w (w.setCell ⟨rb, ia, none⟩ (.int .i64 (wrap64 ((getR s t (ib : Int)) * (getR s t (ic : Int)))))) v v)
  obtain ⟨Vb, eb⟩ : ∃ x, getR s t (ib : Int) = x := ⟨_, rfl⟩
  obtain ⟨Vc, ec⟩ : ∃ x, getR s t (ic : Int) = x := ⟨_, rfl⟩
  rw [eb, ec] at HF ⊢
  rw [eb] at wb wbu
  rw [ec] at wc wcu
  obtain ⟨VA, eA⟩ : ∃ x, getR s t (ia : Int) = x := ⟨_, rfl⟩
  have wa' := wau
  simp only [eA] at wa'
  clear wau wa hs hrv hrb hst hrn eA eb ec
  go_enter Tryz.func97, Tryz.ntmps97
  go_wp2
  refine region_tail 15 (by kernel_rfl) (by kernel_rfl) ?_
  simp only [List.take_succ_cons, List.take_zero, List.drop_succ_cons, List.drop_zero]
  repeat still_step
  refine wpStill_nil ?_
  go_wp2
  go_end0
  exact ⟨rfl, QSt.same (HF.out.1.alloc _) rfl, Moved.same (HF.out.2.alloc _) rfl rfl rfl rfl⟩

set_option maxRecDepth 100000 in
set_option maxHeartbeats 3200000 in
theorem reckon_6 (w : World) (B : Nat) (Q : Cd) (sb mb : Nat) (v : Rp → Value) (s : Sx) (rg t tb : Nat) (ia : Nat) (ib : Nat) (ic : Nat) (hs : QSt w B Q sb mb v s) (htb : (v .thr).ownBlock = some tb) (ht : t < s.ths.length) (_hn : s.ths.length ≤ 4) (hrl : (thOf s t).regs.length = rg) (_hrg : rg ≤ 200) (ha : ia < rg) (hb : ib < rg) (hc : ic < rg) :
    Calls Tryz.prog 97 #[.pointer (some ⟨tb, t * 3, none⟩), ints4 6 (ia : Int) (ib : Int) (ic : Int)] w fun e w' => e = .returned (.tuple #[]) ∧ QSt w' B Q sb mb v (orderX Q.K.mode s t 6 (ia : Int) (ib : Int) (ic : Int)) ∧ Moved w w' v v := by
  have hst : orderX Q.K.mode s t 6 (ia : Int) (ib : Int) (ic : Int) = setR s t (ia : Int) (bitI (decide ((getR s t (ib : Int)) < (getR s t (ic : Int))))) := by
    rfl
  rw [hst]
  obtain ⟨rb, rc, hrv, hrb, hlt⟩ := hs.blk (.regs t) (by show 0 < (thOf s t).regs.length; omega)
  have hrn : pN Q s (.regs t) = rg := hrl
  rw [hrn] at hrv
  have cr := hs.regs htb ht
  rw [hrv] at cr
  have wa := hs.reg hrb (r := ia) (by omega)
  have fa := hs.fam.frozen hrb ia
  have cru := cell_up cr
  have wau := cell_up wa
  have fau := frozen_up (a := ⟨rb, ia, none⟩) hlt fa
  have wb := hs.reg hrb (r := ib) (by omega)
  have wbu := cell_up wb
  have wc := hs.reg hrb (r := ic) (by omega)
  have wcu := cell_up wc
  have HF := Hid.out (p := Hid _) (⟨hs.setReg hrb ht ia (bitI (decide ((getR s t (ib : Int)) < (getR s t (ic : Int))))), (Moved.refl w v).put hrb ia _⟩ : QSt (w.setCell ⟨rb, ia, none⟩ (.int .i64 (bitI (decide ((getR s t (ib : Int)) < (getR s t (ic : Int))))))) B Q sb mb v (setR s t (ia : Int) (bitI (decide ((getR s t (ib : Int)) < (getR s t (ic : Int)))))) ∧ Moved w (w.setCell ⟨rb, ia, none⟩ (.int .i64 (bitI (decide ((getR s t (ib : Int)) < (getR s t (ic : Int))))))) v v)
  obtain ⟨Vb, eb⟩ : ∃ x, getR s t (ib : Int) = x := ⟨_, rfl⟩
  obtain ⟨Vc, ec⟩ : ∃ x, getR s t (ic : Int) = x := ⟨_, rfl⟩
  rw [eb, ec] at HF ⊢
  rw [eb] at wb wbu
  rw [ec] at wc wcu
  obtain ⟨VA, eA⟩ : ∃ x, getR s t (ia : Int) = x := ⟨_, rfl⟩
  have wa' := wau
  simp only [eA] at wa'
  clear wau wa hs hrv hrb hst hrn eA eb ec
  go_enter Tryz.func97, Tryz.ntmps97
  go_wp2
  refine region_tail 16 (by kernel_rfl) (by kernel_rfl) ?_
  simp only [List.take_succ_cons, List.take_zero, List.drop_succ_cons, List.drop_zero]
  repeat still_step
  still_call (truth_any _ _)
  repeat still_step
  refine wpStill_nil ?_
  go_wp2
  go_end0
  exact ⟨rfl, QSt.same (HF.out.1.alloc _) rfl, Moved.same (HF.out.2.alloc _) rfl rfl rfl rfl⟩

set_option maxRecDepth 100000 in
set_option maxHeartbeats 3200000 in
theorem reckon_7 (w : World) (B : Nat) (Q : Cd) (sb mb : Nat) (v : Rp → Value) (s : Sx) (rg t tb : Nat) (ia : Nat) (ib : Nat) (ic : Nat) (hs : QSt w B Q sb mb v s) (htb : (v .thr).ownBlock = some tb) (ht : t < s.ths.length) (_hn : s.ths.length ≤ 4) (hrl : (thOf s t).regs.length = rg) (_hrg : rg ≤ 200) (ha : ia < rg) (hb : ib < rg) (hc : ic < rg) :
    Calls Tryz.prog 97 #[.pointer (some ⟨tb, t * 3, none⟩), ints4 7 (ia : Int) (ib : Int) (ic : Int)] w fun e w' => e = .returned (.tuple #[]) ∧ QSt w' B Q sb mb v (orderX Q.K.mode s t 7 (ia : Int) (ib : Int) (ic : Int)) ∧ Moved w w' v v := by
  have hst : orderX Q.K.mode s t 7 (ia : Int) (ib : Int) (ic : Int) = setR s t (ia : Int) (bitI (decide ((getR s t (ib : Int)) = (getR s t (ic : Int))))) := by
    rfl
  rw [hst]
  obtain ⟨rb, rc, hrv, hrb, hlt⟩ := hs.blk (.regs t) (by show 0 < (thOf s t).regs.length; omega)
  have hrn : pN Q s (.regs t) = rg := hrl
  rw [hrn] at hrv
  have cr := hs.regs htb ht
  rw [hrv] at cr
  have wa := hs.reg hrb (r := ia) (by omega)
  have fa := hs.fam.frozen hrb ia
  have cru := cell_up cr
  have wau := cell_up wa
  have fau := frozen_up (a := ⟨rb, ia, none⟩) hlt fa
  have wb := hs.reg hrb (r := ib) (by omega)
  have wbu := cell_up wb
  have wc := hs.reg hrb (r := ic) (by omega)
  have wcu := cell_up wc
  have HF := Hid.out (p := Hid _) (⟨hs.setReg hrb ht ia (bitI (decide ((getR s t (ib : Int)) = (getR s t (ic : Int))))), (Moved.refl w v).put hrb ia _⟩ : QSt (w.setCell ⟨rb, ia, none⟩ (.int .i64 (bitI (decide ((getR s t (ib : Int)) = (getR s t (ic : Int))))))) B Q sb mb v (setR s t (ia : Int) (bitI (decide ((getR s t (ib : Int)) = (getR s t (ic : Int)))))) ∧ Moved w (w.setCell ⟨rb, ia, none⟩ (.int .i64 (bitI (decide ((getR s t (ib : Int)) = (getR s t (ic : Int))))))) v v)
  obtain ⟨Vb, eb⟩ : ∃ x, getR s t (ib : Int) = x := ⟨_, rfl⟩
  obtain ⟨Vc, ec⟩ : ∃ x, getR s t (ic : Int) = x := ⟨_, rfl⟩
  rw [eb, ec] at HF ⊢
  rw [eb] at wb wbu
  rw [ec] at wc wcu
  obtain ⟨VA, eA⟩ : ∃ x, getR s t (ia : Int) = x := ⟨_, rfl⟩
  have wa' := wau
  simp only [eA] at wa'
  clear wau wa hs hrv hrb hst hrn eA eb ec
  go_enter Tryz.func97, Tryz.ntmps97
  go_wp2
  refine region_tail 16 (by kernel_rfl) (by kernel_rfl) ?_
  simp only [List.take_succ_cons, List.take_zero, List.drop_succ_cons, List.drop_zero]
  repeat still_step
  still_call (truth_any _ _)
  repeat still_step
  refine wpStill_nil ?_
  go_wp2
  go_end0
  exact ⟨rfl, QSt.same (HF.out.1.alloc _) rfl, Moved.same (HF.out.2.alloc _) rfl rfl rfl rfl⟩

set_option maxRecDepth 100000 in
set_option maxHeartbeats 3200000 in
theorem reckon_12 (w : World) (B : Nat) (Q : Cd) (sb mb : Nat) (v : Rp → Value) (s : Sx) (_rg t tb : Nat) (a b c : Int) (hs : QSt w B Q sb mb v s) (htb : (v .thr).ownBlock = some tb) (ht : t < s.ths.length) :
    Calls Tryz.prog 97 #[.pointer (some ⟨tb, t * 3, none⟩), ints4 12 a b c] w fun e w' => e = .returned (.tuple #[]) ∧ QSt w' B Q sb mb v (orderX Q.K.mode s t 12 a b c) ∧ Moved w w' v v := by
  have hst : orderX Q.K.mode s t 12 a b c = s := rfl
  rw [hst]
  have cru := cell_up (hs.regs htb ht)
  obtain ⟨ra, rc, hrv⟩ := hs.form (.regs t)
  rw [hrv] at cru
  have HF := Hid.out (p := Hid _) (⟨hs, Moved.refl w v⟩ : QSt w B Q sb mb v s ∧ Moved w w v v)
  obtain ⟨n, hn⟩ : ∃ n, pN Q s (.regs t) = n := ⟨_, rfl⟩
  rw [hn] at cru
  clear hs hrv hn hst
  go_enter Tryz.func97, Tryz.ntmps97
  go_wp2
  go_end0
  exact ⟨rfl, QSt.same (HF.out.1.alloc _) rfl, Moved.same (HF.out.2.alloc _) rfl rfl rfl rfl⟩
end

end Go.Proofs.YtelckcpjmekgcadGreatDoor
