/-
  What the methods of the plain memory do.
  The program's memory ahead of the first step: copies of lists, one number again and again.
-/
import Derived.Test.YtgofbkgfonlceabGreatDoorRDo1
import Derived.Test.YtgofbkgfonlceabGreatDoorRBegin
import Derived.Test.YtgofbkgfonlceabGreatDoorCheckA
namespace Go.Proofs.YtgofbkgfonlceabGreatDoor
section
open Go.RowKit

set_option maxRecDepth 100000 in
set_option maxHeartbeats 1600000 in
theorem has_yes (w : World) (B : Nat) (Q : Cd) (sb mb : Nat) (v : Rp → Value) (s : Sx) (x : Int) (hs : QSt w B Q sb mb v s) (_hm : s.words.length ≤ 64) (hx : 0 ≤ x ∧ x < (s.words.length : Int)) :
    Calls Tryz.prog 173 #[.pointer (some ⟨mb, 0, none⟩), .int .i64 x] w fun e w' => e = .returned (.bool true) ∧ w' = w := by
  obtain ⟨a, c, hv⟩ := hs.form .words
  have k0 := hs.m0
  rw [hv] at k0
  change w.cell? ⟨mb, 0, none⟩ = some (.slice a s.words.length c) at k0
  obtain ⟨n, hn⟩ : ∃ n, s.words.length = n := ⟨_, rfl⟩
  rw [hn] at k0 _hm hx
  obtain ⟨h0, h1⟩ := hx
  clear hs hv hn
  go_enter Tryz.func173, Tryz.ntmps173
  go_wp2
  go_ret
  exact ⟨rfl, rfl⟩
set_option maxRecDepth 100000 in
set_option maxHeartbeats 1600000 in
theorem has_no (w : World) (B : Nat) (Q : Cd) (sb mb : Nat) (v : Rp → Value) (s : Sx) (x : Int) (hs : QSt w B Q sb mb v s) (_hm : s.words.length ≤ 64) (hx : x < 0 ∨ (s.words.length : Int) ≤ x) :
    Calls Tryz.prog 173 #[.pointer (some ⟨mb, 0, none⟩), .int .i64 x] w fun e w' => e = .returned (.bool false) ∧ w' = w := by
  obtain ⟨a, c, hv⟩ := hs.form .words
  have k0 := hs.m0
  rw [hv] at k0
  change w.cell? ⟨mb, 0, none⟩ = some (.slice a s.words.length c) at k0
  obtain ⟨n, hn⟩ : ∃ n, s.words.length = n := ⟨_, rfl⟩
  rw [hn] at k0 _hm hx
  clear hs hv hn
  by_cases h0 : x < 0
  · clear hx
    have h0' : decide (0 ≤ x) = false := by simpa using h0
    go_enter Tryz.func173, Tryz.ntmps173
    go_wp2
    go_ret
    exact ⟨rfl, rfl⟩
  · have h1 : (n : Int) ≤ x := by omega
    have h0' : 0 ≤ x := by omega
    clear hx h0
    go_enter Tryz.func173, Tryz.ntmps173
    go_wp2
    go_ret
    exact ⟨ret_bool (by simp; omega), rfl⟩
set_option maxRecDepth 100000 in
set_option maxHeartbeats 1600000 in
theorem pload_any (w : World) (B : Nat) (Q : Cd) (sb mb : Nat) (v : Rp → Value) (s : Sx) (t : Int) (x : Nat) (hs : QSt w B Q sb mb v s) (_hm : s.words.length ≤ 64) (hx : x < s.words.length) :
    Calls Tryz.prog 174 #[.pointer (some ⟨mb, 0, none⟩), .int .i64 t, .int .i64 x] w fun e w' => e = .returned (.int .i64 (s.words.getD x 0)) ∧ w' = w := by
  obtain ⟨wb, wc, hv, hwb, _⟩ := hs.blk .words (by show 0 < s.words.length; omega)
  have k0 := hs.m0
  rw [hv] at k0
  change w.cell? ⟨mb, 0, none⟩ = some (.slice (some ⟨wb, 0, none⟩) s.words.length wc) at k0
  have kw := hs.word hwb hx
  obtain ⟨n, hn⟩ : ∃ n, s.words.length = n := ⟨_, rfl⟩
  rw [hn] at k0 _hm hx
  obtain ⟨y, hy⟩ : ∃ n, s.words.getD x 0 = n := ⟨_, rfl⟩
  rw [hy] at kw ⊢
  clear hs hv hn hwb hy
  go_enter Tryz.func174, Tryz.ntmps174
  go_wp2
  go_ret
  exact ⟨rfl, rfl⟩
set_option maxRecDepth 100000 in
set_option maxHeartbeats 1600000 in
theorem pstore_any (w : World) (B : Nat) (Q : Cd) (sb mb : Nat) (v : Rp → Value) (s : Sx) (t y : Int) (x : Nat) (hs : QSt w B Q sb mb v s) (_hm : s.words.length ≤ 64) (hx : x < s.words.length) :
    Calls Tryz.prog 176 #[.pointer (some ⟨mb, 0, none⟩), .int .i64 t, .int .i64 x, .int .i64 y] w fun e w' => e = .returned (.tuple #[]) ∧ QSt w' B Q sb mb v { s with words := s.words.set x y } ∧ Moved w w' v v := by
  obtain ⟨wb, wc, hv, hwb, _⟩ := hs.blk .words (by show 0 < s.words.length; omega)
  have k0 := hs.m0
  rw [hv] at k0
  change w.cell? ⟨mb, 0, none⟩ = some (.slice (some ⟨wb, 0, none⟩) s.words.length wc) at k0
  have kw := hs.word hwb hx
  have kf := hs.fam.frozen hwb x
  have HF : Hid (QSt (w.setCell ⟨wb, x, none⟩ (.int .i64 y)) B Q sb mb v { s with words := s.words.set x y } ∧ Moved w (w.setCell ⟨wb, x, none⟩ (.int .i64 y)) v v) := ⟨hs.setWord hwb x y, (Moved.refl _ _).put hwb x _⟩
  obtain ⟨n, hn⟩ : ∃ n, s.words.length = n := ⟨_, rfl⟩
  rw [hn] at k0 _hm hx
  obtain ⟨z, hz⟩ : ∃ n, s.words.getD x 0 = n := ⟨_, rfl⟩
  rw [hz] at kw
  clear hs hv hn hwb hz
  go_enter Tryz.func176, Tryz.ntmps176
  go_wp2
  go_end0
  exact ⟨rfl, HF.out⟩
set_option maxRecDepth 100000 in
set_option maxHeartbeats 1600000 in
theorem pswap_yes (w : World) (B : Nat) (Q : Cd) (sb mb : Nat) (v : Rp → Value) (s : Sx) (t f y : Int) (x : Nat) (hs : QSt w B Q sb mb v s) (_hm : s.words.length ≤ 64) (hx : x < s.words.length) (hf : s.words.getD x 0 = f) :
    Calls Tryz.prog 177 #[.pointer (some ⟨mb, 0, none⟩), .int .i64 t, .int .i64 x, .int .i64 f, .int .i64 y] w fun e w' => e = .returned (.bool true) ∧ QSt w' B Q sb mb v { s with words := s.words.set x y } ∧ Moved w w' v v := by
  obtain ⟨wb, wc, hv, hwb, _⟩ := hs.blk .words (by show 0 < s.words.length; omega)
  have k0 := hs.m0
  rw [hv] at k0
  change w.cell? ⟨mb, 0, none⟩ = some (.slice (some ⟨wb, 0, none⟩) s.words.length wc) at k0
  have kw := hs.word hwb hx
  have kf := hs.fam.frozen hwb x
  have HF : Hid (QSt (w.setCell ⟨wb, x, none⟩ (.int .i64 y)) B Q sb mb v { s with words := s.words.set x y } ∧ Moved w (w.setCell ⟨wb, x, none⟩ (.int .i64 y)) v v) := ⟨hs.setWord hwb x y, (Moved.refl _ _).put hwb x _⟩
  obtain ⟨n, hn⟩ : ∃ n, s.words.length = n := ⟨_, rfl⟩
  rw [hn] at k0 _hm hx
  rw [hf] at kw
  clear hs hv hn hwb hf
  go_enter Tryz.func177, Tryz.ntmps177
  go_wp2
  go_ret
  exact ⟨rfl, HF.out⟩
set_option maxRecDepth 100000 in
set_option maxHeartbeats 1600000 in
theorem pswap_no (w : World) (B : Nat) (Q : Cd) (sb mb : Nat) (v : Rp → Value) (s : Sx) (t f y : Int) (x : Nat) (hs : QSt w B Q sb mb v s) (_hm : s.words.length ≤ 64) (hx : x < s.words.length) (hf : ¬ s.words.getD x 0 = f) :
    Calls Tryz.prog 177 #[.pointer (some ⟨mb, 0, none⟩), .int .i64 t, .int .i64 x, .int .i64 f, .int .i64 y] w fun e w' => e = .returned (.bool false) ∧ w' = w := by
  obtain ⟨wb, wc, hv, hwb, _⟩ := hs.blk .words (by show 0 < s.words.length; omega)
  have k0 := hs.m0
  rw [hv] at k0
  change w.cell? ⟨mb, 0, none⟩ = some (.slice (some ⟨wb, 0, none⟩) s.words.length wc) at k0
  have kw := hs.word hwb hx
  obtain ⟨n, hn⟩ : ∃ n, s.words.length = n := ⟨_, rfl⟩
  rw [hn] at k0 _hm hx
  obtain ⟨z, hz⟩ : ∃ n, s.words.getD x 0 = n := ⟨_, rfl⟩
  rw [hz] at kw hf
  clear hs hv hn hwb hz
  go_enter Tryz.func177, Tryz.ntmps177
  go_wp2
  go_ret
  exact ⟨rfl, rfl⟩
set_option maxRecDepth 100000 in
set_option maxHeartbeats 1600000 in
theorem plock_any (w : World) (B : Nat) (Q : Cd) (sb mb : Nat) (v : Rp → Value) (s : Sx) (t : Int) (x : Nat) (hs : QSt w B Q sb mb v s) (_hm : s.own.length ≤ 4) (hx : x < s.own.length) :
    Calls Tryz.prog 175 #[.pointer (some ⟨mb, 0, none⟩), .int .i64 t, .int .i64 x] w fun e w' => e = .returned (.tuple #[]) ∧ QSt w' B Q sb mb v { s with own := s.own.set x t } ∧ Moved w w' v v := by
  obtain ⟨wb, wc, hv, hwb, _⟩ := hs.blk .own (by show 0 < s.own.length; omega)
  have k0 := hs.m1
  rw [hv] at k0
  change w.cell? ⟨mb, 1, none⟩ = some (.slice (some ⟨wb, 0, none⟩) s.own.length wc) at k0
  have kw := hs.owner hwb hx
  have kf := hs.fam.frozen hwb x
  have HF : Hid (QSt (w.setCell ⟨wb, x, none⟩ (.int .i64 t)) B Q sb mb v { s with own := s.own.set x t } ∧ Moved w (w.setCell ⟨wb, x, none⟩ (.int .i64 t)) v v) := ⟨hs.setOwn hwb x t, (Moved.refl _ _).put hwb x _⟩
  obtain ⟨n, hn⟩ : ∃ n, s.own.length = n := ⟨_, rfl⟩
  rw [hn] at k0 _hm hx
  obtain ⟨z, hz⟩ : ∃ n, s.own.getD x 0 = n := ⟨_, rfl⟩
  rw [hz] at kw
  clear hs hv hn hwb hz
  go_enter Tryz.func175, Tryz.ntmps175
  go_wp2
  go_end0
  exact ⟨rfl, HF.out⟩
set_option maxRecDepth 100000 in
set_option maxHeartbeats 1600000 in
theorem holds_any (w : World) (B : Nat) (Q : Cd) (sb mb : Nat) (v : Rp → Value) (s : Sx) (t : Int) (x : Nat) (hs : QSt w B Q sb mb v s) (_hm : s.own.length ≤ 4) (hx : x < s.own.length) :
    Calls Tryz.prog 183 #[.pointer (some ⟨mb, 0, none⟩), .int .i64 t, .int .i64 x] w fun e w' => e = .returned (.bool (decide (s.own.getD x 0 = t))) ∧ w = w' := by
  obtain ⟨wb, wc, hv, hwb, _⟩ := hs.blk .own (by show 0 < s.own.length; omega)
  have k0 := hs.m1
  rw [hv] at k0
  change w.cell? ⟨mb, 1, none⟩ = some (.slice (some ⟨wb, 0, none⟩) s.own.length wc) at k0
  have kw := hs.owner hwb hx
  obtain ⟨n, hn⟩ : ∃ n, s.own.length = n := ⟨_, rfl⟩
  rw [hn] at k0 _hm hx
  obtain ⟨z, hz⟩ : ∃ n, s.own.getD x 0 = n := ⟨_, rfl⟩
  rw [hz] at kw ⊢
  clear hs hv hn hwb hz
  go_enter Tryz.func183, Tryz.ntmps183
  go_wp2
  go_ret
  exact ⟨ret_bool (by rw [Bool.eq_iff_iff]; simp), rfl⟩
set_option maxRecDepth 100000 in
set_option maxHeartbeats 1600000 in
theorem punlock_yes (w : World) (B : Nat) (Q : Cd) (sb mb : Nat) (v : Rp → Value) (s : Sx) (t : Int) (x : Nat) (hs : QSt w B Q sb mb v s) (_hm : s.own.length ≤ 4) (hx : x < s.own.length) (ht : s.own.getD x 0 = t) :
    Calls Tryz.prog 179 #[.pointer (some ⟨mb, 0, none⟩), .int .i64 t, .int .i64 x] w fun e w' => e = .returned (.bool true) ∧ QSt w' B Q sb mb v { s with own := s.own.set x (-1) } ∧ Moved w w' v v := by
  have HH := holds_any w B Q sb mb v s t x hs _hm hx
  rw [decide_eq_true ht] at HH
  obtain ⟨wb, wc, hv, hwb, _⟩ := hs.blk .own (by show 0 < s.own.length; omega)
  have k0 := hs.m1
  rw [hv] at k0
  change w.cell? ⟨mb, 1, none⟩ = some (.slice (some ⟨wb, 0, none⟩) s.own.length wc) at k0
  have kw := hs.owner hwb hx
  have kf := hs.fam.frozen hwb x
  have HF : Hid (QSt (w.setCell ⟨wb, x, none⟩ (.int .i64 (-1))) B Q sb mb v { s with own := s.own.set x (-1) } ∧ Moved w (w.setCell ⟨wb, x, none⟩ (.int .i64 (-1))) v v) := ⟨hs.setOwn hwb x (-1), (Moved.refl _ _).put hwb x _⟩
  obtain ⟨n, hn⟩ : ∃ n, s.own.length = n := ⟨_, rfl⟩
  rw [hn] at k0 _hm hx
  obtain ⟨z, hz⟩ : ∃ n, s.own.getD x 0 = n := ⟨_, rfl⟩
  rw [hz] at kw
  have HHH := Hid.out (p := Hid _) HH
  clear hs hv hn hwb hz HH ht
  go_enter Tryz.func179, Tryz.ntmps179
  go_wp2_with fail
  refine Calls.mono HHH.out ?_
  rintro e w1 ⟨rfl, rfl⟩
  go_wp2
  go_ret
  exact ⟨rfl, HF.out⟩
set_option maxRecDepth 100000 in
set_option maxHeartbeats 1600000 in
theorem punlock_no (w : World) (B : Nat) (Q : Cd) (sb mb : Nat) (v : Rp → Value) (s : Sx) (t : Int) (x : Nat) (hs : QSt w B Q sb mb v s) (_hm : s.own.length ≤ 4) (hx : x < s.own.length) (ht : ¬ s.own.getD x 0 = t) :
    Calls Tryz.prog 179 #[.pointer (some ⟨mb, 0, none⟩), .int .i64 t, .int .i64 x] w fun e w' => e = .returned (.bool false) ∧ w' = w := by
  have HH := holds_any w B Q sb mb v s t x hs _hm hx
  rw [decide_eq_false ht] at HH
  have HHH := Hid.out (p := Hid _) HH
  clear hs HH ht
  go_enter Tryz.func179, Tryz.ntmps179
  go_wp2_with fail
  refine Calls.mono HHH.out ?_
  rintro e w1 ⟨rfl, rfl⟩
  go_wp2
  go_ret
  exact ⟨rfl, rfl⟩
theorem waiting_any (mb : Nat) (t f : Value) (w : World) : Calls Tryz.prog 180 #[.pointer (some ⟨mb, 0, none⟩), t, f] w fun e w' => e = .returned (.tuple #[]) ∧ w = w' := by
  go_enter Tryz.func180, Tryz.ntmps180
  go_wp2
  go_end0
  exact ⟨rfl, rfl⟩
set_option maxRecDepth 100000 in
set_option maxHeartbeats 1600000 in
theorem pable_any (w : World) (B : Nat) (Q : Cd) (sb mb : Nat) (v : Rp → Value) (s : Sx) (t op a b c : Int) (hs : QSt w B Q sb mb v s) (_hm : s.own.length ≤ 4) (ha : op = 17 → 0 ≤ a ∧ a < (s.own.length : Int)) :
    Calls Tryz.prog 170 #[.pointer (some ⟨mb, 0, none⟩), .int .i64 t, ints4 op a b c] w fun e w' => e = .returned (.bool (ableO s.own 0 op a)) ∧ Below w.heap.size w w' := by
  have fin : ∀ o, Below w.heap.size w (w.alloc o) := fun o => (Below.refl _ _).alloc (Nat.le_refl _) _
  by_cases h : op = 17
  · subst h
    obtain ⟨j, rfl, hj⟩ := toN (ha rfl)
    obtain ⟨wb, wc, hv, hwb, _⟩ := hs.blk .own (by show 0 < s.own.length; omega)
    have k0 := hs.m1
    rw [hv] at k0
    change w.cell? ⟨mb, 1, none⟩ = some (.slice (some ⟨wb, 0, none⟩) s.own.length wc) at k0
    have kw := hs.owner hwb hj
    have k0u := cell_up k0
    have kwu := cell_up kw
    have hr : ableO s.own 0 17 (j : Int) = decide (s.own.getD j 0 = -1) := by simp [ableO]
    rw [hr]
    obtain ⟨n, hn⟩ : ∃ n, s.own.length = n := ⟨_, rfl⟩
    rw [hn] at k0u _hm hj
    obtain ⟨z, hz⟩ : ∃ n, s.own.getD j 0 = n := ⟨_, rfl⟩
    rw [hz] at kwu ⊢
    clear hs hv hn hwb hz ha k0 kw hr
    go_enter Tryz.func170, Tryz.ntmps170
    go_wp2
    go_quiet (fail)
    go_wp2
    go_ret
    exact ⟨ret_bool (by rw [Bool.eq_iff_iff]; simp), below_drewN (fin _)⟩
  · have hr : ableO s.own 0 op a = true := by
      unfold ableO
      split
      · simp
      · split
        · simp
        · rfl
    rw [hr]
    have h' : (op != 17) = true := by simpa using h
    clear hs ha hr
    go_enter Tryz.func170, Tryz.ntmps170
    go_wp2
    go_quiet (fail)
    go_wp2
    go_ret
    exact ⟨rfl, below_drewN (fin _)⟩
end

section
open Go.RowKit

attribute [local go_sem ↓] appS_eq
set_option maxRecDepth 100000 in
set_option maxHeartbeats 1600000 in
theorem words_any (w : World) (B : Nat) (Q : Cd) (sb mb : Nat) (v : Rp → Value) (s : Sx) (hs : QSt w B Q sb mb v s) (hm : s.words.length ≤ 64) :
    Calls Tryz.prog 181 #[.pointer (some ⟨mb, 0, none⟩)] w fun e w' => ∃ a cap, e = .returned (.slice a s.words.length cap) ∧ w'.ownsRow w.heap.size 3 1 (.slice a s.words.length cap) s.words.length (intsV s.words) ∧ Below w.heap.size w w' := by
  obtain ⟨a, c, hv⟩ := hs.form .words
  change v .words = .slice a s.words.length c at hv
  have k0 := hs.m0
  rw [hv] at k0
  have hown := hs.fam.own .words
  have hsi : SIs w a s.words := fun i hi => by
    obtain ⟨g, cap, h1, h2, _, _⟩ := fam_block hown (by show 0 < s.words.length; omega)
    rw [hv] at h1
    simp only [Value.slice.injEq] at h1
    exact ⟨g, 0, h1.1, by simpa using hs.word h2 hi⟩
  have hnil : a = none → s.words = [] ∧ c = 0 := fun h0 => by
    subst h0
    rw [hv] at hown
    rcases hown.2 with ⟨h1, h2⟩ | ⟨g, cap, cur, h1, _⟩
    · simp only [Value.slice.injEq, true_and] at h1
      exact ⟨List.eq_nil_of_length_eq_zero h1.1, h1.2⟩
    · simp at h1
  have HC := Hid.out (p := Hid _) (clone_any w a s.words c hsi hnil (by omega))
  obtain ⟨m, hmm⟩ : ∃ m, s.words.length = m := ⟨_, rfl⟩
  rw [hmm] at k0 hm HC ⊢
  clear hs hv hown hsi hnil hmm
  go_enter Tryz.func181, Tryz.ntmps181
  go_wp2_with fail
  refine Calls.mono HC.out ?_
  rintro e w1 ⟨g, cap, rfl, h1, h2⟩
  go_wp2_with fail
  go_ret
  exact ⟨g, cap, rfl, h1, h2⟩

/-- A copy's run, kept whole. -/
def CpS (ts : Array TypeId) (ty : TypeId) (args : Array Value) : Sem Value := Builtin.copy_ ts ty args
theorem cpS_eq (ts : Array TypeId) (ty : TypeId) (args : Array Value) : Builtin.copy_ ts ty args = CpS ts ty args := rfl
theorem sizeI : (Tryz.prog.info? 3).map (·.size) = some 1 := by kernel_rfl
/-- The first j of k are there. -/
def repL (j k : Nat) : List Value := intsV (List.replicate j (-1) ++ List.replicate (k - j) 0)
theorem repL_len {j k : Nat} (h : j ≤ k) : (repL j k).length = k := by simp [repL, intsV_len]; omega
theorem heap_setRow {w : World} {g : Nat} {c d : Array Value} {t : TypeId} (h : w.heap[g]? = some (.cells c t (0, 0))) : (w.setRow g d).heap[g]? = some (.cells d t (0, 0)) := by
  unfold World.setRow
  simp only [Array.getElem?_modify, if_true, h, Option.map_some]
theorem heap_setRow_ne {w : World} {g k : Nat} {d : Array Value} (h : k ≠ g) : (w.setRow g d).heap[k]? = w.heap[k]? := by
  unfold World.setRow
  simp only [Array.getElem?_modify]
  rw [if_neg (fun e => h e.symm)]
theorem repL_copy {j k c : Nat} (_hj : j ≤ k) (_hc : c ≤ k - j) : ((repL j k).take j ++ intsV (List.replicate c (-1)) ++ (repL j k).drop (j + c)) = repL (j + c) k := by
  have e : repL j k = intsV (List.replicate j (-1)) ++ intsV (List.replicate (k - j) 0) := by simp [repL, intsV]
  rw [e, List.take_append_of_le_length (by simp [intsV_len]), List.take_of_length_le (by simp [intsV_len]), List.drop_append, List.drop_of_length_le (by simp [intsV_len])]
  simp only [intsV_len, List.length_replicate, List.nil_append]
  rw [show j + c - j = c by omega]
  simp only [repL, intsV, List.map_append, List.map_replicate, List.drop_replicate, List.replicate_append_replicate]
  rw [show k - j - c = k - (j + c) by omega]

theorem mul64_lit (k : Nat) (hk : k ≤ 4) (w : World) : Calls Tryz.prog 119 #[.int .u64 1, .int .u64 (k : Int)] w fun e w' => e = .returned (.tuple #[.int .u64 0, .int .u64 (k : Int)]) ∧ w = w' := by
  rcases (by omega : k = 0 ∨ k = 1 ∨ k = 2 ∨ k = 3 ∨ k = 4) with rfl | rfl | rfl | rfl | rfl
  all_goals
    go_enter Tryz.func119, Tryz.ntmps119
    go_wp2
    go_ret2
    exact ⟨rfl, rfl⟩

theorem mul_lit (k : Nat) (hk : k ≤ 4) (w : World) : Calls Tryz.prog 91 #[.int .u64 1, .int .u64 (k : Int)] w fun e w' => e = .returned (.tuple #[.int .u64 0, .int .u64 (k : Int)]) ∧ w = w' := by
  go_enter Tryz.func91, Tryz.ntmps91
  go_wp2_with fail
  refine (mul64_lit k hk w).mono ?_
  rintro e w1 ⟨rfl, rfl⟩
  go_wp2_with fail
  go_ret2
  exact ⟨rfl, rfl⟩

attribute [local go_sem ↓] cpS_eq
set_option maxRecDepth 100000 in
set_option maxHeartbeats 3200000 in
theorem repeat_any (w : World) (xb k : Nat) (hx : w.cell? ⟨xb, 0, none⟩ = some (.int .i64 (-1))) (hk : k ≤ 4) :
    Calls Tryz.prog 58 #[.slice (some ⟨xb, 0, none⟩) 1 1, .int .i64 (k : Int)] w fun e w' => e = .returned (.slice (some ⟨w.heap.size, 0, none⟩) k k) ∧ w'.heap[w.heap.size]? = some (.cells (intsV (List.replicate k (-1))).toArray 3 (0, 0)) ∧ Below w.heap.size w w' := by
  have hmk := fun W => run_make_row' (P := Tryz.prog) 23 3 (.int .i64 0) 8 Tryz.underlying23 infoI rfl .i64 .i64 k (by omega) (by omega) W
  have hlx := lt_of_cell hx
  obtain ⟨W1, hW1⟩ : ∃ W, W = w.alloc (.cells (madeCells #[.int .i64 0] k) 3) := ⟨_, rfl⟩
  have hh1 : W1.heap[w.heap.size]? = some (.cells (repL 0 k).toArray 3 (0, 0)) := by
    rw [hW1, heap_alloc_new, made_ints]; simp [repL]
  have hx1 : W1.cell? ⟨xb, 0, none⟩ = some (.int .i64 (-1)) := by rw [hW1]; exact cell_up hx _
  have hc1 := run_copy_row (P := Tryz.prog) W1 23 23 3 3 w.heap.size 0 k k ⟨xb, 0, none⟩ 1 1 (repL 0 k).toArray 3 (intsV (List.replicate (min 1 k) (-1))) Tryz.underlying23 sizeI hh1 (by simp [intsV_len, Nat.min_def]) (fun j u hu => by
    have hj : j = 0 := by
      rcases Nat.lt_or_ge j (min 1 k) with h | h
      · omega
      · rw [List.getElem?_eq_none (by simp [intsV_len]; omega)] at hu; cases hu
    subst hj
    have hu' : u = .int .i64 (-1) := by
      simp only [intsV, List.map_replicate, List.getElem?_replicate] at hu
      split at hu
      · simpa using hu.symm
      · cases hu
    rw [hu']
    exact hx1) (by simp [intsV_len, repL_len (Nat.zero_le k)]; omega) (intsV_one _)
  obtain ⟨W2, hW2⟩ : ∃ W, W = W1.setRow w.heap.size ((repL 0 k).toArray.toList.take 0 ++ intsV (List.replicate (min 1 k) (-1)) ++ (repL 0 k).toArray.toList.drop (0 + (intsV (List.replicate (min 1 k) (-1))).length)).toArray := ⟨_, rfl⟩
  rw [← hW2] at hc1
  have hh2 : W2.heap[w.heap.size]? = some (.cells (repL (min 1 k) k).toArray 3 (0, 0)) := by
    rw [hW2, heap_setRow hh1]
    have := repL_copy (j := 0) (k := k) (c := min 1 k) (Nat.zero_le _) (by omega)
    simp only [intsV_len, List.length_replicate]
    rw [Nat.zero_add] at this ⊢
    rw [← this]
  have hb2 : Below w.heap.size w W2 := by
    rw [hW2, hW1]
    exact ⟨rfl, rfl, rfl, by simp [World.setRow], fun j hj => by rw [heap_setRow_ne (by omega), Below.heap_alloc _ _ _ hj]⟩
  have hcl : (intsV (List.replicate (min 1 k) (-1))).length = min 1 k := by simp [intsV_len]
  rw [hcl, hW1] at hc1
  have hrun1 : (CpS #[23, 23] 3 #[.slice (some ⟨w.heap.size, 0, none⟩) k k, .slice (some ⟨xb, 0, none⟩) 1 1]).run Tryz.prog (w.alloc (.cells (madeCells #[.int .i64 0] k) 3)) = .ok (.int .i64 ((min 1 k : Nat) : Int)) W2 := hc1
  have HRND : Hid (∀ wr j, 1 ≤ j → j < k → wr.heap[w.heap.size]? = some (.cells (repL j k).toArray 3 (0, 0)) → Below w.heap.size w wr → ∃ W3, (CpS #[23, 23] 3 #[.slice (some ⟨w.heap.size, j, none⟩) (k - j) (k - j), .slice (some ⟨w.heap.size, 0, none⟩) j k]).run Tryz.prog wr.drew = .ok (.int .i64 ((min j (k - j) : Nat) : Int)) W3 ∧ W3.heap[w.heap.size]? = some (.cells (repL (j + min j (k - j)) k).toArray 3 (0, 0)) ∧ Below w.heap.size w W3) := fun wr j h1 hj hh hb => by
    have hh' : wr.drew.heap[w.heap.size]? = some (.cells (repL j k).toArray 3 (0, 0)) := hh
    have hc := run_copy_row (P := Tryz.prog) wr.drew 23 23 3 3 w.heap.size j (k - j) (k - j) ⟨w.heap.size, 0, none⟩ j k (repL j k).toArray 3 (intsV (List.replicate (min j (k - j)) (-1))) Tryz.underlying23 sizeI hh' (by simp [intsV_len, Nat.min_def]) (fun p u hu => by
      have hp : p < min j (k - j) := by
        rcases Nat.lt_or_ge p (min j (k - j)) with h | h
        · exact h
        · rw [List.getElem?_eq_none (by simp [intsV_len]; omega)] at hu; cases hu
      have hu' : u = .int .i64 (-1) := by
        simp only [intsV, List.map_replicate, List.getElem?_replicate, if_pos hp] at hu
        simpa using hu.symm
      have hadd : (⟨w.heap.size, 0, none⟩ : Addr).add p = ⟨w.heap.size, p, none⟩ := by unfold Addr.add; split <;> simp_all
      rw [hu', hadd, cell_of_row _ _ _ _ _ _ hh']
      have : p < j := by omega
      simp [repL, intsV, List.getElem?_append, this]) (by simp [intsV_len, repL_len (Nat.le_of_lt hj)]; omega) (intsV_one _)
    have hcl2 : (intsV (List.replicate (min j (k - j)) (-1))).length = min j (k - j) := by simp [intsV_len]
    rw [hcl2] at hc
    refine ⟨_, hc, ?_, ?_⟩
    · rw [heap_setRow hh']
      have := repL_copy (j := j) (k := k) (c := min j (k - j)) (by omega) (by omega)
      rw [← this]
    · exact ⟨hb.os, hb.tape, hb.output, by simp [World.setRow]; exact hb.size, fun p hp => by rw [heap_setRow_ne (by omega)]; exact hb.block p hp⟩
  have HFIN : Hid (repL k k = intsV (List.replicate k (-1))) := by show _ = _; simp [repL]
  clear hc1 hW2 hW1 hh1 hx1 hcl
  go_enter Tryz.func58, Tryz.ntmps58
  go_wp2_with fail
  refine (mul_lit k hk w).mono ?_
  rintro e w1 ⟨rfl, rfl⟩
  go_wp2
  go_loopw [8] (fun nv wr => ∃ j : Nat, j ≤ k ∧ (0 < k → 1 ≤ j) ∧ nv = .int .i64 j ∧ Hid (wr.heap[w.heap.size]? = some (.cells (repL j k).toArray 3 (0, 0)) ∧ Below w.heap.size w wr)) (fun nv _ => k - (intOf nv).toNat)
  case atStart => exact ⟨min 1 k, by omega, by omega, rfl, hh2, hb2⟩
  case round =>
    obtain ⟨j, hj, hj1, rfl, HJ⟩ := hrel
    by_cases hlt : j < k
    · obtain ⟨W3, hrun3, h3, h4⟩ := HRND.out wr j (by omega) hlt HJ.out.1 HJ.out.2
      have HN := Hid.out (p := Hid _) (And.intro h3 h4)
      clear h3 h4
      go_wp2
      go_region
      all_goals go_wp2
      all_goals go_roundw
      case rel => exact ⟨j + min j (k - j), by omega, by omega, by go_num, HN⟩
      case measure => simp [intOf]; omega
    · obtain rfl : j = k := by omega
      go_wp2
      go_ret
      exact ⟨rfl, by rw [← HFIN.out]; exact HJ.out.1, HJ.out.2⟩
end

end Go.Proofs.YtgofbkgfonlceabGreatDoor
