/-
  The memory with buffers is a memory: its methods do what the program asks of one.
  What the program tells of a state, a number at a time.
  Copies of lists, whatever they hold.
-/
import Derived.Test.YtipdnfpomdcenabGreatDoorPBuf6
import Derived.Test.YtipdnfpomdcenabGreatDoorPLoad
import Derived.Test.YtipdnfpomdcenabGreatDoorPNew
import Derived.Test.YtipdnfpomdcenabGreatDoorTelP
namespace Go.Proofs.YtipdnfpomdcenabGreatDoor
section
open Go.RowKit

/-- A method of the memory within. -/
theorem meth_in {w : World} {bb mb fid : Nat} {name : String} (h : (method 368 72 (.pointer (some ⟨bb, 0, none⟩)) name).run Tryz.prog w = ((loadVar 62 ⟨bb, 0, none⟩) >>= fun r => pure (fid, r)).run Tryz.prog w) (b0 : w.cell? ⟨bb, 0, none⟩ = some (.pointer (some ⟨mb, 0, none⟩))) :
    (method 368 72 (.pointer (some ⟨bb, 0, none⟩)) name).run Tryz.prog w = .ok (fid, .pointer (some ⟨mb, 0, none⟩)) w := by
  rw [h]
  simp [go_sem, b0]

theorem buf_law : MLaw bufK where
  notTr := by decide
  mode0 h := by cases h
  mode1 _ := by decide
  mHas w B Q sb mb v s hK h := by rw [buf_top hK]; exact meth_in (by kernel_rfl) (h.b0 (buf_bf hK))
  mAble a w := by kernel_rfl
  cAble xs w := by kernel_rfl
  mLoad a w := by kernel_rfl
  cLoad xs w := by kernel_rfl
  mStore a w := by kernel_rfl
  cStore xs w := by kernel_rfl
  mSwap w B Q sb mb v s hK h := by rw [buf_top hK]; exact meth_in (by kernel_rfl) (h.b0 (buf_bf hK))
  mLock w B Q sb mb v s hK h := by rw [buf_top hK]; exact meth_in (by kernel_rfl) (h.b0 (buf_bf hK))
  mUnlock a w := by kernel_rfl
  cUnlock xs w := by kernel_rfl
  mWaiting a w := by kernel_rfl
  cWaiting xs w := by kernel_rfl
  mFinish a w := by kernel_rfl
  cFinish xs w := by kernel_rfl
  mWords w B Q sb mb v s hK h := by rw [buf_top hK]; exact meth_in (by kernel_rfl) (h.b0 (buf_bf hK))
  able w B Q sb mb v s t op a b c hK hp ha := by
    rw [buf_top hK]; exact bable_any w B Q sb mb v s t op a b c hK hp ha
  load w B Q sb mb v s t x hK hp hx := by
    rw [buf_top hK]; exact bload_any w B Q sb mb v s t x hK hp hx
  store w B Q sb mb v s t x y hK hp _ hw := by
    rw [buf_top hK]; exact bstore_any w B Q sb mb v s t x y hK hp hw
  unlockY w B Q sb mb v s t x hK hp hx hw ho ha := by
    rw [buf_top hK]
    exact (bunlock_any w B Q sb mb v s t x hK hp hx false ha true (decide_eq_true ho) (fun _ _ => hw)).mono fun e w' h => h.1 ⟨rfl, rfl⟩
  unlockN w B Q sb mb v s t x hK hp hx h := by
    rw [buf_top hK]
    refine (bunlock_any w B Q sb mb v s t x hK hp hx _ rfl _ rfl (fun h1 h2 => ?_)).mono fun e w' g => g.2 (h.imp decide_eq_false id)
    rcases h with h | h
    · exact absurd (of_decide_eq_true h1) h
    · rw [h] at h2; cases h2
  finish w B Q sb mb v s X t k hK hp hlo hk _ := by
    rw [buf_top hK]; exact bfinish_any w B Q sb mb v s X t k hK hp hlo hk
  waiting w B Q sb mb v s t fid caps I hK kF hp hI h0 hC := by
    rw [buf_top hK]; exact bwaiting_any w B Q sb mb v s t fid caps I hK kF (hp 0 w h0) hI h0 hC
end

section
open Go.RowKit

/-- Nothing has turned but bytes, and where they are told. -/
def Txt (W W' : World) : Prop := ∀ (k : Nat) (c : Array Value) (t : TypeId), t ≠ 5 → t ≠ 145 → W.heap[k]? = some (.cells c t) → W'.heap[k]? = some (.cells c t)
/-- Who is told numbers: I xs W: xs were told so far. -/
structure Ear (fid : Nat) (caps : Array Value) (B : Nat) (Q : Cd) (sb mb : Nat) (v : Rp → Value) (s : Sx) (I : List Int → World → Prop) : Prop where
  fn : ∀ (xs : Array Value) (w : World), (callFunc fid xs).run Tryz.prog w = .ok (.enter fid xs) w
  st : ∀ xs W, I xs W → QSt W B Q sb mb v s
  more : ∀ xs W W', I xs W → Below W.heap.size W W' → I xs W'
  tell : ∀ xs W n, I64n n → xs.length ≤ 20000 → I xs W → Calls Tryz.prog fid (#[.int .i64 n] ++ caps) W fun e W' => e = .returned (.tuple #[]) ∧ I (xs ++ [n]) W' ∧ Txt W W'
/-- A list that lies at its block's start. -/
def RowI (w : World) (a : Option Addr) (l : List Int) : Prop := ∀ i, i < l.length → ∃ b, a = some ⟨b, 0, none⟩ ∧ w.cell? ⟨b, i, none⟩ = some (.int .i64 (l.getD i 0))
theorem own_rowI {w : World} {B : Nat} {t : TypeId} {a : Option Addr} {n c : Nat} {l : List Int} (h : w.ownsRow B t 1 (.slice a n c) n (intsV l)) (hn : n = l.length) : RowI w a l := fun i hi => by
  obtain ⟨g, cap, h1, h2, _, _⟩ := fam_block h (by omega)
  simp only [Value.slice.injEq] at h1
  exact ⟨g, h1.1, fam_cell h h2 (intsV_at hi)⟩
section
variable {w : World} {B : Nat} {Q : Cd} {sb mb : Nat} {v : Rp → Value} {s : Sx}
theorem QSt.rowW (h : QSt w B Q sb mb v s) : ∃ a c, v .words = .slice a s.words.length c ∧ RowI w a s.words := by
  obtain ⟨a, c, e⟩ := h.form .words
  have := h.fam.own .words
  rw [e] at this
  exact ⟨a, c, e, own_rowI this rfl⟩
theorem QSt.rowO (h : QSt w B Q sb mb v s) : ∃ a c, v .own = .slice a s.own.length c ∧ RowI w a s.own := by
  obtain ⟨a, c, e⟩ := h.form .own
  have := h.fam.own .own
  rw [e] at this
  exact ⟨a, c, e, own_rowI this rfl⟩
theorem QSt.rowP (h : QSt w B Q sb mb v s) : ∃ a c, v .prints = .slice a s.prints.length c ∧ RowI w a s.prints := by
  obtain ⟨a, c, e⟩ := h.form .prints
  have := h.fam.own .prints
  rw [e] at this
  exact ⟨a, c, e, own_rowI this rfl⟩
theorem QSt.rowR (h : QSt w B Q sb mb v s) (t : Nat) : ∃ a c, v (.regs t) = .slice a (thOf s t).regs.length c ∧ RowI w a (thOf s t).regs := by
  obtain ⟨a, c, e⟩ := h.form (.regs t)
  have := h.fam.own (.regs t)
  rw [e] at this
  exact ⟨a, c, e, own_rowI this rfl⟩
end

set_option maxRecDepth 100000 in
set_option maxHeartbeats 1600000 in
/-- All of a list is told. -/
theorem tellAll_any (w : World) (fid : Nat) (caps : Array Value) (B : Nat) (Q : Cd) (sb mb : Nat) (v : Rp → Value) (s : Sx) (I : List Int → World → Prop) (hE : Ear fid caps B Q sb mb v s I) (a : Option Addr) (c : Nat) (l xs : List Int) (hl : ∀ ys W, I ys W → RowI W a l) (hfit : ∀ x, x ∈ l → I64n x) (hlen : xs.length + l.length ≤ 20000) (h0 : I xs w) :
    Calls Tryz.prog 121 #[.slice a l.length c, .func (.func fid) #[] caps] w fun e w' => e = .returned (.tuple #[]) ∧ I (xs ++ l) w' := by
  obtain ⟨n, hn⟩ : ∃ n, l.length = n := ⟨_, rfl⟩
  have HN : Hid (l.length = n) := hn
  have hn2 : n ≤ 20000 := by omega
  have kF := hE.fn
  have HROW : Hid (∀ k W, k < n → I (xs ++ l.take k) W → ∃ b, a = some ⟨b, 0, none⟩ ∧ W.cell? ⟨b, k, none⟩ = some (.int .i64 (l.getD k 0)) ∧ Hid (Calls Tryz.prog fid (#[.int .i64 (l.getD k 0)] ++ caps) W fun e W' => e = .returned (.tuple #[]) ∧ I (xs ++ l.take (k + 1)) W')) := fun k W hk hI => by
    have hk' : k < l.length := by rw [hn]; exact hk
    obtain ⟨b, h1, h2⟩ := hl _ W hI k hk'
    have hm : l.getD k 0 ∈ l := by rw [List.getD_eq_getElem?_getD, List.getElem?_eq_getElem hk']; exact List.getElem_mem hk'
    refine ⟨b, h1, h2, ?_⟩
    have h3 := hE.tell (xs ++ l.take k) W (l.getD k 0) (hfit _ hm) (by rw [List.length_append, List.length_take]; omega) hI
    have e : l.take (k + 1) = l.take k ++ [l.getD k 0] := by rw [List.take_add_one, List.getElem?_eq_getElem hk', List.getD_eq_getElem?_getD, List.getElem?_eq_getElem hk']; rfl
    rw [List.append_assoc, ← e] at h3
    exact h3.mono fun e W' h => ⟨h.1, h.2.1⟩
  have HI0 : Hid (I (xs ++ l.take 0) w) := by show I _ _; rw [List.take_zero, List.append_nil]; exact h0
  have HEND : Hid (∀ W, I (xs ++ l.take n) W → I (xs ++ l) W) := fun W h => by rw [← hn, List.take_length] at h; exact h
  rw [hn]
  clear hn hlen hE hl hfit h0
  go_enter Tryz.func121, Tryz.ntmps121
  go_wp2
  go_loopw [8] (fun i wr => ∃ k : Nat, k ≤ n ∧ i = .int .i64 k ∧ Hid (I (xs ++ l.take k) wr)) (fun i _ => n - (intOf i).toNat)
  case atStart => exact ⟨0, Nat.zero_le _, rfl, HI0⟩
  case round =>
    obtain ⟨k, hk, rfl, HI⟩ := hrel
    by_cases hlt : k < n
    · obtain ⟨b, rfl, hc, HC⟩ := HROW.out k wr hlt HI.out
      obtain ⟨y, hy⟩ : ∃ y, l.getD k 0 = y := ⟨_, rfl⟩
      rw [hy] at hc HC
      clear hy HI
      go_wp2_with fail
      refine Calls.mono HC.out ?_
      rintro e w1 ⟨rfl, h1⟩
      have H1 := Hid.out (p := Hid _) h1
      clear HC h1
      go_wp2_with fail
      go_roundw
      case rel => exact ⟨k + 1, by omega, by go_num, H1⟩
      case measure => simp [intOf]; omega
    · obtain rfl : k = n := by omega
      go_wp2
      go_end0
      exact ⟨rfl, HEND.out _ HI.out⟩
end

section
open Go.RowKit

/-- 'append([]T{}, l...)' of a row. -/
theorem app_srcG {T e : TypeId} {z : Value} {size bytes : Nat} (ht : Tryz.prog.underlying T = some (.slice e)) (hinfo : (Tryz.prog.info? e).map (fun i => (i.zero, i.size, i.bytes)) = some (some z, size, bytes)) (hzs : z.cells.size = size) (hsz : 0 < size) (W : World) {B' : Nat} {g0 c0 n : Nat} {xs : List Value} (hown : W.ownsRow B' e size (.slice (some ⟨g0, 0, none⟩) n c0) n xs) (h1 : ∀ u ∈ xs, u.oneCell' = true) (hn : n ≤ 1000000) (hby : bytes ≤ 1000) :
    ∃ g cap w3, (AppS #[T, T] T #[.slice (some ⟨W.heap.size, 0, none⟩) 0 0, .slice (some ⟨g0, 0, none⟩) n c0]).run Tryz.prog (W.alloc (.cells #[] e)) = .ok (.slice (some ⟨g, 0, none⟩) n cap) w3 ∧ w3.ownsRow W.heap.size e size (.slice (some ⟨g, 0, none⟩) n cap) n xs ∧ Below W.heap.size W w3 := by
  obtain ⟨i, hi, hz0, hz1, hz2⟩ := info_is hinfo
  have hmade := World.ownsRow_made (base := W.heap.size) (e := e) (size := size) W #[] 0 (Nat.le_refl _) (by decide) (by simp)
  have hbl : Below W.heap.size W (W.alloc (.cells #[] e)) := (Below.refl _ _).alloc (Nat.le_refl _) _
  have hcell : ∀ j u, xs[j]? = some u → (W.alloc (.cells #[] e)).cell? ((⟨g0, 0, none⟩ : Addr).add j) = some u := fun j u hu => by
    have := fam_cell hown (g := g0) rfl hu
    have hadd : (⟨g0, 0, none⟩ : Addr).add j = ⟨g0, j, none⟩ := by unfold Addr.add; split <;> simp_all
    rw [hadd]
    exact cell_up this _
  rcases Nat.eq_zero_or_pos n with h0 | h0
  · subst h0
    have hxs : xs = [] := List.eq_nil_of_length_eq_zero (by have := hown.1; simpa using this)
    subst hxs
    refine ⟨W.heap.size, 0, W.alloc (.cells #[] e), ?_, hmade, hbl⟩
    have hs : Src Tryz.prog i.size T (.slice (some ⟨g0, 0, none⟩) 0 c0) 0 [] (W.alloc (.cells #[] e)) := Src.ofSlice _ ht ⟨g0, 0, none⟩ 0 c0 [] (by simp) (fun j u h => by simp at h) (fun u h => by cases h)
    exact run_append_room_src (P := Tryz.prog) (W.alloc (.cells #[] e)) T T T e i ht hi W.heap.size 0 0 0 (.slice (some ⟨g0, 0, none⟩) 0 c0) 0 [] hs (Nat.le_refl _) (fun j h => by simp at h) (fun j h => by simp at h)
  · obtain ⟨g, cap, w3, r1, r2, r3, r4, r5⟩ := run_append_lies (P := Tryz.prog) (W.alloc (.cells #[] e)) T T W.heap.size e i z size bytes ht hi hz0 hz1 hz2 hzs hsz _ 0 [] hmade ⟨g0, 0, none⟩ n c0 xs hown.1 hcell h1 h0 (by unfold maxLen; omega) (by
      have : (0 + n) * bytes ≤ 1000000 * 1000 := Nat.mul_le_mul (by omega) hby
      omega) (by simp) (W.heap.size + 1) (by simp)
    rw [Nat.zero_add] at r1 r2
    refine ⟨g, cap, w3, r1, r2, hbl.grown r3 (by simp) (fun k hk => ?_)⟩
    have : W.heap.size = k := by simpa [Value.ownBlock] using hk
    omega
theorem infoSThr : (Tryz.prog.info? 140).map (fun i => (i.zero, i.size, i.bytes)) = some (some (.agg #[nilV, .int .i64 0, nilV]), 3, 56) := by kernel_rfl
theorem infoSto : (Tryz.prog.info? 256).map (fun i => (i.zero, i.size, i.bytes)) = some (some (.agg #[.bool false, .int .i64 0, .int .i64 0]), 3, 24) := by kernel_rfl
theorem infoLSto : (Tryz.prog.info? 251).map (fun i => (i.zero, i.size, i.bytes)) = some (some nilV, 1, 24) := by kernel_rfl

attribute [local go_sem ↓] appS_eq in
set_option maxRecDepth 100000 in
set_option maxHeartbeats 1600000 in
theorem cloneT_any (w : World) (B : Nat) (v : Value) (n : Nat) (xs : List Value) (hown : w.ownsRow B 140 3 v n xs) (h1 : ∀ u ∈ xs, u.oneCell' = true) (hn : n ≤ 1000000) :
    Calls Tryz.prog 123 #[v] w fun e w' => ∃ u, e = .returned u ∧ w'.ownsRow w.heap.size 140 3 u n xs ∧ Below w.heap.size w w' := by
  rcases hown.2 with ⟨h0, h2⟩ | ⟨g, cap, cur, hv, _⟩
  · subst h0 h2
    have hxs : xs = [] := List.eq_nil_of_length_eq_zero (by have := hown.1; simpa using this)
    subst hxs
    have hne := fun W => Lib.run_eql_slice_nil (P := Tryz.prog) W 109 140 none 0 0 0 0 Tryz.underlying109
    clear hown h1
    go_enter Tryz.func123, Tryz.ntmps123
    go_wp2
    go_ret
    exact ⟨nilV, rfl, World.ownsRow_nil _ _ _ _, Below.refl _ _⟩
  · subst hv
    obtain ⟨g2, cap2, w3, r1, r2, r3⟩ := app_srcG Tryz.underlying109 infoSThr rfl (by omega) w hown h1 hn (by omega)
    have hne := fun W => Lib.run_eql_slice_nil (P := Tryz.prog) W 109 140 (some ⟨g, 0, none⟩) n cap 0 0 Tryz.underlying109
    have HR := Hid.out (p := Hid _) (And.intro r2 r3)
    clear hown h1 r2 r3
    go_enter Tryz.func123, Tryz.ntmps123
    go_wp2
    go_ret
    exact ⟨_, rfl, HR.out⟩

attribute [local go_sem ↓] appS_eq in
set_option maxRecDepth 100000 in
set_option maxHeartbeats 1600000 in
theorem cloneS_any (w : World) (B : Nat) (v : Value) (n : Nat) (xs : List Value) (hown : w.ownsRow B 256 3 v n xs) (h1 : ∀ u ∈ xs, u.oneCell' = true) (hn : n ≤ 1000000) :
    Calls Tryz.prog 198 #[v] w fun e w' => ∃ u, e = .returned u ∧ w'.ownsRow w.heap.size 256 3 u n xs ∧ Below w.heap.size w w' := by
  rcases hown.2 with ⟨h0, h2⟩ | ⟨g, cap, cur, hv, _⟩
  · subst h0 h2
    have hxs : xs = [] := List.eq_nil_of_length_eq_zero (by have := hown.1; simpa using this)
    subst hxs
    have hne := fun W => Lib.run_eql_slice_nil (P := Tryz.prog) W 251 256 none 0 0 0 0 Tryz.underlying251
    clear hown h1
    go_enter Tryz.func198, Tryz.ntmps198
    go_wp2
    go_ret
    exact ⟨nilV, rfl, World.ownsRow_nil _ _ _ _, Below.refl _ _⟩
  · subst hv
    obtain ⟨g2, cap2, w3, r1, r2, r3⟩ := app_srcG Tryz.underlying251 infoSto rfl (by omega) w hown h1 hn (by omega)
    have hne := fun W => Lib.run_eql_slice_nil (P := Tryz.prog) W 251 256 (some ⟨g, 0, none⟩) n cap 0 0 Tryz.underlying251
    have HR := Hid.out (p := Hid _) (And.intro r2 r3)
    clear hown h1 r2 r3
    go_enter Tryz.func198, Tryz.ntmps198
    go_wp2
    go_ret
    exact ⟨_, rfl, HR.out⟩

attribute [local go_sem ↓] appS_eq in
set_option maxRecDepth 100000 in
set_option maxHeartbeats 1600000 in
theorem cloneL_any (w : World) (B : Nat) (v : Value) (n : Nat) (xs : List Value) (hown : w.ownsRow B 251 1 v n xs) (h1 : ∀ u ∈ xs, u.oneCell' = true) (hn : n ≤ 1000000) :
    Calls Tryz.prog 197 #[v] w fun e w' => ∃ u, e = .returned u ∧ w'.ownsRow w.heap.size 251 1 u n xs ∧ Below w.heap.size w w' := by
  rcases hown.2 with ⟨h0, h2⟩ | ⟨g, cap, cur, hv, _⟩
  · subst h0 h2
    have hxs : xs = [] := List.eq_nil_of_length_eq_zero (by have := hown.1; simpa using this)
    subst hxs
    have hne := fun W => Lib.run_eql_slice_nil (P := Tryz.prog) W 125 251 none 0 0 0 0 Tryz.underlying125
    clear hown h1
    go_enter Tryz.func197, Tryz.ntmps197
    go_wp2
    go_ret
    exact ⟨nilV, rfl, World.ownsRow_nil _ _ _ _, Below.refl _ _⟩
  · subst hv
    obtain ⟨g2, cap2, w3, r1, r2, r3⟩ := app_srcG Tryz.underlying125 infoLSto rfl (by omega) w hown h1 hn (by omega)
    have hne := fun W => Lib.run_eql_slice_nil (P := Tryz.prog) W 125 251 (some ⟨g, 0, none⟩) n cap 0 0 Tryz.underlying125
    have HR := Hid.out (p := Hid _) (And.intro r2 r3)
    clear hown h1 r2 r3
    go_enter Tryz.func197, Tryz.ntmps197
    go_wp2
    go_ret
    exact ⟨_, rfl, HR.out⟩

attribute [local go_sem ↓] appS_eq in
set_option maxRecDepth 100000 in
set_option maxHeartbeats 1600000 in
theorem cloneI_any (w : World) (B : Nat) (v : Value) (n : Nat) (xs : List Value) (hown : w.ownsRow B 3 1 v n xs) (h1 : ∀ u ∈ xs, u.oneCell' = true) (hn : n ≤ 1000000) :
    Calls Tryz.prog 57 #[v] w fun e w' => ∃ u, e = .returned u ∧ w'.ownsRow w.heap.size 3 1 u n xs ∧ Below w.heap.size w w' := by
  rcases hown.2 with ⟨h0, h2⟩ | ⟨g, cap, cur, hv, _⟩
  · subst h0 h2
    have hxs : xs = [] := List.eq_nil_of_length_eq_zero (by have := hown.1; simpa using this)
    subst hxs
    have hne := fun W => Lib.run_eql_slice_nil (P := Tryz.prog) W 23 3 none 0 0 0 0 Tryz.underlying23
    clear hown h1
    go_enter Tryz.func57, Tryz.ntmps57
    go_wp2
    go_ret
    exact ⟨nilV, rfl, World.ownsRow_nil _ _ _ _, Below.refl _ _⟩
  · subst hv
    obtain ⟨g2, cap2, w3, r1, r2, r3⟩ := app_srcG Tryz.underlying23 infoI rfl (by omega) w hown h1 hn (by omega)
    have hne := fun W => Lib.run_eql_slice_nil (P := Tryz.prog) W 23 3 (some ⟨g, 0, none⟩) n cap 0 0 Tryz.underlying23
    have HR := Hid.out (p := Hid _) (And.intro r2 r3)
    clear hown h1 r2 r3
    go_enter Tryz.func57, Tryz.ntmps57
    go_wp2
    go_ret
    exact ⟨_, rfl, HR.out⟩
end

end Go.Proofs.YtipdnfpomdcenabGreatDoor
