/-
  The plain memory is a memory: its methods do what the program asks of one.
  The memory with buffers: one that waits is taken out.
  What the program tells of a state, a number at a time.
  Copies of lists, whatever they hold.
  An outcome put into its place, one behind the other: plain functions.
-/
import Derived.Test.YtipdnfpomdcenacGreatDoorPNew
import Derived.Test.YtipdnfpomdcenacGreatDoorPBegin
import Derived.Test.YtipdnfpomdcenacGreatDoorRDoW
import Derived.Deep.RegionHeld3
import Derived.Lib.SliceRun
import Derived.Deep.RegionHeld
import Derived.RangeFuncFrom
import Derived.RangeFuncNested
import Derived.RangeFuncBound
import Derived.RangeFuncCalls
import Derived.RangeFuncLeaves
import Derived.RangeFuncBox
import Derived.Shelf.Abstract
import Derived.Shelf.RegionOpen
import Derived.OwnWalkIn
import Derived.TacticsInMore
import Derived.LoopNIn
import Derived.LoopIn
import Derived.Test.YtipdnfpomdcenacGreatDoorTelP
import Derived.Test.YtipdnfpomdcenacGreatDoorWorkP
namespace Go.Proofs.YtipdnfpomdcenacGreatDoor
section
open Go.RowKit

def plainK : Mk where
  bf := false
  mode := 0
  tid := 55
  bty := 3
  lty := 3
  sty := 3
  able := 149
  load := 153
  store := 155
  unlock := 158
  waiting := 159
  finish := 151
theorem plain_top {Q : Cd} (h : Q.K = plainK) (mb : Nat) : Q.top mb = mb := by
  unfold Cd.top; rw [h]; rfl
theorem plain_law : MLaw plainK where
  notTr := by decide
  mode0 _ := rfl
  mode1 h := by cases h
  mHas w B Q sb mb v s hK _ := by rw [plain_top hK]; kernel_rfl
  mAble a w := by kernel_rfl
  cAble xs w := by kernel_rfl
  mLoad a w := by kernel_rfl
  cLoad xs w := by kernel_rfl
  mStore a w := by kernel_rfl
  cStore xs w := by kernel_rfl
  mSwap w B Q sb mb v s hK _ := by rw [plain_top hK]; kernel_rfl
  mLock w B Q sb mb v s hK _ := by rw [plain_top hK]; kernel_rfl
  mUnlock a w := by kernel_rfl
  cUnlock xs w := by kernel_rfl
  mWaiting a w := by kernel_rfl
  cWaiting xs w := by kernel_rfl
  mFinish a w := by kernel_rfl
  cFinish xs w := by kernel_rfl
  mWords w B Q sb mb v s hK _ := by rw [plain_top hK]; kernel_rfl
  able w B Q sb mb v s t op a b c hK hp ha := by
    rw [plain_top hK, hp.bare (by rw [hK]; rfl)]
    exact pable_any w B Q sb mb v s t op a b c hp.hs hp.hl ha
  load w B Q sb mb v s t x hK hp hx := by
    rw [plain_top hK, finds_bare (hp.bare (by rw [hK]; rfl))]
    exact (pload_any w B Q sb mb v s t x hp.hs hp.hm hx).mono fun e w' h => ⟨h.1, by rw [h.2]; exact Below.refl _ _⟩
  store w B Q sb mb v s t x y hK hp hx _ := by
    rw [plain_top hK]
    refine (pstore_any w B Q sb mb v s t y x hp.hs hp.hm hx).mono fun e w' h => ⟨h.1, v, ?_, h.2.2, rfl, rfl, rfl, fun _ => rfl⟩
    have e1 : storeW plainK.mode s t ⟨false, x, y⟩ = { s with words := s.words.set x y } := by
      show storeW 0 s t _ = _
      simp [storeW, doneW]
    rw [e1]; exact h.2.1
  unlockY w B Q sb mb v s t x hK hp hx _ ht _ := by
    rw [plain_top hK]
    refine (punlock_yes w B Q sb mb v s t x hp.hs hp.hl hx ht).mono fun e w' h => ⟨h.1, v, ?_, h.2.2, rfl, rfl, rfl, fun _ => rfl⟩
    have e1 : storeW plainK.mode s t ⟨true, x, 0⟩ = { s with own := s.own.set x (-1) } := by
      show storeW 0 s t _ = _
      simp [storeW, doneW]
    rw [e1]; exact h.2.1
  unlockN w B Q sb mb v s t x hK hp hx ht := by
    rw [plain_top hK]
    rw [hp.bare (by rw [hK]; rfl)] at ht
    refine (punlock_no w B Q sb mb v s t x hp.hs hp.hl hx (ht.resolve_right (by simp))).mono fun e w' h => ⟨h.1, by rw [h.2]; exact Below.refl _ _⟩
  finish w B Q sb mb v s X t k hK hp _ hk _ := by
    rw [hp.bare (by rw [hK]; rfl)] at hk
    exact absurd hk (Nat.not_lt_zero _)
  waiting w B Q sb mb v s t fid caps I hK _ hp _ h0 _ := by
    have hb := (hp 0 w h0).bare (by rw [hK]; rfl)
    rw [plain_top hK, hb]
    refine (waiting_any mb _ _ w).mono fun e w' h => ⟨h.1, ?_⟩
    rw [← h.2]; exact h0

/-- The rows of a plain memory that has just been made. -/
def m0V (mb : Nat) (wv ov : Value) : Rp → Value
  | .mem => boxV mb
  | .words => wv
  | .own => ov
  | _ => nilV
theorem Mem0.q {w w' : World} {mb lk : Nat} {wv ov : Value} {words : List Int} {Q : Cd} (h : Mem0 w w' mb wv ov words lk) (hb : Q.K.bf = false) : MemQ Q w w' mb (m0V mb wv ov) words lk := by
  refine ⟨fun r hr => ?_, fun r q g hr hq => ?_, rfl, rfl, rfl, fun _ => rfl, rfl, fun h1 => absurd h1 (by rw [hb]; decide), h.below⟩
  · cases r with
    | st => exact absurd rfl hr
    | mem => exact fam_box (xs := [wv, ov]) h.lo h.box
    | words => exact h.wrow
    | own =>
      show w'.ownsRow _ _ 1 ov (List.replicate lk (-1 : Int)).length _
      rw [List.length_replicate]
      exact h.orow
    | thr => exact World.ownsRow_nil _ _ _ _
    | prints => exact World.ownsRow_nil _ _ _ _
    | regs t => exact World.ownsRow_nil _ _ _ _
    | box => simp only [pN, pX, hb]; exact World.ownsRow_nil _ _ _ _
    | bufs => simp only [pN, pX, hb]; exact World.ownsRow_nil _ _ _ _
    | buf t => simp only [pN, pX, hb]; exact World.ownsRow_nil _ _ _ _
  · have s2 : ∀ g, (boxV mb).ownBlock = some g → g = mb := fun g e => by simpa [Value.ownBlock] using e.symm
    have s3 : ∀ g, (nilV).ownBlock = some g → False := fun g e => by simp [Value.ownBlock] at e
    cases r <;> cases q <;> simp only [m0V] at hr hq <;> first | rfl | exact (s3 _ hr).elim | exact (s3 _ hq).elim | skip
    · have e := s2 _ hr; rw [e] at hq; exact absurd hq h.a1
    · have e := s2 _ hr; rw [e] at hq; exact absurd hq h.a2
    · have e := s2 _ hq; rw [e] at hr; exact absurd hr h.a1
    · exact absurd hq (h.a3 _ hr)
    · have e := s2 _ hq; rw [e] at hr; exact absurd hr h.a2
    · exact absurd hr (h.a3 _ hq)
end

section
open Go.RowKit

/-- A clearing's run, kept whole. -/
def ClS (ts : Array TypeId) (ty : TypeId) (args : Array Value) : Sem Value := Builtin.clear_ ts ty args
theorem clS_eq (ts : Array TypeId) (ty : TypeId) (args : Array Value) : Builtin.clear_ ts ty args = ClS ts ty args := rfl
attribute [local go_sem ↓] appS_eq clS_eq
end

section
open Go.RowKit

/-- Nothing has turned but bytes, and where they are told. -/
def Txt (W W' : World) : Prop := ∀ (k : Nat) (c : Array Value) (t : TypeId), t ≠ 5 → t ≠ 91 → W.heap[k]? = some (.cells c t) → W'.heap[k]? = some (.cells c t)
/-- Who is told numbers: I xs W: xs were told so far. -/
structure Ear (fid : Nat) (caps : Array Value) (B : Nat) (Q : Cd) (sb mb : Nat) (v : Rp → Value) (s : Sx) (I : List Int → World → Prop) : Prop where
  fn : ∀ (xs : Array Value) (w : World), (callFunc fid xs).run Tryz.prog w = .ok (.enter fid xs) w
  st : ∀ xs W, I xs W → QSt W B Q sb mb v s
  more : ∀ xs W W', I xs W → Below W.heap.size W W' → I xs W'
  tell : ∀ xs W n, I64n n → xs.length ≤ 20000 → I xs W → Calls Tryz.prog fid (#[.int .i64 n] ++ caps) W fun e W' => e = .returned (.tuple #[]) ∧ I (xs ++ [n]) W' ∧ Txt W W'
/-- A list that lies at its block's start. -/
def RowI (w : World) (a : Option Addr) (l : List Int) : Prop := ∀ i, i < l.length → ∃ b, a = some ⟨b, 0, none⟩ ∧ w.cell? ⟨b, i, none⟩ = some (.int .i64 (l.getD i 0))
theorem own_rowI {w : World} {B : Nat} {t : TypeId} {a : Option Addr} {n c : Nat} {l : List Int} (h : w.ownsRow B t 1 (.slice a n c) n (intsV l)) (hn : n = l.length) : RowI w a l := fun i hi => by
  obtain ⟨g, cap, h1, h2, _, _⟩ := fam_block h (by omega)
  simp only [Value.slice.injEq] at h1
  exact ⟨g, h1.1, fam_cell h h2 (intsV_at hi)⟩
section
variable {w : World} {B : Nat} {Q : Cd} {sb mb : Nat} {v : Rp → Value} {s : Sx}
theorem QSt.rowW (h : QSt w B Q sb mb v s) : ∃ a c, v .words = .slice a s.words.length c ∧ RowI w a s.words := by
  obtain ⟨a, c, e⟩ := h.form .words
  have := h.fam.own .words
  rw [e] at this
  exact ⟨a, c, e, own_rowI this rfl⟩
theorem QSt.rowO (h : QSt w B Q sb mb v s) : ∃ a c, v .own = .slice a s.own.length c ∧ RowI w a s.own := by
  obtain ⟨a, c, e⟩ := h.form .own
  have := h.fam.own .own
  rw [e] at this
  exact ⟨a, c, e, own_rowI this rfl⟩
theorem QSt.rowP (h : QSt w B Q sb mb v s) : ∃ a c, v .prints = .slice a s.prints.length c ∧ RowI w a s.prints := by
  obtain ⟨a, c, e⟩ := h.form .prints
  have := h.fam.own .prints
  rw [e] at this
  exact ⟨a, c, e, own_rowI this rfl⟩
theorem QSt.rowR (h : QSt w B Q sb mb v s) (t : Nat) : ∃ a c, v (.regs t) = .slice a (thOf s t).regs.length c ∧ RowI w a (thOf s t).regs := by
  obtain ⟨a, c, e⟩ := h.form (.regs t)
  have := h.fam.own (.regs t)
  rw [e] at this
  exact ⟨a, c, e, own_rowI this rfl⟩
end

set_option maxRecDepth 100000 in
set_option maxHeartbeats 1600000 in
/-- All of a list is told. -/
theorem tellAll_any (w : World) (fid : Nat) (caps : Array Value) (B : Nat) (Q : Cd) (sb mb : Nat) (v : Rp → Value) (s : Sx) (I : List Int → World → Prop) (hE : Ear fid caps B Q sb mb v s I) (a : Option Addr) (c : Nat) (l xs : List Int) (hl : ∀ ys W, I ys W → RowI W a l) (hfit : ∀ x, x ∈ l → I64n x) (hlen : xs.length + l.length ≤ 20000) (h0 : I xs w) :
    Calls Tryz.prog 83 #[.slice a l.length c, .func (.func fid) #[] caps] w fun e w' => e = .returned (.tuple #[]) ∧ I (xs ++ l) w' := by
  obtain ⟨n, hn⟩ : ∃ n, l.length = n := ⟨_, rfl⟩
  have HN : Hid (l.length = n) := hn
  have hn2 : n ≤ 20000 := by omega
  have kF := hE.fn
  have HROW : Hid (∀ k W, k < n → I (xs ++ l.take k) W → ∃ b, a = some ⟨b, 0, none⟩ ∧ W.cell? ⟨b, k, none⟩ = some (.int .i64 (l.getD k 0)) ∧ Hid (Calls Tryz.prog fid (#[.int .i64 (l.getD k 0)] ++ caps) W fun e W' => e = .returned (.tuple #[]) ∧ I (xs ++ l.take (k + 1)) W')) := fun k W hk hI => by
    have hk' : k < l.length := by rw [hn]; exact hk
    obtain ⟨b, h1, h2⟩ := hl _ W hI k hk'
    have hm : l.getD k 0 ∈ l := by rw [List.getD_eq_getElem?_getD, List.getElem?_eq_getElem hk']; exact List.getElem_mem hk'
    refine ⟨b, h1, h2, ?_⟩
    have h3 := hE.tell (xs ++ l.take k) W (l.getD k 0) (hfit _ hm) (by rw [List.length_append, List.length_take]; omega) hI
    have e : l.take (k + 1) = l.take k ++ [l.getD k 0] := by rw [List.take_add_one, List.getElem?_eq_getElem hk', List.getD_eq_getElem?_getD, List.getElem?_eq_getElem hk']; rfl
    rw [List.append_assoc, ← e] at h3
    exact h3.mono fun e W' h => ⟨h.1, h.2.1⟩
  have HI0 : Hid (I (xs ++ l.take 0) w) := by show I _ _; rw [List.take_zero, List.append_nil]; exact h0
  have HEND : Hid (∀ W, I (xs ++ l.take n) W → I (xs ++ l) W) := fun W h => by rw [← hn, List.take_length] at h; exact h
  rw [hn]
  clear hn hlen hE hl hfit h0
  go_enter Tryz.func83, Tryz.ntmps83
  go_wp2
  go_loopw [8] (fun i wr => ∃ k : Nat, k ≤ n ∧ i = .int .i64 k ∧ Hid (I (xs ++ l.take k) wr)) (fun i _ => n - (intOf i).toNat)
  case atStart => exact ⟨0, Nat.zero_le _, rfl, HI0⟩
  case round =>
    obtain ⟨k, hk, rfl, HI⟩ := hrel
    by_cases hlt : k < n
    · obtain ⟨b, rfl, hc, HC⟩ := HROW.out k wr hlt HI.out
      obtain ⟨y, hy⟩ : ∃ y, l.getD k 0 = y := ⟨_, rfl⟩
      rw [hy] at hc HC
      clear hy HI
      go_wp2_with fail
      refine Calls.mono HC.out ?_
      rintro e w1 ⟨rfl, h1⟩
      have H1 := Hid.out (p := Hid _) h1
      clear HC h1
      go_wp2_with fail
      go_roundw
      case rel => exact ⟨k + 1, by omega, by go_num, H1⟩
      case measure => simp [intOf]; omega
    · obtain rfl : k = n := by omega
      go_wp2
      go_end0
      exact ⟨rfl, HEND.out _ HI.out⟩
end

section
open Go.RowKit

/-- 'append([]T{}, l...)' of a row. -/
theorem app_srcG {T e : TypeId} {z : Value} {size bytes : Nat} (ht : Tryz.prog.underlying T = some (.slice e)) (hinfo : (Tryz.prog.info? e).map (fun i => (i.zero, i.size, i.bytes)) = some (some z, size, bytes)) (hzs : z.cells.size = size) (hsz : 0 < size) (W : World) {B' : Nat} {g0 c0 n : Nat} {xs : List Value} (hown : W.ownsRow B' e size (.slice (some ⟨g0, 0, none⟩) n c0) n xs) (h1 : ∀ u ∈ xs, u.oneCell' = true) (hn : n ≤ 1000000) (hby : bytes ≤ 1000) :
    ∃ g cap w3, (AppS #[T, T] T #[.slice (some ⟨W.heap.size, 0, none⟩) 0 0, .slice (some ⟨g0, 0, none⟩) n c0]).run Tryz.prog (W.alloc (.cells #[] e)) = .ok (.slice (some ⟨g, 0, none⟩) n cap) w3 ∧ w3.ownsRow W.heap.size e size (.slice (some ⟨g, 0, none⟩) n cap) n xs ∧ Below W.heap.size W w3 := by
  obtain ⟨i, hi, hz0, hz1, hz2⟩ := info_is hinfo
  have hmade := World.ownsRow_made (base := W.heap.size) (e := e) (size := size) W #[] 0 (Nat.le_refl _) (by decide) (by simp)
  have hbl : Below W.heap.size W (W.alloc (.cells #[] e)) := (Below.refl _ _).alloc (Nat.le_refl _) _
  have hcell : ∀ j u, xs[j]? = some u → (W.alloc (.cells #[] e)).cell? ((⟨g0, 0, none⟩ : Addr).add j) = some u := fun j u hu => by
    have := fam_cell hown (g := g0) rfl hu
    have hadd : (⟨g0, 0, none⟩ : Addr).add j = ⟨g0, j, none⟩ := by unfold Addr.add; split <;> simp_all
    rw [hadd]
    exact cell_up this _
  rcases Nat.eq_zero_or_pos n with h0 | h0
  · subst h0
    have hxs : xs = [] := List.eq_nil_of_length_eq_zero (by have := hown.1; simpa using this)
    subst hxs
    refine ⟨W.heap.size, 0, W.alloc (.cells #[] e), ?_, hmade, hbl⟩
    have hs : Src Tryz.prog i.size T (.slice (some ⟨g0, 0, none⟩) 0 c0) 0 [] (W.alloc (.cells #[] e)) := Src.ofSlice _ ht ⟨g0, 0, none⟩ 0 c0 [] (by simp) (fun j u h => by simp at h) (fun u h => by cases h)
    exact run_append_room_src (P := Tryz.prog) (W.alloc (.cells #[] e)) T T T e i ht hi W.heap.size 0 0 0 (.slice (some ⟨g0, 0, none⟩) 0 c0) 0 [] hs (Nat.le_refl _) (fun j h => by simp at h) (fun j h => by simp at h)
  · obtain ⟨g, cap, w3, r1, r2, r3, r4, r5⟩ := run_append_lies (P := Tryz.prog) (W.alloc (.cells #[] e)) T T W.heap.size e i z size bytes ht hi hz0 hz1 hz2 hzs hsz _ 0 [] hmade ⟨g0, 0, none⟩ n c0 xs hown.1 hcell h1 h0 (by unfold maxLen; omega) (by
      have : (0 + n) * bytes ≤ 1000000 * 1000 := Nat.mul_le_mul (by omega) hby
      omega) (by simp) (W.heap.size + 1) (by simp)
    rw [Nat.zero_add] at r1 r2
    refine ⟨g, cap, w3, r1, r2, hbl.grown r3 (by simp) (fun k hk => ?_)⟩
    have : W.heap.size = k := by simpa [Value.ownBlock] using hk
    omega
theorem infoSThr : (Tryz.prog.info? 86).map (fun i => (i.zero, i.size, i.bytes)) = some (some (.agg #[nilV, .int .i64 0, nilV]), 3, 56) := by kernel_rfl
attribute [local go_sem ↓] appS_eq in
set_option maxRecDepth 100000 in
set_option maxHeartbeats 1600000 in
theorem cloneT_any (w : World) (B : Nat) (v : Value) (n : Nat) (xs : List Value) (hown : w.ownsRow B 86 3 v n xs) (h1 : ∀ u ∈ xs, u.oneCell' = true) (hn : n ≤ 1000000) :
    Calls Tryz.prog 86 #[v] w fun e w' => ∃ u, e = .returned u ∧ w'.ownsRow w.heap.size 86 3 u n xs ∧ Below w.heap.size w w' := by
  rcases hown.2 with ⟨h0, h2⟩ | ⟨g, cap, cur, hv, _⟩
  · subst h0 h2
    have hxs : xs = [] := List.eq_nil_of_length_eq_zero (by have := hown.1; simpa using this)
    subst hxs
    have hne := fun W => Lib.run_eql_slice_nil (P := Tryz.prog) W 81 86 none 0 0 0 0 Tryz.underlying81
    clear hown h1
    go_enter Tryz.func86, Tryz.ntmps86
    go_wp2
    go_ret
    exact ⟨nilV, rfl, World.ownsRow_nil _ _ _ _, Below.refl _ _⟩
  · subst hv
    obtain ⟨g2, cap2, w3, r1, r2, r3⟩ := app_srcG Tryz.underlying81 infoSThr rfl (by omega) w hown h1 hn (by omega)
    have hne := fun W => Lib.run_eql_slice_nil (P := Tryz.prog) W 81 86 (some ⟨g, 0, none⟩) n cap 0 0 Tryz.underlying81
    have HR := Hid.out (p := Hid _) (And.intro r2 r3)
    clear hown h1 r2 r3
    go_enter Tryz.func86, Tryz.ntmps86
    go_wp2
    go_ret
    exact ⟨_, rfl, HR.out⟩

attribute [local go_sem ↓] appS_eq in
attribute [local go_sem ↓] appS_eq in
attribute [local go_sem ↓] appS_eq in
set_option maxRecDepth 100000 in
set_option maxHeartbeats 1600000 in
theorem cloneI_any (w : World) (B : Nat) (v : Value) (n : Nat) (xs : List Value) (hown : w.ownsRow B 3 1 v n xs) (h1 : ∀ u ∈ xs, u.oneCell' = true) (hn : n ≤ 1000000) :
    Calls Tryz.prog 36 #[v] w fun e w' => ∃ u, e = .returned u ∧ w'.ownsRow w.heap.size 3 1 u n xs ∧ Below w.heap.size w w' := by
  rcases hown.2 with ⟨h0, h2⟩ | ⟨g, cap, cur, hv, _⟩
  · subst h0 h2
    have hxs : xs = [] := List.eq_nil_of_length_eq_zero (by have := hown.1; simpa using this)
    subst hxs
    have hne := fun W => Lib.run_eql_slice_nil (P := Tryz.prog) W 23 3 none 0 0 0 0 Tryz.underlying23
    clear hown h1
    go_enter Tryz.func36, Tryz.ntmps36
    go_wp2
    go_ret
    exact ⟨nilV, rfl, World.ownsRow_nil _ _ _ _, Below.refl _ _⟩
  · subst hv
    obtain ⟨g2, cap2, w3, r1, r2, r3⟩ := app_srcG Tryz.underlying23 infoI rfl (by omega) w hown h1 hn (by omega)
    have hne := fun W => Lib.run_eql_slice_nil (P := Tryz.prog) W 23 3 (some ⟨g, 0, none⟩) n cap 0 0 Tryz.underlying23
    have HR := Hid.out (p := Hid _) (And.intro r2 r3)
    clear hown h1 r2 r3
    go_enter Tryz.func36, Tryz.ntmps36
    go_wp2
    go_ret
    exact ⟨_, rfl, HR.out⟩
end

section
open Go.RowKit

/-! An outcome put into its place, one behind the other. -/
theorem ins_end {o : Oc} : ∀ {l : List Oc}, (∀ x, x ∈ l → aheadO x o = true) → insO o l = l ++ [o]
  | [], _ => rfl
  | a :: l, h => by
    have h1 := h a (by simp)
    unfold insO
    rw [ahead_asym h1, h1, ins_end (fun x hx => h x (by simp [hx]))]
    rfl
theorem ins_mid {o x : Oc} {r : List Oc} (hx : aheadO o x = true) : ∀ {l : List Oc}, (∀ y, y ∈ l → aheadO y o = true) → insO o (l ++ x :: r) = l ++ o :: x :: r
  | [], _ => by
    show insO o (x :: r) = _
    unfold insO
    rw [hx]
    rfl
  | a :: l, h => by
    have h1 := h a (by simp)
    show insO o (a :: (l ++ x :: r)) = _
    unfold insO
    rw [ahead_asym h1, h1, ins_mid hx (fun y hy => h y (by simp [hy]))]
    rfl
theorem ins_in {o : Oc} {r : List Oc} : ∀ {l : List Oc}, (∀ y, y ∈ l → aheadO y o = true) → insO o (l ++ o :: r) = l ++ o :: r
  | [], _ => by
    show insO o (o :: r) = _
    unfold insO
    rw [ahead_irr]
    rfl
  | a :: l, h => by
    have h1 := h a (by simp)
    show insO o (a :: (l ++ o :: r)) = _
    unfold insO
    rw [ahead_asym h1, h1, ins_in (fun y hy => h y (by simp [hy]))]
    rfl
/-- What has been written so far, of the first k. -/
def putK (o : Oc) (l : List Oc) (done : Bool) (k : Nat) : List Oc := if done then insO o (l.take k) else l.take k
structure PutI (o : Oc) (l : List Oc) (done : Bool) (k : Nat) : Prop where
  no : done = false → ∀ x, x ∈ l.take k → aheadO x o = true
  yes : done = true → ∃ l1 x l2, l.take k = l1 ++ x :: l2 ∧ aheadO o x = true ∧ ∀ y, y ∈ l1 → aheadO y o = true
theorem PutI.start (o : Oc) (l : List Oc) : PutI o l false 0 := ⟨fun _ x hx => (by cases hx), fun h => (by cases h)⟩
section
variable {o : Oc} {l : List Oc} {k : Nat}
theorem take_next (hk : k < l.length) : l.take (k + 1) = l.take k ++ [l.getD k default] := by
  rw [List.take_add_one, List.getElem?_eq_getElem hk, List.getD_eq_getElem?_getD, List.getElem?_eq_getElem hk]
  rfl
theorem PutI.later {done : Bool} (h : PutI o l done k) (hk : k < l.length) (hd : done = true) : PutI o l true (k + 1) ∧ putK o l true (k + 1) = putK o l done k ++ [l.getD k default] := by
  obtain ⟨l1, x, l2, e, hx, hy⟩ := h.yes hd
  have e2 : l.take (k + 1) = l1 ++ x :: (l2 ++ [l.getD k default]) := by rw [take_next hk, e]; simp
  refine ⟨⟨fun h => (by cases h), fun _ => ⟨l1, x, _, e2, hx, hy⟩⟩, ?_⟩
  unfold putK
  rw [if_pos rfl, if_pos hd, e2, e, ins_mid hx hy, ins_mid hx hy]
  simp
theorem PutI.now (h : PutI o l false k) (hk : k < l.length) (ho : aheadO o (l.getD k default) = true) : PutI o l true (k + 1) ∧ putK o l true (k + 1) = putK o l false k ++ [o] ++ [l.getD k default] := by
  refine ⟨⟨fun h => (by cases h), fun _ => ⟨l.take k, _, [], take_next hk, ho, h.no rfl⟩⟩, ?_⟩
  unfold putK
  rw [if_pos rfl, if_neg (by simp), take_next hk, ins_mid ho (h.no rfl)]
  simp
theorem PutI.skip (h : PutI o l false k) (hk : k < l.length) (ho : aheadO (l.getD k default) o = true) : PutI o l false (k + 1) ∧ putK o l false (k + 1) = putK o l false k ++ [l.getD k default] := by
  refine ⟨⟨fun _ x hx => ?_, fun h => by cases h⟩, ?_⟩
  · rw [take_next hk] at hx
    rcases List.mem_append.mp hx with hx | hx
    · exact h.no rfl x hx
    · rw [List.mem_singleton.mp hx]; exact ho
  · unfold putK
    rw [if_neg (by simp), if_neg (by simp), take_next hk]
/-- One that is there already. -/
theorem PutI.there {done : Bool} (h : PutI o l done k) (hs : SortedO l) (hk : k < l.length) (h1 : aheadO o (l.getD k default) = false) (h2 : aheadO (l.getD k default) o = false) : insO o l = l := by
  have e := ahead_tri h1 h2
  have hd : l = l.take k ++ l.getD k default :: l.drop (k + 1) := by
    have := List.take_append_drop (k + 1) l
    rw [take_next hk, List.append_assoc] at this
    exact this.symm
  cases done with
  | false =>
    rw [hd, ← e]
    exact ins_in (h.no rfl)
  | true =>
    obtain ⟨l1, x, l2, e3, hx, hy⟩ := h.yes rfl
    have hp : SortedO l := hs
    rw [hd, e3, SortedO, List.pairwise_append] at hp
    have := hp.2.2 x (by simp) (l.getD k default) (by simp)
    rw [← e, ahead_asym hx] at this
    cases this
theorem PutI.last {done : Bool} (h : PutI o l done l.length) : insO o l = if done then putK o l true l.length else putK o l false l.length ++ [o] := by
  cases done with
  | false =>
    have := h.no rfl
    rw [List.take_length] at this
    rw [if_neg (by simp), ins_end this]
    unfold putK
    rw [if_neg (by simp), List.take_length]
  | true =>
    rw [if_pos rfl]
    unfold putK
    rw [if_pos rfl, List.take_length]
end
end

end Go.Proofs.YtipdnfpomdcenacGreatDoor
