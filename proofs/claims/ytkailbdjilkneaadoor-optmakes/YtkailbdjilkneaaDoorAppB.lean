/-
  Rows of numbers; 'append', as it is run on rows that the call made.
  'append(l, r...)' of a row that the call made, whatever it holds; orders in rows.
  A copy of a list of numbers, by the program.
-/
import Derived.Test.YtkailbdjilkneaaDoorPlain
import Derived.Deep.AppendSrc
import Derived.Test.YtkailbdjilkneaaDoorInProg
import Derived.WalkKit
import Derived.WalkSpells
import Derived.WalkLawsBesides
import Derived.Lib.SmallJoins
namespace Go.Proofs.YtkailbdjilkneaaDoor
section
open Go.RowKit

def intsV (l : List Int) : List Value := l.map (Value.int .i64)
theorem intsV_at {l : List Int} {i : Nat} (h : i < l.length) : (intsV l)[i]? = some (.int .i64 (l.getD i 0)) := by
  unfold intsV
  rw [List.getElem?_map, List.getElem?_eq_getElem h]
  simp [List.getD, List.getElem?_eq_getElem h]
theorem intsV_set (l : List Int) (i : Nat) (x : Int) : intsV (l.set i x) = (intsV l).set i (.int .i64 x) := by simp [intsV, List.map_set]
theorem intsV_len (l : List Int) : (intsV l).length = l.length := by simp [intsV]
theorem infoI : (Tryd.prog.info? 3).map (fun i => (i.zero, i.size, i.bytes)) = some (some (.int .i64 0), 1, 8) := by kernel_rfl
/-- A list of numbers that came in, as it is read. -/
def SIs (w : World) (a : Option Addr) (l : List Int) : Prop := ∀ i, i < l.length → ∃ b o, a = some ⟨b, o, none⟩ ∧ w.cell? ⟨b, o + i, none⟩ = some (.int .i64 (l.getD i 0))
theorem SIs.below {w w1 : World} {a : Option Addr} {l : List Int} (h : SIs w a l) (hb : Below w.heap.size w w1) : SIs w1 a l := fun i hi => by
  obtain ⟨b, o, e, h1⟩ := h i hi
  exact ⟨b, o, e, (hb.cell (lt_of_cell h1)).trans h1⟩
theorem intsV_one (l : List Int) : ∀ u ∈ intsV l, u.oneCell' = true := fun u hu => by
  simp only [intsV, List.mem_map] at hu
  obtain ⟨x, _, rfl⟩ := hu
  rfl
/-- 'append([]int{}, l...)'. -/
theorem app_src (W : World) (B : Nat) (hB : B ≤ W.heap.size) (sa : Option Addr) (l : List Int) (c : Nat) (hsrc : SIs W sa l) (hl : l.length * 8 ≤ 140737488355328) :
    ∃ g cap w3, (AppS #[23, 23] 23 #[.slice (some ⟨W.heap.size, 0, none⟩) 0 0, .slice sa l.length c]).run Tryd.prog (W.alloc (.cells #[] 3)) = .ok (.slice (some ⟨g, 0, none⟩) l.length cap) w3 ∧ w3.ownsRow B 3 1 (.slice (some ⟨g, 0, none⟩) l.length cap) l.length (intsV l) ∧ (W.alloc (.cells #[] 3)).grownBy w3 (some W.heap.size) ∧ W.heap.size ≤ g ∧ g < w3.heap.size := by
  obtain ⟨i, hi, hz0, hz1, hz2⟩ := info_is infoI
  have hown := World.ownsRow_made (base := B) (e := 3) (size := 1) W #[] 0 hB (by decide) rfl
  cases l with
  | nil =>
    refine ⟨W.heap.size, 0, W.alloc (.cells #[] 3), ?_, hown, ⟨rfl, rfl, rfl, Nat.le_refl _, fun _ _ _ => rfl⟩, Nat.le_refl _, by simp⟩
    have hs : Src Tryd.prog i.size 23 (.slice sa 0 c) 0 [] (W.alloc (.cells #[] 3)) := by
      cases sa with
      | none => exact Src.ofNil _ Tryd.underlying23 c
      | some a => exact Src.ofSlice _ Tryd.underlying23 a 0 c [] (by simp) (fun j u h => by simp at h) (fun u h => by cases h)
    have := run_append_room_src (P := Tryd.prog) (W.alloc (.cells #[] 3)) 23 23 23 3 i Tryd.underlying23 hi W.heap.size 0 0 0 (.slice sa 0 c) 0 [] hs (Nat.le_refl _) (fun j h => by simp at h) (fun j h => by simp at h)
    exact this
  | cons x r =>
    obtain ⟨b, o, rfl, _⟩ := hsrc 0 (by simp)
    have hnews : ∀ j u, (intsV (x :: r))[j]? = some u → (W.alloc (.cells #[] 3)).cell? ((⟨b, o, none⟩ : Addr).add j) = some u := fun j u hu => by
      have hj : j < (x :: r).length := by
        rcases Nat.lt_or_ge j (x :: r).length with h | h
        · exact h
        · rw [List.getElem?_eq_none (by rw [intsV_len]; exact h)] at hu; cases hu
      obtain ⟨b', o', e, h1⟩ := hsrc j hj
      simp only [Option.some.injEq, Addr.mk.injEq, and_true] at e
      obtain ⟨rfl, rfl⟩ := e
      have hadd : (⟨b, o, none⟩ : Addr).add j = ⟨b, o + j, none⟩ := by unfold Addr.add; split <;> simp_all
      rw [intsV_at hj] at hu
      rw [hadd, cell_up h1]
      exact hu
    obtain ⟨g, cap, w3, r1, r2, r3, r4, r5⟩ := run_append_lies (P := Tryd.prog) (W.alloc (.cells #[] 3)) 23 23 B 3 i _ 1 8 Tryd.underlying23 hi hz0 hz1 hz2 rfl (by omega) _ 0 [] hown ⟨b, o, none⟩ (x :: r).length c (intsV (x :: r)) (by rw [intsV_len]; omega) hnews (intsV_one _) (by simp) (by unfold maxLen; omega) (by omega) (by simp; omega) (W.heap.size + 1) (by simp)
    rw [Nat.zero_add] at r1 r2
    refine ⟨g, cap, w3, r1, r2, r3, ?_, r5⟩
    rcases r4 with r4 | r4
    · have : W.heap.size = g := by simpa [Value.ownBlock] using r4
      omega
    · omega
end

section
open Go.RowKit

/-- A slice that lies in memory: its cells. -/
def SrcL (w : World) (sa : Option Addr) (xs : List Value) : Prop := ∀ j u, xs[j]? = some u → ∃ b o, sa = some ⟨b, o, none⟩ ∧ w.cell? ⟨b, o + j, none⟩ = some u
theorem SrcL.below {w w' : World} {sa : Option Addr} {xs : List Value} (h : SrcL w sa xs) (hb : Below w.heap.size w w') : SrcL w' sa xs := fun j u hj => by
  obtain ⟨b, o, e, h1⟩ := h j u hj
  exact ⟨b, o, e, (hb.cell (lt_of_cell h1)).trans h1⟩
theorem srcL_nil (w : World) (sa : Option Addr) : SrcL w sa [] := fun j u h => by simp at h
/-- A new block's cells. -/
theorem srcL_block {w : World} {g : Nat} {cs : Array Value} {e : TypeId} {fr : Nat × Nat} (h : w.heap[g]? = some (.cells cs e fr)) : SrcL w (some ⟨g, 0, none⟩) cs.toList := fun j u hj => by
  refine ⟨g, 0, rfl, ?_⟩
  have := World.news_of_block (cs := cs) (t := e) (fr := fr) h j u hj
  have hadd : (⟨g, 0, none⟩ : Addr).add j = ⟨g, 0 + j, none⟩ := by unfold Addr.add; split <;> simp_all
  rw [hadd] at this
  exact this
theorem app_lie {T e : TypeId} {z : Value} {size bytes : Nat} (ht : Tryd.prog.underlying T = some (.slice e)) (hinfo : (Tryd.prog.info? e).map (fun i => (i.zero, i.size, i.bytes)) = some (some z, size, bytes)) (hzs : z.cells.size = size) (hsz : 0 < size)
    {w : World} {B : Nat} {v : Value} {n : Nat} {xs : List Value} (hown : w.ownsRow B e size v n xs) (hB : B ≤ w.heap.size) (sa : Option Addr) (m c : Nat) (news : List Value) (hl : news.length = m * size) (hsrc : SrcL w sa news) (h1 : ∀ u ∈ news, u.oneCell' = true) (h63 : n + m ≤ 1000000) (hby : bytes ≤ 1000) :
    ∃ v' w3, (AppS #[T, T] T #[v, .slice sa m c]).run Tryd.prog w = .ok v' w3 ∧ w3.ownsRow B e size v' (n + m) (xs ++ news) ∧ w.grownBy w3 v.ownBlock ∧ (v'.ownBlock = v.ownBlock ∨ v'.ownBlock = some w.heap.size) := by
  obtain ⟨i, hi, hz0, hz1, hz2⟩ := info_is hinfo
  have hbig : (n + m) * bytes ≤ 140737488355328 := by
    have : (n + m) * bytes ≤ 1000000 * 1000 := Nat.mul_le_mul h63 hby
    omega
  cases sa with
  | some a =>
    have hnews : ∀ j u, news[j]? = some u → w.cell? (a.add j) = some u := fun j u hj => by
      obtain ⟨b, o, ea, hc⟩ := hsrc j u hj
      simp only [Option.some.injEq] at ea
      subst ea
      have hadd : (⟨b, o, none⟩ : Addr).add j = ⟨b, o + j, none⟩ := by unfold Addr.add; split <;> simp_all
      rw [hadd]
      exact hc
    obtain ⟨v', w', r1, r2, r3, _, r5⟩ := run_append_own_at (P := Tryd.prog) w B T T e i z size bytes ht hi hz0 hz1 hz2 hzs hsz v n xs hown a m c news hl hnews h1 (by unfold maxLen; omega) hbig hB
    exact ⟨v', w', r1, r2, r3, r5⟩
  | none =>
    have hnil : news = [] := by
      cases news with
      | nil => rfl
      | cons x r =>
        obtain ⟨b, o, ea, _⟩ := hsrc 0 x rfl
        cases ea
    subst hnil
    have hm : m = 0 := by
      rcases Nat.eq_zero_or_pos m with h | h
      · exact h
      · have : 0 < m * size := Nat.mul_pos h hsz
        rw [← hl] at this
        cases this
    subst hm
    rw [List.append_nil, Nat.add_zero]
    refine ⟨v, w, ?_, hown, ⟨rfl, rfl, rfl, Nat.le_refl _, fun _ _ _ => rfl⟩, Or.inl rfl⟩
    have hs : Src Tryd.prog i.size T (.slice none 0 c) 0 [] w := Src.ofNil _ ht c
    rcases hown.2 with ⟨rfl, rfl⟩ | ⟨g, cap, cur, rfl, hbg, hg, hnc, hcm, hcs, htake⟩
    · show (Builtin.append_ #[T, T] T #[.slice none 0 0, .slice none 0 c]).run Tryd.prog w = _
      simp [Builtin.append_, run_underlying ht, sizeOf, typeInfo, hi, Builtin.lenOf, Builtin.firstCells]
    · have := run_append_room_src (P := Tryd.prog) w T T T e i ht hi g 0 n cap (.slice none 0 c) 0 [] hs hnc (fun j h => by simp at h) (fun j h => by simp at h)
      exact this
theorem infoO : (Tryd.prog.info? 44).map (fun i => (i.zero, i.size, i.bytes)) = some (some (.agg #[.int .i64 0, .int .i64 0, .int .i64 0, .int .i64 0]), 4, 32) := by kernel_rfl
theorem infoOs : (Tryd.prog.info? 45).map (fun i => (i.zero, i.size, i.bytes)) = some (some nilV, 1, 24) := by kernel_rfl
theorem cells4_one (l : List I4) : ∀ u ∈ cellsT l, u.oneCell' = true := fun u hu => by
  unfold cellsT at hu
  rw [List.mem_flatMap] at hu
  obtain ⟨x, _, hx⟩ := hu
  simp only [cells4, List.mem_cons, List.not_mem_nil, or_false] at hx
  rcases hx with rfl | rfl | rfl | rfl <;> rfl
theorem cellsT_append (l r : List I4) : cellsT (l ++ r) = cellsT l ++ cellsT r := by simp [cellsT]
/-- An order's cells. -/
theorem cellsT_at : ∀ {l : List I4} {i : Nat}, i < l.length → ∀ d, (cellsT l)[i * 4]? = some (.int .i64 (l.getD i d).1) ∧ (cellsT l)[i * 4 + 1]? = some (.int .i64 (l.getD i d).2.1) ∧ (cellsT l)[i * 4 + 2]? = some (.int .i64 (l.getD i d).2.2.1) ∧ (cellsT l)[i * 4 + 3]? = some (.int .i64 (l.getD i d).2.2.2)
  | [], i, h, _ => absurd h (Nat.not_lt_zero _)
  | x :: l, 0, _, _ => ⟨rfl, rfl, rfl, rfl⟩
  | x :: l, i + 1, h, d => by
    have := cellsT_at (l := l) (i := i) (by simpa using h) d
    have e : ∀ k, (cellsT (x :: l))[(i + 1) * 4 + k]? = (cellsT l)[i * 4 + k]? := fun k => by
      rw [show (i + 1) * 4 + k = (i * 4 + k) + 4 by omega]
      rfl
    have e0 := e 0
    rw [Nat.add_zero, Nat.add_zero] at e0
    rw [e0, e 1, e 2, e 3]
    exact this
/-- One order is set. -/
theorem cellsT_set : ∀ {l : List I4} {i : Nat} {x : I4}, i < l.length → ((((cellsT l).set (i * 4) (.int .i64 x.1)).set (i * 4 + 1) (.int .i64 x.2.1)).set (i * 4 + 2) (.int .i64 x.2.2.1)).set (i * 4 + 3) (.int .i64 x.2.2.2) = cellsT (l.set i x)
  | [], i, _, h => absurd h (Nat.not_lt_zero _)
  | y :: l, 0, x, _ => rfl
  | y :: l, i + 1, x, h => by
    have := cellsT_set (l := l) (i := i) (x := x) (by simpa using h)
    have e : cellsT (y :: l) = cells4 y ++ cellsT l := rfl
    have e2 : cellsT ((y :: l).set (i + 1) x) = cells4 y ++ cellsT (l.set i x) := rfl
    rw [e, e2, ← this]
    have e3 : ∀ (r : List Value) k u, (cells4 y ++ r).set ((i + 1) * 4 + k) u = cells4 y ++ r.set (i * 4 + k) u := fun r k u => by
      rw [show (i + 1) * 4 + k = (i * 4 + k) + 4 by omega]
      rfl
    have e4 := fun r u => e3 r 0 u
    simp only [Nat.add_zero] at e4
    rw [e4, e3, e3, e3]
/-- Orders that the call made. -/
def OwnC (w : World) (B : Nat) (v : Value) (l : List I4) : Prop := w.ownsRow B 44 4 v l.length (cellsT l)
theorem OwnC.below {w w' : World} {B : Nat} {v : Value} {l : List I4} (h : OwnC w B v l) (hb : Below w.heap.size w w') : OwnC w' B v l := owns_below2 h hb
/-- More orders behind them. -/
theorem app_code {w : World} {B : Nat} {v : Value} {l : List I4} (h : OwnC w B v l) (hB : B ≤ w.heap.size) (sa : Option Addr) (c : Nat) (r : List I4) (hs : SrcL w sa (cellsT r)) (hl : l.length + r.length ≤ 1000000) :
    ∃ v' w3, (AppS #[45, 45] 45 #[v, .slice sa r.length c]).run Tryd.prog w = .ok v' w3 ∧ OwnC w3 B v' (l ++ r) ∧ w.grownBy w3 v.ownBlock ∧ (v'.ownBlock = v.ownBlock ∨ v'.ownBlock = some w.heap.size) := by
  obtain ⟨v', w3, h1, h2, h3, h4⟩ := app_lie (T := 45) Tryd.underlying45 infoO rfl (by omega) h hB sa r.length c (cellsT r) (cellsT_len r) hs (cells4_one r) hl (by omega)
  refine ⟨v', w3, h1, ?_, h3, h4⟩
  unfold OwnC
  rw [List.length_append, cellsT_append]
  exact h2
end

section
open Go.RowKit

attribute [local go_sem ↓] appS_eq
set_option maxRecDepth 100000 in
set_option maxHeartbeats 1600000 in
theorem clone_some (w : World) (sa : Addr) (l : List Int) (c : Nat) (h : SIs w (some sa) l) (hl : l.length * 8 ≤ 140737488355328) :
    Calls Tryd.prog 90 #[.slice (some sa) l.length c] w fun e w' => ∃ g cap, e = .returned (.slice (some ⟨g, 0, none⟩) l.length cap) ∧ w.heap.size ≤ g ∧ w'.ownsRow w.heap.size 3 1 (.slice (some ⟨g, 0, none⟩) l.length cap) l.length (intsV l) ∧ Below w.heap.size w w' := by
  obtain ⟨g, cap, w3, r1, r2, r3, r4, _⟩ := app_src w w.heap.size (Nat.le_refl _) (some sa) l c h hl
  have HF : Hid (Below w.heap.size w w3) := ((Below.refl _ _).alloc (Nat.le_refl _) _).grown r3 (by simp) (fun k hk => by simp at hk; omega)
  have hne := fun W => Lib.run_eql_slice_nil (P := Tryd.prog) W 23 3 (some sa) l.length c 0 0 Tryd.underlying23
  obtain ⟨m, hm⟩ : ∃ m, l.length = m := ⟨_, rfl⟩
  rw [hm] at r1 r2 hne ⊢
  clear h hl r3 hm
  go_enter Tryd.func90, Tryd.ntmps90
  go_wp2
  go_ret
  exact ⟨g, cap, rfl, r4, r2, HF.out⟩
set_option maxRecDepth 100000 in
set_option maxHeartbeats 1600000 in
theorem clone_nil (w : World) : Calls Tryd.prog 90 #[nilV] w fun e w' => e = .returned nilV ∧ w = w' := by
  have hne := fun W => Lib.run_eql_slice_nil (P := Tryd.prog) W 23 3 none 0 0 0 0 Tryd.underlying23
  go_enter Tryd.func90, Tryd.ntmps90
  go_wp2
  go_ret
  exact ⟨rfl, rfl⟩
/-- A copy of a list. -/
theorem clone_any (w : World) (sa : Option Addr) (l : List Int) (c : Nat) (h : SIs w sa l) (hnil : sa = none → l = [] ∧ c = 0) (hl : l.length * 8 ≤ 140737488355328) :
    Calls Tryd.prog 90 #[.slice sa l.length c] w fun e w' => ∃ a cap, e = .returned (.slice a l.length cap) ∧ w'.ownsRow w.heap.size 3 1 (.slice a l.length cap) l.length (intsV l) ∧ Below w.heap.size w w' := by
  cases sa with
  | none =>
    obtain ⟨rfl, rfl⟩ := hnil rfl
    refine (clone_nil w).mono fun e w' h => ⟨none, 0, h.1, World.ownsRow_nil _ _ _ _, ?_⟩
    rw [← h.2]; exact Below.refl _ _
  | some a => exact (clone_some w a l c h hl).mono fun e w' ⟨g, cap, h1, _, h3, h4⟩ => ⟨_, cap, h1, h3, h4⟩
end

end Go.Proofs.YtkailbdjilkneaaDoor
