/-
  'append(l, r...)' of a row that the call made, whatever it holds; orders in rows.
-/
import Derived.Test.YtocfocjnnjdcgaaDoorInProg
import Derived.Test.YtocfocjnnjdcgaaDoorAppB
namespace Go.Proofs.YtocfocjnnjdcgaaDoor
open Go.RowKit

/-- A slice that lies in memory: its cells. -/
def SrcL (w : World) (sa : Option Addr) (xs : List Value) : Prop := ∀ j u, xs[j]? = some u → ∃ b o, sa = some ⟨b, o, none⟩ ∧ w.cell? ⟨b, o + j, none⟩ = some u
theorem SrcL.below {w w' : World} {sa : Option Addr} {xs : List Value} (h : SrcL w sa xs) (hb : Below w.heap.size w w') : SrcL w' sa xs := fun j u hj => by
  obtain ⟨b, o, e, h1⟩ := h j u hj
  exact ⟨b, o, e, (hb.cell (lt_of_cell h1)).trans h1⟩
theorem srcL_nil (w : World) (sa : Option Addr) : SrcL w sa [] := fun j u h => by simp at h
/-- A new block's cells. -/
theorem srcL_block {w : World} {g : Nat} {cs : Array Value} {e : TypeId} {fr : Nat × Nat} (h : w.heap[g]? = some (.cells cs e fr)) : SrcL w (some ⟨g, 0, none⟩) cs.toList := fun j u hj => by
  refine ⟨g, 0, rfl, ?_⟩
  have := World.news_of_block (cs := cs) (t := e) (fr := fr) h j u hj
  have hadd : (⟨g, 0, none⟩ : Addr).add j = ⟨g, 0 + j, none⟩ := by unfold Addr.add; split <;> simp_all
  rw [hadd] at this
  exact this
theorem app_lie {T e : TypeId} {z : Value} {size bytes : Nat} (ht : Tryd.prog.underlying T = some (.slice e)) (hinfo : (Tryd.prog.info? e).map (fun i => (i.zero, i.size, i.bytes)) = some (some z, size, bytes)) (hzs : z.cells.size = size) (hsz : 0 < size)
    {w : World} {B : Nat} {v : Value} {n : Nat} {xs : List Value} (hown : w.ownsRow B e size v n xs) (hB : B ≤ w.heap.size) (sa : Option Addr) (m c : Nat) (news : List Value) (hl : news.length = m * size) (hsrc : SrcL w sa news) (h1 : ∀ u ∈ news, u.oneCell' = true) (h63 : n + m ≤ 1000000) (hby : bytes ≤ 1000) :
    ∃ v' w3, (AppS #[T, T] T #[v, .slice sa m c]).run Tryd.prog w = .ok v' w3 ∧ w3.ownsRow B e size v' (n + m) (xs ++ news) ∧ w.grownBy w3 v.ownBlock ∧ (v'.ownBlock = v.ownBlock ∨ v'.ownBlock = some w.heap.size) := by
  obtain ⟨i, hi, hz0, hz1, hz2⟩ := info_is hinfo
  have hbig : (n + m) * bytes ≤ 140737488355328 := by
    have : (n + m) * bytes ≤ 1000000 * 1000 := Nat.mul_le_mul h63 hby
    omega
  cases sa with
  | some a =>
    have hnews : ∀ j u, news[j]? = some u → w.cell? (a.add j) = some u := fun j u hj => by
      obtain ⟨b, o, ea, hc⟩ := hsrc j u hj
      simp only [Option.some.injEq] at ea
      subst ea
      have hadd : (⟨b, o, none⟩ : Addr).add j = ⟨b, o + j, none⟩ := by unfold Addr.add; split <;> simp_all
      rw [hadd]
      exact hc
    obtain ⟨v', w', r1, r2, r3, _, r5⟩ := run_append_own_at (P := Tryd.prog) w B T T e i z size bytes ht hi hz0 hz1 hz2 hzs hsz v n xs hown a m c news hl hnews h1 (by unfold maxLen; omega) hbig hB
    exact ⟨v', w', r1, r2, r3, r5⟩
  | none =>
    have hnil : news = [] := by
      cases news with
      | nil => rfl
      | cons x r =>
        obtain ⟨b, o, ea, _⟩ := hsrc 0 x rfl
        cases ea
    subst hnil
    have hm : m = 0 := by
      rcases Nat.eq_zero_or_pos m with h | h
      · exact h
      · have : 0 < m * size := Nat.mul_pos h hsz
        rw [← hl] at this
        cases this
    subst hm
    rw [List.append_nil, Nat.add_zero]
    refine ⟨v, w, ?_, hown, ⟨rfl, rfl, rfl, Nat.le_refl _, fun _ _ _ => rfl⟩, Or.inl rfl⟩
    have hs : Src Tryd.prog i.size T (.slice none 0 c) 0 [] w := Src.ofNil _ ht c
    rcases hown.2 with ⟨rfl, rfl⟩ | ⟨g, cap, cur, rfl, hbg, hg, hnc, hcm, hcs, htake⟩
    · show (Builtin.append_ #[T, T] T #[.slice none 0 0, .slice none 0 c]).run Tryd.prog w = _
      simp [Builtin.append_, run_underlying ht, sizeOf, typeInfo, hi, Builtin.lenOf, Builtin.firstCells]
    · have := run_append_room_src (P := Tryd.prog) w T T T e i ht hi g 0 n cap (.slice none 0 c) 0 [] hs hnc (fun j h => by simp at h) (fun j h => by simp at h)
      exact this
theorem infoO : (Tryd.prog.info? 55).map (fun i => (i.zero, i.size, i.bytes)) = some (some (.agg #[.int .i64 0, .int .i64 0, .int .i64 0, .int .i64 0]), 4, 32) := by kernel_rfl
theorem infoOs : (Tryd.prog.info? 36).map (fun i => (i.zero, i.size, i.bytes)) = some (some nilV, 1, 24) := by kernel_rfl
theorem cells4_one (l : List I4) : ∀ u ∈ cellsT l, u.oneCell' = true := fun u hu => by
  unfold cellsT at hu
  rw [List.mem_flatMap] at hu
  obtain ⟨x, _, hx⟩ := hu
  simp only [cells4, List.mem_cons, List.not_mem_nil, or_false] at hx
  rcases hx with rfl | rfl | rfl | rfl <;> rfl
theorem cellsT_append (l r : List I4) : cellsT (l ++ r) = cellsT l ++ cellsT r := by simp [cellsT]
/-- An order's cells. -/
theorem cellsT_at : ∀ {l : List I4} {i : Nat}, i < l.length → ∀ d, (cellsT l)[i * 4]? = some (.int .i64 (l.getD i d).1) ∧ (cellsT l)[i * 4 + 1]? = some (.int .i64 (l.getD i d).2.1) ∧ (cellsT l)[i * 4 + 2]? = some (.int .i64 (l.getD i d).2.2.1) ∧ (cellsT l)[i * 4 + 3]? = some (.int .i64 (l.getD i d).2.2.2)
  | [], i, h, _ => absurd h (Nat.not_lt_zero _)
  | x :: l, 0, _, _ => ⟨rfl, rfl, rfl, rfl⟩
  | x :: l, i + 1, h, d => by
    have := cellsT_at (l := l) (i := i) (by simpa using h) d
    have e : ∀ k, (cellsT (x :: l))[(i + 1) * 4 + k]? = (cellsT l)[i * 4 + k]? := fun k => by
      rw [show (i + 1) * 4 + k = (i * 4 + k) + 4 by omega]
      rfl
    have e0 := e 0
    rw [Nat.add_zero, Nat.add_zero] at e0
    rw [e0, e 1, e 2, e 3]
    exact this
/-- One order is set. -/
theorem cellsT_set : ∀ {l : List I4} {i : Nat} {x : I4}, i < l.length → ((((cellsT l).set (i * 4) (.int .i64 x.1)).set (i * 4 + 1) (.int .i64 x.2.1)).set (i * 4 + 2) (.int .i64 x.2.2.1)).set (i * 4 + 3) (.int .i64 x.2.2.2) = cellsT (l.set i x)
  | [], i, _, h => absurd h (Nat.not_lt_zero _)
  | y :: l, 0, x, _ => rfl
  | y :: l, i + 1, x, h => by
    have := cellsT_set (l := l) (i := i) (x := x) (by simpa using h)
    have e : cellsT (y :: l) = cells4 y ++ cellsT l := rfl
    have e2 : cellsT ((y :: l).set (i + 1) x) = cells4 y ++ cellsT (l.set i x) := rfl
    rw [e, e2, ← this]
    have e3 : ∀ (r : List Value) k u, (cells4 y ++ r).set ((i + 1) * 4 + k) u = cells4 y ++ r.set (i * 4 + k) u := fun r k u => by
      rw [show (i + 1) * 4 + k = (i * 4 + k) + 4 by omega]
      rfl
    have e4 := fun r u => e3 r 0 u
    simp only [Nat.add_zero] at e4
    rw [e4, e3, e3, e3]
/-- Orders that the call made. -/
def OwnC (w : World) (B : Nat) (v : Value) (l : List I4) : Prop := w.ownsRow B 55 4 v l.length (cellsT l)
theorem OwnC.below {w w' : World} {B : Nat} {v : Value} {l : List I4} (h : OwnC w B v l) (hb : Below w.heap.size w w') : OwnC w' B v l := owns_below2 h hb
/-- More orders behind them. -/
theorem app_code {w : World} {B : Nat} {v : Value} {l : List I4} (h : OwnC w B v l) (hB : B ≤ w.heap.size) (sa : Option Addr) (c : Nat) (r : List I4) (hs : SrcL w sa (cellsT r)) (hl : l.length + r.length ≤ 1000000) :
    ∃ v' w3, (AppS #[36, 36] 36 #[v, .slice sa r.length c]).run Tryd.prog w = .ok v' w3 ∧ OwnC w3 B v' (l ++ r) ∧ w.grownBy w3 v.ownBlock ∧ (v'.ownBlock = v.ownBlock ∨ v'.ownBlock = some w.heap.size) := by
  obtain ⟨v', w3, h1, h2, h3, h4⟩ := app_lie (T := 36) Tryd.underlying36 infoO rfl (by omega) h hB sa r.length c (cellsT r) (cellsT_len r) hs (cells4_one r) hl (by omega)
  refine ⟨v', w3, h1, ?_, h3, h4⟩
  unfold OwnC
  rw [List.length_append, cellsT_append]
  exact h2

end Go.Proofs.YtocfocjnnjdcgaaDoor
