/-
  'append(l, r...)' of a row that the call made, whatever it holds; orders in rows.
  Places in memory, and lists of them that are made.
  A range over a function that hands on lists of places: what holds is told of the lists that are left.
-/
import Derived.Test.YtelckcpjmekgcadGreatDoorPChk
import Derived.Test.YtelckcpjmekgcadGreatDoorInProg
import Derived.Test.YtelckcpjmekgcadGreatDoorFewP
import Derived.RangeFuncFrom
import Derived.RangeFuncNested
import Derived.RangeFuncBound
import Derived.RangeFuncCalls
import Derived.RangeFuncLeaves
import Derived.RangeFuncBox
namespace Go.Proofs.YtelckcpjmekgcadGreatDoor
section
open Go.RowKit

/-- A slice that lies in memory: its cells. -/
def SrcL (w : World) (sa : Option Addr) (xs : List Value) : Prop := ∀ j u, xs[j]? = some u → ∃ b o, sa = some ⟨b, o, none⟩ ∧ w.cell? ⟨b, o + j, none⟩ = some u
/-- A new block's cells. -/
theorem srcL_block {w : World} {g : Nat} {cs : Array Value} {e : TypeId} {fr : Nat × Nat} (h : w.heap[g]? = some (.cells cs e fr)) : SrcL w (some ⟨g, 0, none⟩) cs.toList := fun j u hj => by
  refine ⟨g, 0, rfl, ?_⟩
  have := World.news_of_block (cs := cs) (t := e) (fr := fr) h j u hj
  have hadd : (⟨g, 0, none⟩ : Addr).add j = ⟨g, 0 + j, none⟩ := by unfold Addr.add; split <;> simp_all
  rw [hadd] at this
  exact this
theorem app_lie {T e : TypeId} {z : Value} {size bytes : Nat} (ht : Tryz.prog.underlying T = some (.slice e)) (hinfo : (Tryz.prog.info? e).map (fun i => (i.zero, i.size, i.bytes)) = some (some z, size, bytes)) (hzs : z.cells.size = size) (hsz : 0 < size)
    {w : World} {B : Nat} {v : Value} {n : Nat} {xs : List Value} (hown : w.ownsRow B e size v n xs) (hB : B ≤ w.heap.size) (sa : Option Addr) (m c : Nat) (news : List Value) (hl : news.length = m * size) (hsrc : SrcL w sa news) (h1 : ∀ u ∈ news, u.oneCell' = true) (h63 : n + m ≤ 1000000) (hby : bytes ≤ 1000) :
    ∃ v' w3, (AppS #[T, T] T #[v, .slice sa m c]).run Tryz.prog w = .ok v' w3 ∧ w3.ownsRow B e size v' (n + m) (xs ++ news) ∧ w.grownBy w3 v.ownBlock ∧ (v'.ownBlock = v.ownBlock ∨ v'.ownBlock = some w.heap.size) := by
  obtain ⟨i, hi, hz0, hz1, hz2⟩ := info_is hinfo
  have hbig : (n + m) * bytes ≤ 140737488355328 := by
    have : (n + m) * bytes ≤ 1000000 * 1000 := Nat.mul_le_mul h63 hby
    omega
  cases sa with
  | some a =>
    have hnews : ∀ j u, news[j]? = some u → w.cell? (a.add j) = some u := fun j u hj => by
      obtain ⟨b, o, ea, hc⟩ := hsrc j u hj
      simp only [Option.some.injEq] at ea
      subst ea
      have hadd : (⟨b, o, none⟩ : Addr).add j = ⟨b, o + j, none⟩ := by unfold Addr.add; split <;> simp_all
      rw [hadd]
      exact hc
    obtain ⟨v', w', r1, r2, r3, _, r5⟩ := run_append_own_at (P := Tryz.prog) w B T T e i z size bytes ht hi hz0 hz1 hz2 hzs hsz v n xs hown a m c news hl hnews h1 (by unfold maxLen; omega) hbig hB
    exact ⟨v', w', r1, r2, r3, r5⟩
  | none =>
    have hnil : news = [] := by
      cases news with
      | nil => rfl
      | cons x r =>
        obtain ⟨b, o, ea, _⟩ := hsrc 0 x rfl
        cases ea
    subst hnil
    have hm : m = 0 := by
      rcases Nat.eq_zero_or_pos m with h | h
      · exact h
      · have : 0 < m * size := Nat.mul_pos h hsz
        rw [← hl] at this
        cases this
    subst hm
    rw [List.append_nil, Nat.add_zero]
    refine ⟨v, w, ?_, hown, ⟨rfl, rfl, rfl, Nat.le_refl _, fun _ _ _ => rfl⟩, Or.inl rfl⟩
    have hs : Src Tryz.prog i.size T (.slice none 0 c) 0 [] w := Src.ofNil _ ht c
    rcases hown.2 with ⟨rfl, rfl⟩ | ⟨g, cap, cur, rfl, hbg, hg, hnc, hcm, hcs, htake⟩
    · show (Builtin.append_ #[T, T] T #[.slice none 0 0, .slice none 0 c]).run Tryz.prog w = _
      simp [Builtin.append_, run_underlying ht, sizeOf, typeInfo, hi, Builtin.lenOf, Builtin.firstCells]
    · have := run_append_room_src (P := Tryz.prog) w T T T e i ht hi g 0 n cap (.slice none 0 c) 0 [] hs hnc (fun j h => by simp at h) (fun j h => by simp at h)
      exact this
theorem infoO : (Tryz.prog.info? 37).map (fun i => (i.zero, i.size, i.bytes)) = some (some (.agg #[.int .i64 0, .int .i64 0, .int .i64 0, .int .i64 0]), 4, 32) := by kernel_rfl
theorem infoOs : (Tryz.prog.info? 35).map (fun i => (i.zero, i.size, i.bytes)) = some (some nilV, 1, 24) := by kernel_rfl
theorem cells4_one (l : List I4) : ∀ u ∈ cellsT l, u.oneCell' = true := fun u hu => by
  unfold cellsT at hu
  rw [List.mem_flatMap] at hu
  obtain ⟨x, _, hx⟩ := hu
  simp only [cells4, List.mem_cons, List.not_mem_nil, or_false] at hx
  rcases hx with rfl | rfl | rfl | rfl <;> rfl
theorem cellsT_append (l r : List I4) : cellsT (l ++ r) = cellsT l ++ cellsT r := by simp [cellsT]
/-- An order's cells. -/
theorem cellsT_at : ∀ {l : List I4} {i : Nat}, i < l.length → ∀ d, (cellsT l)[i * 4]? = some (.int .i64 (l.getD i d).1) ∧ (cellsT l)[i * 4 + 1]? = some (.int .i64 (l.getD i d).2.1) ∧ (cellsT l)[i * 4 + 2]? = some (.int .i64 (l.getD i d).2.2.1) ∧ (cellsT l)[i * 4 + 3]? = some (.int .i64 (l.getD i d).2.2.2)
  | [], i, h, _ => absurd h (Nat.not_lt_zero _)
  | x :: l, 0, _, _ => ⟨rfl, rfl, rfl, rfl⟩
  | x :: l, i + 1, h, d => by
    have := cellsT_at (l := l) (i := i) (by simpa using h) d
    have e : ∀ k, (cellsT (x :: l))[(i + 1) * 4 + k]? = (cellsT l)[i * 4 + k]? := fun k => by
      rw [show (i + 1) * 4 + k = (i * 4 + k) + 4 by omega]
      rfl
    have e0 := e 0
    rw [Nat.add_zero, Nat.add_zero] at e0
    rw [e0, e 1, e 2, e 3]
    exact this
/-- One order is set. -/
theorem cellsT_set : ∀ {l : List I4} {i : Nat} {x : I4}, i < l.length → ((((cellsT l).set (i * 4) (.int .i64 x.1)).set (i * 4 + 1) (.int .i64 x.2.1)).set (i * 4 + 2) (.int .i64 x.2.2.1)).set (i * 4 + 3) (.int .i64 x.2.2.2) = cellsT (l.set i x)
  | [], i, _, h => absurd h (Nat.not_lt_zero _)
  | y :: l, 0, x, _ => rfl
  | y :: l, i + 1, x, h => by
    have := cellsT_set (l := l) (i := i) (x := x) (by simpa using h)
    have e : cellsT (y :: l) = cells4 y ++ cellsT l := rfl
    have e2 : cellsT ((y :: l).set (i + 1) x) = cells4 y ++ cellsT (l.set i x) := rfl
    rw [e, e2, ← this]
    have e3 : ∀ (r : List Value) k u, (cells4 y ++ r).set ((i + 1) * 4 + k) u = cells4 y ++ r.set (i * 4 + k) u := fun r k u => by
      rw [show (i + 1) * 4 + k = (i * 4 + k) + 4 by omega]
      rfl
    have e4 := fun r u => e3 r 0 u
    simp only [Nat.add_zero] at e4
    rw [e4, e3, e3, e3]
/-- Orders that the call made. -/
def OwnC (w : World) (B : Nat) (v : Value) (l : List I4) : Prop := w.ownsRow B 37 4 v l.length (cellsT l)
theorem OwnC.below {w w' : World} {B : Nat} {v : Value} {l : List I4} (h : OwnC w B v l) (hb : Below w.heap.size w w') : OwnC w' B v l := owns_below2 h hb
/-- More orders behind them. -/
theorem app_code {w : World} {B : Nat} {v : Value} {l : List I4} (h : OwnC w B v l) (hB : B ≤ w.heap.size) (sa : Option Addr) (c : Nat) (r : List I4) (hs : SrcL w sa (cellsT r)) (hl : l.length + r.length ≤ 1000000) :
    ∃ v' w3, (AppS #[35, 35] 35 #[v, .slice sa r.length c]).run Tryz.prog w = .ok v' w3 ∧ OwnC w3 B v' (l ++ r) ∧ w.grownBy w3 v.ownBlock ∧ (v'.ownBlock = v.ownBlock ∨ v'.ownBlock = some w.heap.size) := by
  obtain ⟨v', w3, h1, h2, h3, h4⟩ := app_lie (T := 35) Tryz.underlying35 infoO rfl (by omega) h hB sa r.length c (cellsT r) (cellsT_len r) hs (cells4_one r) hl (by omega)
  refine ⟨v', w3, h1, ?_, h3, h4⟩
  unfold OwnC
  rw [List.length_append, cellsT_append]
  exact h2
end

section
open Go.RowKit

def plV (l : List Pl) : List Value := l.flatMap fun x => [.int .i64 (x.1 : Int), .int .i64 (x.2 : Int)]
theorem plV_len (l : List Pl) : (plV l).length = l.length * 2 := by
  induction l with
  | nil => rfl
  | cons x r ih => simp [plV] at ih ⊢; omega
theorem plV_append (l r : List Pl) : plV (l ++ r) = plV l ++ plV r := by simp [plV]
theorem plV_one (l : List Pl) : ∀ u ∈ plV l, u.oneCell' = true := fun u hu => by
  unfold plV at hu
  rw [List.mem_flatMap] at hu
  obtain ⟨x, _, hx⟩ := hu
  simp only [List.mem_cons, List.not_mem_nil, or_false] at hx
  rcases hx with rfl | rfl <;> rfl
theorem plV_at : ∀ {l : List Pl} {i : Nat}, i < l.length → (plV l)[i * 2]? = some (.int .i64 ((l.getD i (0, 0)).1 : Int)) ∧ (plV l)[i * 2 + 1]? = some (.int .i64 ((l.getD i (0, 0)).2 : Int))
  | [], i, h => absurd h (Nat.not_lt_zero _)
  | x :: l, 0, _ => ⟨rfl, rfl⟩
  | x :: l, i + 1, h => by
    have := plV_at (l := l) (i := i) (by simpa using h)
    have e : ∀ k, (plV (x :: l))[(i + 1) * 2 + k]? = (plV l)[i * 2 + k]? := fun k => by
      rw [show (i + 1) * 2 + k = (i * 2 + k) + 2 by omega]
      rfl
    have e0 := e 0
    rw [Nat.add_zero, Nat.add_zero] at e0
    rw [e0, e 1]
    exact this
/-- A list of places that lies in memory. -/
def PlIn (w : World) (a : Option Addr) (l : List Pl) : Prop := ∀ k, k < l.length → ∃ b o, a = some ⟨b, o, none⟩ ∧ w.cell? ⟨b, o + k * 2, none⟩ = some (.int .i64 ((l.getD k (0, 0)).1 : Int)) ∧ w.cell? ⟨b, o + k * 2 + 1, none⟩ = some (.int .i64 ((l.getD k (0, 0)).2 : Int))
theorem PlIn.below {w w' : World} {a : Option Addr} {l : List Pl} (h : PlIn w a l) (hb : Below w.heap.size w w') : PlIn w' a l := fun k hk => by
  obtain ⟨b, o, e, h1, h2⟩ := h k hk
  exact ⟨b, o, e, (hb.cell (lt_of_cell h1)).trans h1, (hb.cell (lt_of_cell h2)).trans h2⟩
theorem plIn_nil (w : World) (a : Option Addr) : PlIn w a [] := fun _ hk => absurd hk (Nat.not_lt_zero _)
/-- Its cells. -/
theorem PlIn.src {w : World} {a : Option Addr} : ∀ {l : List Pl}, PlIn w a l → SrcL w a (plV l) := fun {l} h j u hj => by
  have hlt : j < l.length * 2 := by
    rw [← plV_len]
    exact (List.getElem?_eq_some_iff.1 hj).1
  obtain ⟨b, o, e, h1, h2⟩ := h (j / 2) (by omega)
  have hat := plV_at (l := l) (i := j / 2) (by omega)
  refine ⟨b, o, e, ?_⟩
  rcases Nat.mod_two_eq_zero_or_one j with hm | hm
  · have ej : j = j / 2 * 2 := by omega
    have hj' : (plV l)[j / 2 * 2]? = some u := by rw [← ej]; exact hj
    rw [hat.1] at hj'
    rw [show o + j = o + j / 2 * 2 by omega, h1]
    exact hj'
  · have ej : j = j / 2 * 2 + 1 := by omega
    have hj' : (plV l)[j / 2 * 2 + 1]? = some u := by rw [← ej]; exact hj
    rw [hat.2] at hj'
    rw [show o + j = o + j / 2 * 2 + 1 by omega, h2]
    exact hj'
/-- A list of places that was made. -/
def OwnP (w : World) (B : Nat) (v : Value) (l : List Pl) : Prop := w.ownsRow B 33 2 v l.length (plV l)
theorem OwnP.below {w w' : World} {B : Nat} {v : Value} {l : List Pl} (h : OwnP w B v l) (hb : Below w.heap.size w w') : OwnP w' B v l := owns_below2 h hb
theorem ownP_nil (w : World) (B : Nat) : OwnP w B nilV [] := World.ownsRow_nil _ _ _ _
theorem OwnP.form {w : World} {B : Nat} {v : Value} {l : List Pl} (h : OwnP w B v l) : ∃ a c, v = .slice a l.length c := fam_form h
theorem OwnP.pl {w : World} {B : Nat} {a : Option Addr} {c : Nat} {l : List Pl} (h : OwnP w B (.slice a l.length c) l) : PlIn w a l := fun k hk => by
  obtain ⟨g, cap, e, hg, _⟩ := fam_block h (by omega)
  simp only [Value.slice.injEq] at e
  have hat := plV_at hk
  refine ⟨g, 0, e.1, ?_, ?_⟩
  · rw [Nat.zero_add]; exact fam_cell h hg hat.1
  · rw [Nat.zero_add]; exact fam_cell h hg hat.2
theorem infoPl : (Tryz.prog.info? 33).map (fun i => (i.zero, i.size, i.bytes)) = some (some (.agg #[.int .i64 0, .int .i64 0]), 2, 16) := by kernel_rfl
/-- One more place. -/
theorem app_pl {w W : World} {B : Nat} {v : Value} {l : List Pl} (h : OwnP w B v l) (hb : Below w.heap.size w W) (hB : B ≤ w.heap.size) (t i : Nat) (hl : l.length ≤ 100000) :
    ∃ g cap w3, (AppS #[26, 26] 26 #[v, .slice (some ⟨W.heap.size, 0, none⟩) 1 1]).run Tryz.prog (W.alloc (.cells #[.int .i64 (t : Int), .int .i64 (i : Int)] 33)) = .ok (.slice (some ⟨g, 0, none⟩) (l.length + 1) cap) w3 ∧ OwnP w3 B (.slice (some ⟨g, 0, none⟩) (l.length + 1) cap) (l ++ [(t, i)]) ∧ (W.alloc (.cells #[.int .i64 (t : Int), .int .i64 (i : Int)] 33)).grownBy w3 v.ownBlock ∧ (v.ownBlock = some g ∨ g = W.heap.size + 1) := by
  obtain ⟨g, cap, w3, r1, r2, r3, r4⟩ := app_row (T := 26) Tryz.underlying26 infoPl rfl (by omega) h hb hB 1 #[.int .i64 (t : Int), .int .i64 (i : Int)] rfl (by simp [Value.oneCell']) (by omega) (by omega) (by omega)
  refine ⟨g, cap, w3, r1, ?_, r3, r4⟩
  unfold OwnP
  rw [List.length_append, plV_append]
  exact r2
theorem app_pl_below {w W w3 : World} {B : Nat} {v : Value} {l : List Pl} {o : Obj} (h : OwnP w B v l) (hb : Below w.heap.size w W) (hg : (W.alloc o).grownBy w3 v.ownBlock) (hB : B ≤ w.heap.size) {S : World} (hS : Below B S W) : Below B S w3 := by
  have hs := hb.size
  exact (hS.alloc (by omega) o).grown hg (by simp; omega) (fun k hk => (h.lt k hk).1)
/-- More places behind them. -/
theorem app_pls {w : World} {B : Nat} {v : Value} {l : List Pl} (h : OwnP w B v l) (hB : B ≤ w.heap.size) (sa : Option Addr) (c : Nat) (r : List Pl) (hs : PlIn w sa r) (hl : l.length + r.length ≤ 1000000) :
    ∃ v' w3, (AppS #[26, 26] 26 #[v, .slice sa r.length c]).run Tryz.prog w = .ok v' w3 ∧ OwnP w3 B v' (l ++ r) ∧ w.grownBy w3 v.ownBlock ∧ (v'.ownBlock = v.ownBlock ∨ v'.ownBlock = some w.heap.size) := by
  obtain ⟨v', w3, h1, h2, h3, h4⟩ := app_lie (T := 26) Tryz.underlying26 infoPl rfl (by omega) h hB sa r.length c (plV r) (plV_len r) hs.src (plV_one r) hl (by omega)
  refine ⟨v', w3, h1, ?_, h3, h4⟩
  unfold OwnP
  rw [List.length_append, plV_append]
  exact h2
end

section
open Go.RowKit

/-- How a round is left: what lay lies as it lay; or, on a return, what lies beyond B. -/
def sePost (B : Nat) (I : List (List Pl) → World → Prop) (Fi : World → Prop) (Tl : List (List Pl)) (W : World) : Exit → Act → World → Prop
  | .normal, _, W' => Below W.heap.size W W' ∧ I Tl W'
  | .ret, _, W' => (W.heap.size ≤ W'.heap.size ∧ ∀ k, B ≤ k → k < W.heap.size → W'.heap[k]? = W.heap[k]?) ∧ Fi W'
  | .exit _, _, _ => False
  | .goto _, _, _ => False
  | .panic _, _, _ => False
  | .outgrown, _, _ => False
/-- What is asked of a call of yield, by the lists that are left. -/
def YldOk (B lp : Nat) (J : List (List Pl) → World → Prop) (Jx : World → Prop) : Prop :=
  ∀ S Tl a c V, J (S :: Tl) V → PlIn V a S → (∀ b o, a = some ⟨b, o, none⟩ → 0 < S.length → B ≤ b) → YieldAt Fence.wide 0 Tryz.prog lp #[.slice a S.length c] V fun e V' => (e = .returned (.bool true) ∧ J Tl V' ∧ Below V.heap.size V V') ∨ (e = .returned (.bool false) ∧ Jx V')
/-- What a function promises that hands lists on. -/
def SetsOk (gf : Nat) (lb : Array Value) (all : List (List Pl)) (w : World) : Prop :=
  ∀ (lp : Nat) (J : List (List Pl) → World → Prop) (Jx : World → Prop) (W : World), Below w.heap.size w W → (∀ Ls V V', J Ls V → Below V.heap.size V V' → J Ls V') → YldOk w.heap.size lp J Jx → J all W →
    Calls Tryz.prog gf (#[.func (.yield lp) #[] #[]] ++ lb) W fun e W' => (∃ v, e = .returned v) ∧ (J [] W' ∨ Jx W')
theorem below_put (W : World) {B l : Nat} (o : Obj) (h : B ≤ l) : Below B W (W.putObj l o) := ⟨rfl, rfl, rfl, by simp, fun k hk => World.putObj_heap_other (by omega)⟩
theorem range_sets {g : Operand} {p : Tmp} {assign body : Code} {Q : Exit → Act → World → Prop} {a : Act} {w : World} {gf : Nat} {lb : Array Value} (hg : a.eval g = .func (.func gf) #[] lb) (eg : ∀ args w, (callFunc gf args).run Tryz.prog w = .ok (.enter gf args) w) (all : List (List Pl)) (hseq : SetsOk gf lb all w)
    (I : List (List Pl) → World → Prop) (Fi : World → Prop) (hI : ∀ Ls V V', I Ls V → Below w.heap.size V V' → I Ls V') (hF : ∀ V l o r, Fi V → w.heap.size ≤ l → V.heap[l]? = some (.loop r) → Fi (V.putObj l o)) (h0 : I all w)
    (hround : ∀ (lp : Nat) (S : List Pl) (Tl : List (List Pl)) (sa : Option Addr) (sc : Nat) (V : World), assign.wpIn (Fence.wide.inRound lp) 0 Tryz.prog (Exit.then (fun a' V' => V' = V ∧ ∀ U, I (S :: Tl) U → PlIn U sa S → (∀ b o, sa = some ⟨b, o, none⟩ → 0 < S.length → w.heap.size ≤ b) → w.heap.size ≤ U.heap.size → body.wpIn (Fence.wide.inRound lp) 0 Tryz.prog (sePost w.heap.size I Fi Tl U) a' U) (fun _ _ _ => False)) { tmps := a.tmps.setIfInBounds p (.slice sa S.length sc), defers := [] } V)
    (hdone : ∀ W, I [] W → w.heap.size < W.heap.size → W.heap[w.heap.size]? = some (.deferred (some [])) → Q .normal { a with defers := { target := .collected w.heap.size, args := #[] } :: a.defers } W)
    (hstop : ∀ W, Fi W → w.heap.size < W.heap.size → W.heap[w.heap.size]? = some (.deferred (some [])) → Code.ret.wpIn Fence.wide 0 Tryz.prog Q { a with defers := { target := .collected w.heap.size, args := #[] } :: a.defers } W) :
    (Code.rangeFunc g #[p] assign body).wpIn Fence.wide 0 Tryz.prog Q a w := by
  refine wpIn_rangeFunc ?_
  intro fn hfn
  obtain ⟨r, hr⟩ : ∃ r : LoopState → Option Code → Loop, r = fun st pe => { state := st, pending := pe, fn := fn, tmps := a.tmps, params := #[p], assign := assign, body := body, defers := w.heap.size } := ⟨_, rfl⟩
  obtain ⟨W1, hW1⟩ : ∃ W1, (w.alloc (.deferred (some []))).alloc (.loop (r .ready none)) = W1 := ⟨_, rfl⟩
  have hl1 : W1.heap[w.heap.size + 1]? = some (.loop (r .ready none)) := by
    have := heap_alloc_new (w.alloc (.deferred (some []))) (.loop (r .ready none))
    rw [World.size_alloc] at this
    rw [← hW1]; exact this
  have hk1 : W1.heap[w.heap.size]? = some (.deferred (some [])) := by
    rw [← hW1]; exact (Below.heap_alloc _ _ _ (by simp)).trans (heap_alloc_new w _)
  have hb1 : Below w.heap.size w W1 := by rw [← hW1]; exact ((Below.refl _ w).alloc (Nat.le_refl _) _).alloc (by simp) _
  refine ⟨w.heap.size + 1, [{ target := .collected w.heap.size, args := #[] }], W1, { target := .fn (.func gf) lb, args := #[.func (.yield (w.heap.size + 1)) #[] #[]] }, W1, gf, #[.func (.yield (w.heap.size + 1)) #[] #[]] ++ lb, W1, ?_, ?_, fun _ _ => trivial, ?_, fun h => (by cases h), ?_⟩
  · rw [← hW1, hr]; exact run_enterLoop_outer _ _ _ _ _
  · simp only [resolve, hg]
    simp [go_sem]
  · simp [invoke, go_sem, eg]
  refine callsIn_wide.2 ((hseq (w.heap.size + 1) (fun Ls V => I Ls V ∧ V.heap[w.heap.size + 1]? = some (.loop (r .ready none)) ∧ V.heap[w.heap.size]? = some (.deferred (some [])))
    (fun V => Fi V ∧ V.heap[w.heap.size + 1]? = some (.loop (r .done (some .ret))) ∧ V.heap[w.heap.size]? = some (.deferred (some []))) W1 hb1 (fun Ls V V' h hb => ?_) ?_ ⟨hI _ _ _ h0 hb1, hl1, hk1⟩).mono ?_)
  · have hlt := (Array.getElem?_eq_some_iff.1 h.2.1).1
    exact ⟨hI _ _ _ h.1 (hb.mono (by omega)), (hb.block _ hlt).trans h.2.1, (hb.block _ (by omega)).trans h.2.2⟩
  · rintro S Tl sa sc V ⟨hi, hl, hk⟩ hpl hfar
    have hlt := (Array.getElem?_eq_some_iff.1 hl).1
    have hy := run_yield (P := Tryz.prog) (args := #[.slice sa S.length sc]) hl (by rw [hr]; rfl)
    have h1 := hround (w.heap.size + 1) S Tl sa sc V
    have hb2 : Below w.heap.size V (V.putObj (w.heap.size + 1) (.loop { r .ready none with state := .busy })) := below_put _ _ (by omega)
    have hpl2 : PlIn (V.putObj (w.heap.size + 1) (.loop { r .ready none with state := .busy })) sa S := fun k hk' => by
      obtain ⟨b, o, e, c1, c2⟩ := hpl k hk'
      have hne : b ≠ w.heap.size + 1 := fun e2 => by
        rw [e2] at c1
        unfold World.cell? at c1
        rw [hl] at c1
        cases c1
      exact ⟨b, o, e, (World.cell?_of_block (World.putObj_heap_other hne)).trans c1, (World.cell?_of_block (World.putObj_heap_other hne)).trans c2⟩
    have hl2 : (V.putObj (w.heap.size + 1) (.loop { r .ready none with state := .busy })).heap[w.heap.size + 1]? = some (.loop { r .ready none with state := .busy }) := World.putObj_heap_same hlt
    have hk2 : (V.putObj (w.heap.size + 1) (.loop { r .ready none with state := .busy })).heap[w.heap.size]? = some (.deferred (some [])) := (World.putObj_heap_other (by omega)).trans hk
    have e5 : ((r .ready none).params.zip #[Value.slice sa S.length sc]).foldl (fun tmps (t, a) => tmps.setIfInBounds t a) (r .ready none).tmps = a.tmps.setIfInBounds p (.slice sa S.length sc) := by
      rw [hr]
      simp
    rw [e5] at hy
    refine ⟨fn, _, assign, body, by rw [hy, hr], roundIn_of_wpIn hfn ?_⟩
    refine wpIn_mono h1 ?_
    rintro e a' V' he
    cases e with
    | normal =>
      obtain ⟨rfl, h2⟩ := he
      have h3 := h2 _ (hI _ _ _ hi hb2) hpl2 hfar (by rw [World.putObj_size]; omega)
      refine ⟨_, run_beginRound hl (by rw [hr]), ?_⟩
      refine wpIn_mono h3 ?_
      rintro e a3 V3 he
      cases e with
      | normal =>
        obtain ⟨hb3, hi3⟩ := he
        have hl3 := (hb3.block _ (by rw [World.putObj_size]; exact hlt)).trans hl2
        have hk3 := (hb3.block _ (by rw [World.putObj_size]; omega)).trans hk2
        have hend := run_endRound (P := Tryz.prog) none hl3
        have hlt3 := (Array.getElem?_eq_some_iff.1 hl3).1
        have e4 : (Loop.mk .ready none fn a.tmps #[p] assign body w.heap.size) = r .ready none := by rw [hr]
        refine ⟨_, _, hend, .inl ⟨rfl, ⟨hI _ _ _ hi3 (below_put _ _ (by omega)), ?_, (World.putObj_heap_other (by omega)).trans hk3⟩, ?_⟩⟩
        · rw [World.putObj_heap_same hlt3, hr]
          rfl
        · have hs3 := hb3.size
          rw [World.putObj_size] at hs3
          refine ⟨hb3.os, hb3.tape, hb3.output, by rw [World.putObj_size]; exact hs3, fun k hk' => ?_⟩
          by_cases e : k = w.heap.size + 1
          · subst e
            rw [World.putObj_heap_same hlt3, hl, hr]
            rfl
          · rw [World.putObj_heap_other e, hb3.block k (by rw [World.putObj_size]; exact hk'), World.putObj_heap_other e]
      | ret =>
        obtain ⟨⟨hs3, hb3⟩, hf3⟩ := he
        rw [World.putObj_size] at hs3
        have hl3 := (hb3 (w.heap.size + 1) (by omega) (by rw [World.putObj_size]; exact hlt)).trans hl2
        have hk3 := (hb3 w.heap.size (Nat.le_refl _) (by rw [World.putObj_size]; omega)).trans hk2
        have hlt3 := (Array.getElem?_eq_some_iff.1 hl3).1
        refine ⟨_, _, run_endRound (P := Tryz.prog) (some .ret) hl3, .inr ⟨rfl, hF _ _ _ _ hf3 (by omega) hl3, ?_, (World.putObj_heap_other (by omega)).trans hk3⟩⟩
        rw [World.putObj_heap_same hlt3, hr]
        rfl
      | exit id => exact he.elim
      | goto t => exact he.elim
      | panic c => exact he.elim
      | outgrown => exact he.elim
    | exit id => exact he.elim
    | goto t => exact he.elim
    | ret => exact he.elim
    | panic c => exact he.elim
    | outgrown => exact he.elim
  · rintro e W2 ⟨⟨v, rfl⟩, ⟨hi, hl, hk⟩ | ⟨hf, hl, hk⟩⟩
    · have hlt := (Array.getElem?_eq_some_iff.1 hl).1
      have hend := run_endLoop (P := Tryz.prog) hl (by rw [hr]; simp)
      refine ⟨none, _, by rw [hend, hr], ?_⟩
      exact hdone _ (hI _ _ _ hi (below_put _ _ (by omega))) (by rw [World.putObj_size]; omega) ((World.putObj_heap_other (by omega)).trans hk)
    · have hlt := (Array.getElem?_eq_some_iff.1 hl).1
      have hend := run_endLoop (P := Tryz.prog) hl (by rw [hr]; simp)
      refine ⟨some .ret, _, by rw [hend, hr], ?_⟩
      exact hstop _ (hF _ _ _ _ hf (by omega) hl) (by rw [World.putObj_size]; omega) ((World.putObj_heap_other (by omega)).trans hk)
end

end Go.Proofs.YtelckcpjmekgcadGreatDoor
