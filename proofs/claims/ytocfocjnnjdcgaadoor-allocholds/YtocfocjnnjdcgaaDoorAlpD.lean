/-
  What an order becomes: by the program.
-/
import Derived.Test.YtocfocjnnjdcgaaDoorAlpB
import Derived.Test.YtocfocjnnjdcgaaDoorZSame
import Derived.Test.YtocfocjnnjdcgaaDoorAlcJ
namespace Go.Proofs.YtocfocjnnjdcgaaDoor
open Go.RowKit

/-- An order with one of its three numbers turned. -/
def setF (x : I4) (q : Nat) (v : Int) : I4 := if q = 1 then (x.1, v, x.2.2.1, x.2.2.2) else if q = 2 then (x.1, x.2.1, v, x.2.2.2) else (x.1, x.2.1, x.2.2.1, v)
/-- What an order reads. -/
def rdO (x : I4) : List Int := rdL x.1 x.2.1 x.2.2.1 x.2.2.2
/-- An order when the first registers that it reads stand elsewhere. -/
def rdS (k : List Int) (x : I4) : Nat → I4
  | 0 => x
  | i + 1 => setF (rdS k x i) ((usR x.1).getD i 0) (seT k (6 + i) ((rdO x).getD i 0))
/-- What is fetched for the first ones. -/
def loS (k : List Int) (wd : Nat → Nat) (x : I4) : Nat → List I4
  | 0 => []
  | i + 1 => loS k wd x i ++ feT k wd (6 + i) ((rdO x).getD i 0)
def pnX (k : List Int) (x : I4) : I4 := if usW x.1 = 0 then rdS k x (usR x.1).length else setF (rdS k x (usR x.1).length) (usW x.1) (seT k 6 (wrL x.1 x.2.1 x.2.2.1))
def keS (k : List Int) (wd : Nat → Nat) (x : I4) : List I4 := if usW x.1 = 0 then [] else keT k wd (wrL x.1 x.2.1 x.2.2.1)
/-- What an order becomes. -/
def pnB (k : List Int) (wd : Nat → Nat) (x : I4) : List I4 := loS k wd x (usR x.1).length ++ [pnX k x] ++ keS k wd x

def ordA (x : I4) : Obj := .cells #[.int .i64 x.1, .int .i64 x.2.1, .int .i64 x.2.2.1, .int .i64 x.2.2.2] 55
theorem setF_box {W : World} {g q : Nat} {x : I4} (h : W.heap[g]? = some (ordA x)) (h1 : 1 ≤ q) (h3 : q ≤ 3) (v : Int) : (W.setCell ⟨g, q, none⟩ (.int .i64 v)).heap[g]? = some (ordA (setF x q v)) := by
  have := heap_set_same (i := q) (u := .int .i64 v) h
  rw [this]
  rcases (by omega : q = 1 ∨ q = 2 ∨ q = 3) with rfl | rfl | rfl <;> rfl
theorem ord_cell {W : World} {g q : Nat} {x : I4} (h : W.heap[g]? = some (ordA x)) (h3 : q ≤ 3) : ∃ v : Int, W.cell? ⟨g, q, none⟩ = some (.int .i64 v) := by
  rcases (by omega : q = 0 ∨ q = 1 ∨ q = 2 ∨ q = 3) with rfl | rfl | rfl | rfl
  · exact ⟨_, box_cell (i := 0) h rfl⟩
  · exact ⟨_, box_cell (i := 1) h rfl⟩
  · exact ⟨_, box_cell (i := 2) h rfl⟩
  · exact ⟨_, box_cell (i := 3) h rfl⟩
theorem ord_noptr {W : World} {g j : Nat} {x : I4} {p : Option Addr} (h : W.heap[g]? = some (ordA x)) : W.cell? ⟨g, j, none⟩ ≠ some (.pointer p) := fun hc => by
  simp only [World.cell?, h, ordA] at hc
  match j, hc with
  | 0, hc => cases hc
  | 1, hc => cases hc
  | 2, hc => cases hc
  | 3, hc => cases hc
  | j + 4, hc => cases hc
theorem cell_far5 {w : World} {b o b' o' : Nat} {u v : Value} (h : w.cell? ⟨b, o, none⟩ = some v) (hne : b ≠ b') : (w.setCell ⟨b', o', none⟩ u).cell? ⟨b, o, none⟩ = some v := (World.cell?_of_block (Below.heap_setCell _ _ _ _ (fun e => hne (by simpa using e)))).trans h
theorem feT_len (k : List Int) (wd : Nat → Nat) (h r : Int) : (feT k wd h r).length ≤ 1 := by
  unfold feT
  split <;> simp
theorem keT_len (k : List Int) (wd : Nat → Nat) (r : Int) : (keT k wd r).length ≤ 1 := by
  unfold keT
  split <;> simp
theorem loS_len (k : List Int) (wd : Nat → Nat) (x : I4) : ∀ i, (loS k wd x i).length ≤ i
  | 0 => Nat.le_refl _
  | i + 1 => by
    have := loS_len k wd x i
    have := feT_len k wd (6 + i) ((rdO x).getD i 0)
    simp only [loS, List.length_append]
    omega
theorem usR_len (op : Int) : (usR op).length ≤ 2 := by
  unfold usR
  split
  · simp
  · split
    · simp
    · split
      · simp
      · split <;> simp
theorem pnB_len (k : List Int) (wd : Nat → Nat) (x : I4) : (pnB k wd x).length ≤ 4 := by
  have h1 := loS_len k wd x (usR x.1).length
  have h2 := usR_len x.1
  have h3 : (keS k wd x).length ≤ 1 := by
    unfold keS
    split
    · simp
    · exact keT_len _ _ _
  simp only [pnB, List.length_append, List.length_singleton]
  omega

theorem hand_idx {q : Nat} (hq : q < 2) {hd : Int} (h : 6 + (q : Int) = hd) (W : World) : (Instr.index 109 (.agg #[.int .i64 6, .int .i64 7]) (.int .i64 (q : Int))).run Tryd.prog W = .ok (.int .i64 hd) W := by
  subst h
  rcases (by omega : q = 0 ∨ q = 1) with rfl | rfl
  · kernel_rfl
  · kernel_rfl
/-- While an order is made anew: it is o by now, i of the registers that it reads are fetched. -/
structure BeM (w W2 W : World) (ob : Nat) (k : List Int) (wd : Nat → Nat) (x o : I4) (i : Nat) (cv : Value) : Prop where
  low : Below w.heap.size w W
  far : ∀ g, g ≠ ob → g < W2.heap.size → W.heap[g]? = W2.heap[g]?
  sz : W2.heap.size ≤ W.heap.size
  ord : W.heap[ob]? = some (ordA o)
  code : OwnC W W2.heap.size cv (loS k wd x i)

theorem BeM.store {w W2 W V : World} {ob : Nat} {k : List Int} {wd : Nat → Nat} {x o : I4} {q : Nat} {cv : Value} (h : BeM w W2 W ob k wd x o q cv) (hb : Below W.heap.size W V) (h1 : w.heap.size ≤ ob) (h2 : ob < W2.heap.size) {y : Nat} (hy1 : 1 ≤ y) (hy3 : y ≤ 3) (v : Int) :
    BeM w W2 (V.setCell ⟨ob, y, none⟩ (.int .i64 v)) ob k wd x (setF o y v) q cv := by
  have hlow : Below w.heap.size w V := h.low.trans (hb.mono h.low.size)
  refine ⟨hlow.setCell (p := ⟨ob, y, none⟩) h1 _, fun g hg hlt => ?_, ?_, ?_, ?_⟩
  · rw [Below.heap_setCell _ _ _ _ (fun e => hg (by simpa using e)), hb.block g (by have := h.sz; omega), h.far g hg hlt]
  · simpa using Nat.le_trans h.sz hb.size
  · exact setF_box (blk hb h.ord) hy1 hy3 v
  · exact fam_keeps h.code fun g e => by
      have := h.code.lt g e
      rw [Below.heap_setCell _ _ _ _ (fun e2 => by have : g = ob := by simpa using e2
                                                   omega), hb.block g (by omega)]
theorem BeM.below {w W2 W V : World} {ob : Nat} {k : List Int} {wd : Nat → Nat} {x o : I4} {q : Nat} {cv : Value} (h : BeM w W2 W ob k wd x o q cv) (hb : Below W.heap.size W V) (_h2 : ob < W2.heap.size) : BeM w W2 V ob k wd x o q cv :=
  ⟨h.low.trans (hb.mono h.low.size), fun g hg hlt => by rw [hb.block g (by have := h.sz; omega), h.far g hg hlt], Nat.le_trans h.sz hb.size, blk hb h.ord, h.code.below hb⟩
theorem BeM.more {w W2 W V : World} {ob : Nat} {k : List Int} {wd : Nat → Nat} {x o : I4} {q : Nat} {cv : Value} (h : BeM w W2 W ob k wd x o q cv) (hb : Below W.heap.size W V) (hw2 : w.heap.size ≤ W2.heap.size) (h2 : ob < W2.heap.size) (hq : q ≤ 2) (sa : Option Addr) (c : Nat) {r : List I4} (hs : SrcL V sa (cellsT r)) (hr : r.length ≤ 1) (hn : loS k wd x (q + 1) = loS k wd x q ++ r) :
    ∃ v w6, (AppS #[36, 36] 36 #[cv, .slice sa r.length c]).run Tryd.prog V = .ok v w6 ∧ BeM w W2 w6 ob k wd x o (q + 1) v := by
  have hc : OwnC V W2.heap.size cv (loS k wd x q) := h.code.below hb
  have hsz : W2.heap.size ≤ V.heap.size := Nat.le_trans h.sz hb.size
  obtain ⟨v, w6, r1, r2, r3, -⟩ := app_code hc hsz sa c r hs (by have := loS_len k wd x q; omega)
  have hb6 : Below W2.heap.size V w6 := (Below.refl _ _).grown r3 hsz fun g e => (hc.lt g e).1
  refine ⟨v, w6, r1, (h.low.trans (hb.mono h.low.size)).trans (hb6.mono hw2), fun g hg hlt => ?_, Nat.le_trans hsz hb6.size, ?_, ?_⟩
  · rw [hb6.block g hlt, hb.block g (by have := h.sz; omega), h.far g hg hlt]
  · rw [hb6.block ob h2]
    exact blk hb h.ord
  · rw [hn]
    exact r2
/-- The order itself, and what is kept behind it. -/
theorem BeM.fin {w W2 W : World} {ob : Nat} {k : List Int} {wd : Nat → Nat} {x o : I4} {q : Nat} {cv : Value} (h : BeM w W2 W ob k wd x o q cv) (hw2 : w.heap.size ≤ W2.heap.size) (hq : q ≤ 2) (sa : Option Addr) (c : Nat) {r : List I4} (hs : SrcL W sa (cellsT r)) (hr : r.length ≤ 1) (hap : ∀ b o, sa = some ⟨b, o, none⟩ → cv.ownBlock ≠ some b) :
    ∃ v6 w6 a7 c7 w7, (AppS #[36, 36] 36 #[cv, .slice (some ⟨W.heap.size, 0, none⟩) 1 1]).run Tryd.prog (W.alloc (ordA o)) = .ok v6 w6 ∧ (AppS #[36, 36] 36 #[v6, .slice sa r.length c]).run Tryd.prog w6 = .ok (.slice a7 (loS k wd x q ++ [o] ++ r).length c7) w7 ∧ SrcL w7 a7 (cellsT (loS k wd x q ++ [o] ++ r)) ∧ Below w.heap.size w w7 := by
  have hb := below_one W (ordA o)
  have hc : OwnC (W.alloc (ordA o)) W2.heap.size cv (loS k wd x q) := h.code.below hb
  have hsz : W2.heap.size ≤ (W.alloc (ordA o)).heap.size := Nat.le_trans h.sz hb.size
  have hll := loS_len k wd x q
  obtain ⟨v6, w6, r1, r2, r3, -⟩ := app_code hc hsz (some ⟨W.heap.size, 0, none⟩) 1 [o] (srcL_block (heap_alloc_new W (ordA o))) (by simp; omega)
  have hb6 : Below W2.heap.size (W.alloc (ordA o)) w6 := (Below.refl _ _).grown r3 hsz fun g e => (hc.lt g e).1
  have hsz6 := Nat.le_trans hsz hb6.size
  have hs6 : SrcL w6 sa (cellsT r) := fun j u hj => by
    obtain ⟨b, o', e, hcell⟩ := hs j u hj
    refine ⟨b, o', e, ?_⟩
    have h1 := (hb.cell (lt_of_cell hcell)).trans hcell
    exact (World.cell?_of_block (r3.block b (lt_of_cell h1) fun e2 => hap b o' e e2.symm)).trans h1
  obtain ⟨v7, w7, t1, t2, t3, -⟩ := app_code r2 hsz6 sa c r hs6 (by simp; omega)
  have hb7 : Below W2.heap.size w6 w7 := (Below.refl _ _).grown t3 hsz6 fun g e => (r2.lt g e).1
  obtain ⟨a7, c7, rfl⟩ := owns_slice t2
  exact ⟨v6, w6, a7, c7, w7, r1, t1, own_src t2, ((h.low.trans (hb.mono h.low.size)).trans (hb6.mono hw2)).trans (hb7.mono hw2)⟩

attribute [local go_sem ↓] appS_eq in
set_option maxRecDepth 100000 in
set_option maxHeartbeats 3200000 in
theorem become_any (w : World) (ca : Option Addr) (n cc : Nat) (ka : Option Addr) (kn kc mb : Nat) (K : List (List Int)) (m g : Nat) (A : Nat → Option Addr) (L C : Nat → Nat) (X : Nat → Nat → Nat → Int) (h : BrM w ka kn mb K m g) (hp : PIn w ca n A L C X) (t i : Nat) (ht : t < kn) (htn : t < n) (hi : i < L t)
    (hop : 1 ≤ X t i 0 ∧ X t i 0 ≤ 18) (hrd : ∀ r, r ∈ rdO (ordAt X t i) → 0 ≤ r ∧ r < g) (hwr : usW (X t i 0) = 0 ∨ 0 ≤ wrL (X t i 0) (X t i 1) (X t i 2) ∧ wrL (X t i 0) (X t i 1) (X t i 2) < g) :
    Calls Tryd.prog 40 #[.agg #[.slice ca n cc, .slice ka kn kc, .map (some mb)], .int .i64 (t : Int), .int .i64 (i : Int)] w fun e w' => ∃ sa c, e = .returned (.slice sa (pnB (K.getD t []) (wdT m K g t) (ordAt X t i)).length c) ∧ SrcL w' sa (cellsT (pnB (K.getD t []) (wdT m K g t) (ordAt X t i))) ∧ Below w.heap.size w w' := by
  obtain ⟨cb, co, rfl, hcell⟩ := hp.code t htn
  obtain ⟨ob0, oo0, ha, c0, c1, c2, c3⟩ := hp.ord t i htn hi
  obtain ⟨l, hl⟩ : ∃ l, L t = l := ⟨_, rfl⟩
  rw [ha, hl] at hcell
  have hil : i < l := by omega
  have HBM := Hid.out (p := Hid _) h
  obtain ⟨k, hk⟩ : ∃ k, K.getD t [] = k := ⟨_, rfl⟩
  have HKK := Hid.out (p := Hid _) hk
  obtain ⟨wd, hwd⟩ : ∃ f, wdT m K g t = f := ⟨_, rfl⟩
  have HWD := Hid.out (p := Hid _) hwd
  obtain ⟨x0, e0⟩ : ∃ v, X t i 0 = v := ⟨_, rfl⟩
  obtain ⟨x1, e1⟩ : ∃ v, X t i 1 = v := ⟨_, rfl⟩
  obtain ⟨x2, e2⟩ : ∃ v, X t i 2 = v := ⟨_, rfl⟩
  obtain ⟨x3, e3⟩ : ∃ v, X t i 3 = v := ⟨_, rfl⟩
  have hx : ordAt X t i = (x0, x1, x2, x3) := by rw [ordAt, e0, e1, e2, e3]
  rw [e0] at c0 hop hwr
  rw [e1] at c1 hwr
  rw [e2] at c2 hwr
  rw [e3] at c3
  rw [hx] at hrd
  rw [hk, hwd, hx]
  obtain ⟨pl, hpl⟩ : ∃ q, pnB k wd (x0, x1, x2, x3) = q := ⟨_, rfl⟩
  rw [hpl]
  have HPL := Hid.out (p := Hid _) hpl
  clear hk hwd hx hpl e0 e1 e2 e3 hp h hl ha hi
  have u0 := fun o => cell_up hcell o
  have u1 := fun o => cell_up c0 o
  have u2 := fun o => cell_up c1 o
  have u3 := fun o => cell_up c2 o
  have u4 := fun o => cell_up c3 o
  have htI : (t : Int) < (n : Int) := by omega
  have hiI : (i : Int) < (l : Int) := by omega
  have h3 : Below w.heap.size w (((w.alloc (.cells #[.slice (some ⟨cb, co, none⟩) n cc, .slice ka kn kc, .map (some mb)] 75)).alloc (.cells #[.int .i64 x0, .int .i64 x1, .int .i64 x2, .int .i64 x3] 55)).alloc (.cells #[.int .i64 x0, .int .i64 x1, .int .i64 x2, .int .i64 x3] 55)) := (below_two w _ _).alloc (below_two w _ _).size _
  have hp := box_later (two_at w (.cells #[.slice (some ⟨cb, co, none⟩) n cc, .slice ka kn kc, .map (some mb)] 75) (.cells #[.int .i64 x0, .int .i64 x1, .int .i64 x2, .int .i64 x3] 55)).2.1 (.cells #[.int .i64 x0, .int .i64 x1, .int .i64 x2, .int .i64 x3] 55)
  have hq := box_later (two_at w (.cells #[.slice (some ⟨cb, co, none⟩) n cc, .slice ka kn kc, .map (some mb)] 75) (.cells #[.int .i64 x0, .int .i64 x1, .int .i64 x2, .int .i64 x3] 55)).2.2 (.cells #[.int .i64 x0, .int .i64 x1, .int .i64 x2, .int .i64 x3] 55)
  have hr := three_at w (.cells #[.slice (some ⟨cb, co, none⟩) n cc, .slice ka kn kc, .map (some mb)] 75) (.cells #[.int .i64 x0, .int .i64 x1, .int .i64 x2, .int .i64 x3] 55) (.cells #[.int .i64 x0, .int .i64 x1, .int .i64 x2, .int .i64 x3] 55)
  obtain ⟨W0, hW0⟩ : ∃ V, ((w.alloc (.cells #[.slice (some ⟨cb, co, none⟩) n cc, .slice ka kn kc, .map (some mb)] 75)).alloc (.cells #[.int .i64 x0, .int .i64 x1, .int .i64 x2, .int .i64 x3] 55)).alloc (.cells #[.int .i64 x0, .int .i64 x1, .int .i64 x2, .int .i64 x3] 55) = V := ⟨_, rfl⟩
  rw [hW0] at h3 hp hq hr
  have HW0 := Hid.out (p := Hid _) hW0
  have HU := Hid.out (p := Hid _) (uses_any x0 x1 x2 x3 hop W0 (w.heap.size + 1 + 1) hr)
  have HRD := Hid.out (p := Hid _) (fun V => reads_own x0 x1 x2 x3 hop V)
  have HWT := Hid.out (p := Hid _) (fun V => writes_any x0 x1 x2 x3 hop V)
  have H0 := Hid.out (p := Hid _) (And.intro h3 (And.intro hp (And.intro hq hr)))
  have HUS := Hid.out (p := Hid _) (us_rd x1 x2 x3 hop)
  have HUW := Hid.out (p := Hid _) (us_wr x1 x2 hop)
  have HRG := Hid.out (p := Hid _) hrd
  have HWG := Hid.out (p := Hid _) hwr
  clear hcell c0 c1 c2 c3 h3 hp hq hr hW0 hop hrd hwr
  go_enter Tryd.func40, Tryd.ntmps40
  go_wp2_with fail
  rw [HW0.out]
  clear u0 u1 u2 u3 u4
  refine Calls.mono HU.out ?_
  rintro e w1 ⟨ra, rc, rfl, hP, hb1⟩
  have hp1 := blk hb1 H0.out.2.1
  have hq1 := blk hb1 H0.out.2.2.1
  have hr1 := blk hb1 H0.out.2.2.2
  have q0 := box_cell (i := 0) hq1 rfl
  have q1 := box_cell (i := 1) hq1 rfl
  have q2 := box_cell (i := 2) hq1 rfl
  have q3 := box_cell (i := 3) hq1 rfl
  have H1 := Hid.out (p := Hid _) (And.intro hP (And.intro hb1 (And.intro hp1 (And.intro hq1 hr1))))
  obtain ⟨us, hus⟩ : ∃ us, usR x0 = us := ⟨_, rfl⟩
  obtain ⟨un, hun⟩ : ∃ n, us.length = n := ⟨_, rfl⟩
  rw [hus, hun]
  obtain ⟨up, hup⟩ : ∃ up, ptrV (w.heap.size + 1 + 1) (usW x0) = up := ⟨_, rfl⟩
  rw [hup]
  have HUSE := Hid.out (p := Hid _) (And.intro hus hun)
  have HUP := Hid.out (p := Hid _) hup
  clear hP hb1 hp1 hq1 hr1 hus hun hup HU HW0
  go_wp2_with fail
  refine Calls.mono (HRD.out w1) ?_
  rintro e w2 ⟨la, lc, rfl, hO2, hb2⟩
  clear q0 q1 q2 q3
  obtain ⟨rl, hrl⟩ : ∃ q, rdL x0 x1 x2 x3 = q := ⟨_, rfl⟩
  have hrn : rl.length = un := by rw [← hrl, HUS.out.1, List.length_map, HUSE.out.1, HUSE.out.2]
  rw [hrl] at hO2 ⊢
  rw [hrn] at hO2 ⊢
  have hun2 : un ≤ 2 := by rw [← HUSE.out.2, ← HUSE.out.1]; exact HUS.out.2.1
  have HRL := Hid.out (p := Hid _) (And.intro hrl hrn)
  have hp2 := blk hb2 H1.out.2.2.1
  have hq2 := blk hb2 H1.out.2.2.2.1
  have hr2 := blk hb2 H1.out.2.2.2.2
  have hlt1 : w.heap.size + 1 + 1 < w1.heap.size := box_lt H1.out.2.2.2.2
  have H2 := Hid.out (p := Hid _) (And.intro hO2 (And.intro hb2 (And.intro hp2 (And.intro hq2 (And.intro hr2 hlt1)))))
  have HST : Hid (BeM w w2 w2 (w.heap.size + 1 + 1) k wd (x0, x1, x2, x3) (rdS k (x0, x1, x2, x3) 0) 0 nilV) := ⟨(H0.out.1.trans (H1.out.2.1.mono H0.out.1.size)).trans (hb2.mono (H0.out.1.trans (H1.out.2.1.mono H0.out.1.size)).size), fun _ _ _ => rfl, Nat.le_refl _, hr2, World.ownsRow_nil _ _ _ _⟩
  have HRD' : Hid (∀ q, q < un → ∃ r : Nat, rl.getD q 0 = r ∧ r < g) := fun q hq => by
    have h1 := HRG.out (rl.getD q 0) (by
      show rl.getD q 0 ∈ rdL x0 x1 x2 x3
      rw [hrl, List.getD_eq_getElem?_getD, List.getElem?_eq_getElem (by omega)]
      exact List.getElem_mem _)
    exact ⟨(rl.getD q 0).toNat, by omega, by omega⟩
  clear hO2 hb2 hp2 hq2 hr2 hlt1 hrl hrn HRD HRG
  go_wp2_with fail
  go_loopw [11, 34] (fun cv iv wr => ∃ q : Nat, q ≤ un ∧ iv = .int .i64 q ∧ Hid (BeM w w2 wr (w.heap.size + 1 + 1) k wd (x0, x1, x2, x3) (rdS k (x0, x1, x2, x3) q) q cv)) (fun _ iv _ => un - (intOf iv).toNat)
  case atStart => exact ⟨0, Nat.zero_le _, rfl, HST.out⟩
  case round =>
    clear HST
    obtain ⟨q, hq, rfl, HI⟩ := hrel
    by_cases hqn : q < un
    · have hqI : (q : Int) < (un : Int) := by omega
      obtain ⟨pb, po, e, hc⟩ := H1.out.1 q (by rw [HUSE.out.1, HUSE.out.2]; exact hqn)
      subst e
      rw [HUSE.out.1] at hc
      obtain ⟨y, hy⟩ : ∃ y, us.getD q 0 = y := ⟨_, rfl⟩
      rw [hy] at hc
      have hyb : 1 ≤ y ∧ y ≤ 3 := HUS.out.2.2 y (by
        rw [HUSE.out.1, ← hy, List.getD_eq_getElem?_getD, List.getElem?_eq_getElem (by rw [HUSE.out.2]; exact hqn)]
        exact List.getElem_mem _)
      have hpb : pb ≠ w.heap.size + 1 + 1 := fun e => by
        rw [e] at hc
        exact ord_noptr (x := (x0, x1, x2, x3)) H1.out.2.2.2.2 hc
      have hc2 := (H2.out.2.1.cell (lt_of_cell hc)).trans hc
      have hc3 := (World.cell?_of_block (HI.out.far pb hpb (lt_of_cell hc2))).trans hc2
      have hOw : OwL wr w1.heap.size (.slice la un lc) rl := fam_keeps H2.out.1 fun b hb => HI.out.far b (fun e => by
        have h1 := (H2.out.1.lt b hb).1
        have h2 := H2.out.2.2.2.2.2
        omega) (H2.out.1.lt b hb).2
      rw [← HRL.out.2] at hOw
      obtain ⟨lb, lo, rfl, hlc⟩ := hOw.sis q (by rw [HRL.out.2]; exact hqn)
      obtain ⟨r, hr, hrg⟩ := HRD'.out q hqn
      rw [hr] at hlc
      have hlt := H2.out.2.2.2.2.2
      have hlw : w1.heap.size ≤ w2.heap.size := H2.out.2.1.size
      have hpr := (HI.out.far w.heap.size (by omega) (by omega)).trans H2.out.2.2.1
      have b0 := box_cell (i := 0) hpr rfl
      have b1 := box_cell (i := 1) hpr rfl
      have b2 := box_cell (i := 2) hpr rfl
      obtain ⟨v0, hv0⟩ := ord_cell HI.out.ord (q := y) hyb.2
      have HBR := Hid.out (p := Hid _) (HBM.out.below HI.out.low)
      obtain ⟨hd, hhd⟩ : ∃ hd : Int, 6 + (q : Int) = hd := ⟨_, rfl⟩
      have HSE : Hid (∀ V, Below wr.heap.size wr V → Calls Tryd.prog 62 #[.agg #[.slice (some ⟨cb, co, none⟩) n cc, .slice ka kn kc, .map (some mb)], .agg #[.int .i64 (t : Int), .int .i64 (r : Int)], .int .i64 hd] V fun e w' => e = .returned (.int .i64 (seT k hd r)) ∧ Below V.heap.size V w') := fun V hV => by
        have := seat_any V (some ⟨cb, co, none⟩) n cc ka kn kc mb K m g (HBR.out.below hV) t r ht hrg hd
        rw [HKK.out] at this
        exact this
      have HFE : Hid (∀ V, Below w.heap.size w V → Calls Tryd.prog 63 #[.agg #[.slice (some ⟨cb, co, none⟩) n cc, .slice ka kn kc, .map (some mb)], .agg #[.int .i64 (t : Int), .int .i64 (r : Int)], .int .i64 hd] V fun e w' => ∃ sa c, e = .returned (.slice sa (feT k wd hd r).length c) ∧ SrcL w' sa (cellsT (feT k wd hd r)) ∧ Below V.heap.size V w') := fun V hV => by
        have := fetch_any V (some ⟨cb, co, none⟩) n cc ka kn kc mb K m g (HBM.out.below hV) t r ht hrg hd
        rw [HKK.out, HWD.out] at this
        exact this
      have HY := Hid.out (p := Hid _) (And.intro hy (And.intro hyb (And.intro hr hhd)))
      have HPR := Hid.out (p := Hid _) hpr
      clear hc hc2 hy hyb hOw hr hlt hlw hpr
      have hix := hand_idx (by omega : q < 2) hhd
      have hfr : ∀ V : World, V.heap[w.heap.size + 1 + 1]? = some (ordA (rdS k (x0, x1, x2, x3) q)) → V.frozen? ⟨w.heap.size + 1 + 1, y, none⟩ = false := fun V hV => box_free hV
      have HFR := Hid.out (p := Hid _) hfr
      clear hhd hfr
      go_wp2_with fail
      go_region_held3 (fun w' => w'.cell? ⟨w.heap.size, 0, none⟩ = some (.slice (some ⟨cb, co, none⟩) n cc) ∧ w'.cell? ⟨w.heap.size, 1, none⟩ = some (.slice ka kn kc) ∧ w'.cell? ⟨w.heap.size, 2, none⟩ = some (.map (some mb)) ∧ w'.cell? ⟨pb, po + q, none⟩ = some (.pointer (some ⟨w.heap.size + 1 + 1, y, none⟩))) (refine ⟨?_, ?_, ?_, ?_⟩ <;> (repeat (first | assumption | refine cell_drw ?_ | refine cell_far5 ?_ (by omega)))) ((go_at_call 62; refine Calls.mono (HSE.out _ (by first | exact (Below.refl _ _).drew | exact Below.refl _ _)) ?_; rintro e w3 ⟨rfl, hb3d⟩; have hb3 : Below wr.heap.size wr w3 := (by first | exact (Below.refl _ _).drew.trans hb3d | exact hb3d); have j0 := (hb3.cell (p := ⟨w.heap.size, 0, none⟩) (lt_of_cell b0)).trans b0; have j1 := (hb3.cell (p := ⟨w.heap.size, 1, none⟩) (lt_of_cell b1)).trans b1; have j2 := (hb3.cell (p := ⟨w.heap.size, 2, none⟩) (lt_of_cell b2)).trans b2; have j3 := (hb3.cell (p := ⟨pb, po + q, none⟩) (lt_of_cell hc3)).trans hc3; have ho3 := blk hb3 HI.out.ord; have jf := HFR.out w3 ho3; have jv := (hb3.cell (p := ⟨w.heap.size + 1 + 1, y, none⟩) (lt_of_cell hv0)).trans hv0; have HB3 := Hid.out (p := Hid _) (And.intro hb3 ho3); clear ho3 hb3d))
      have hlt := H2.out.2.2.2.2.2
      have hlw : w1.heap.size ≤ w2.heap.size := H2.out.2.1.size
      have hn1 : rdS k (x0, x1, x2, x3) (q + 1) = setF (rdS k (x0, x1, x2, x3) q) y (seT k hd r) := by
        show setF (rdS k (x0, x1, x2, x3) q) ((usR x0).getD q 0) (seT k (6 + q) ((rdL x0 x1 x2 x3).getD q 0)) = _
        rw [HUSE.out.1, HRL.out.1, HY.out.1, HY.out.2.2.1, HY.out.2.2.2]
      have hn2 : loS k wd (x0, x1, x2, x3) (q + 1) = loS k wd (x0, x1, x2, x3) q ++ feT k wd hd r := by
        show loS k wd (x0, x1, x2, x3) q ++ feT k wd (6 + q) ((rdL x0 x1 x2 x3).getD q 0) = _
        rw [HRL.out.1, HY.out.2.2.1, HY.out.2.2.2]
      have hbV := HI.out.store HB3.out.1 (by omega) (by omega) HY.out.2.1.1 HY.out.2.1.2 (seT k hd r)
      rw [← hn1] at hbV
      have hprV := (hbV.far w.heap.size (by omega) (by omega)).trans H2.out.2.2.1
      have z0 := box_cell (i := 0) hprV rfl
      have z1 := box_cell (i := 1) hprV rfl
      have z2 := box_cell (i := 2) hprV rfl
      obtain ⟨V, hV⟩ : ∃ V, w3.setCell ⟨w.heap.size + 1 + 1, y, none⟩ (.int .i64 (seT k hd r)) = V := ⟨_, rfl⟩
      have HV := Hid.out (p := Hid _) hV
      rw [hV] at hbV
      have HBV := Hid.out (p := Hid _) (And.intro hbV hn2)
      have HFV := Hid.out (p := Hid _) (HFE.out V hbV.low)
      clear hn1 hn2 hbV hprV hV hlt hlw b0 b1 b2 HB3 HSE HFE
      go_wp2_with fail
      rw [HV.out]
      refine Calls.mono HFV.out ?_
      rintro e w5 ⟨sa, c, rfl, hS, hb5⟩
      clear z0 z1 z2 HV HFV
      obtain ⟨v6, w6, hrun6, hN⟩ := HBV.out.1.more hb5 (by have := H2.out.2.1.size; have := H2.out.2.2.2.2.2; omega) (by have := H2.out.2.1.size; have := H2.out.2.2.2.2.2; omega) (by omega) sa c hS (feT_len _ _ _ _) HBV.out.2
      have HN := Hid.out (p := Hid _) hN
      clear hN hS hb5
      go_wp2_with fail
      go_roundw
      case rel => exact ⟨q + 1, by omega, by go_num, HN.out⟩
      case measure => simp [intOf]; omega
    · obtain rfl : un = q := by omega
      have hlt := H2.out.2.2.2.2.2
      have hlw : w1.heap.size ≤ w2.heap.size := H2.out.2.1.size
      have hqr := (HI.out.far (w.heap.size + 1) (by omega) (by omega)).trans H2.out.2.2.2.1
      have q0 := box_cell (i := 0) hqr rfl
      have q1 := box_cell (i := 1) hqr rfl
      have q2 := box_cell (i := 2) hqr rfl
      have q3 := box_cell (i := 3) hqr rfl
      have HLT : Hid (w.heap.size ≤ w2.heap.size ∧ w.heap.size + 1 + 1 < w2.heap.size) := ⟨by omega, by omega⟩
      clear hlt hlw hqr
      go_wp2_with fail
      refine Calls.mono (HWT.out wr) ?_
      rintro e w3 ⟨hw3, hb3⟩
      clear q0 q1 q2 q3
      have hI3 := HI.out.below hb3 HLT.out.2
      have hor := box_cell (i := 0) hI3.ord rfl
      have hp3 := (hI3.far w.heap.size (by omega) (by have := HLT.out; omega)).trans H2.out.2.2.1
      have b0 := box_cell (i := 0) hp3 rfl
      have b1 := box_cell (i := 1) hp3 rfl
      have b2 := box_cell (i := 2) hp3 rfl
      by_cases hu0 : usW x0 = 0
      · rcases hw3 with ⟨z, -, -, hop⟩ | ⟨rfl, -⟩
        · exfalso
          rcases hop with rfl | rfl | rfl | rfl | rfl | rfl | rfl | rfl | rfl | rfl
          all_goals exact absurd hu0 (by decide)
        · obtain ⟨o, ho⟩ : ∃ o, rdS k (x0, x1, x2, x3) un = o := ⟨_, rfl⟩
          rw [ho] at hI3
          have hpn : pnB k wd (x0, x1, x2, x3) = loS k wd (x0, x1, x2, x3) un ++ [o] ++ [] := by
            show loS k wd (x0, x1, x2, x3) (usR x0).length ++ [pnX k (x0, x1, x2, x3)] ++ keS k wd (x0, x1, x2, x3) = _
            have e1 : pnX k (x0, x1, x2, x3) = o := by
              unfold pnX
              rw [if_pos hu0, HUSE.out.1, HUSE.out.2, ho]
            have e2 : keS k wd (x0, x1, x2, x3) = [] := if_pos hu0
            rw [e1, e2, HUSE.out.1, HUSE.out.2]
          obtain ⟨v6, w6, a7, c7, w7, t1, t2, hS7, hb7⟩ := hI3.fin HLT.out.1 hun2 none 0 (r := []) (srcL_nil _ _) (Nat.zero_le _) (fun b o e => by cases e)
          have f0 := box_cell (i := 0) hI3.ord rfl
          have f1 := box_cell (i := 1) hI3.ord rfl
          have f2 := box_cell (i := 2) hI3.ord rfl
          have f3 := box_cell (i := 3) hI3.ord rfl
          rw [← hpn, HPL.out] at t2 hS7
          have HFN := Hid.out (p := Hid _) (And.intro hS7 hb7)
          unfold ordA at t1
          rw [List.length_nil] at t2
          clear hI3 hp3 hpn hS7 hb7 ho b0 b1 b2 hor
          go_wp2_with fail
          go_ret
          exact ⟨_, _, rfl, HFN.out⟩
      · rcases hw3 with ⟨z, rfl, hz, -⟩ | ⟨-, hz⟩
        · obtain ⟨yw, hyw⟩ : ∃ q, usW x0 = q := ⟨_, rfl⟩
          have hwg := HWG.out.resolve_left hu0
          obtain ⟨s, hs⟩ : ∃ s : Nat, wrL x0 x1 x2 = s := ⟨(wrL x0 x1 x2).toNat, by omega⟩
          rw [hs] at hz hwg
          subst hz
          have hyb : 1 ≤ yw ∧ yw ≤ 2 := by
            rw [hyw] at hu0
            have := HUW.out
            rw [hyw] at this
            omega
          have hup' : up = .pointer (some ⟨w.heap.size + 1 + 1, yw, none⟩) := by
            rw [← HUP.out, ptrV, if_neg hu0, hyw]
          subst hup'
          have hsg : s < g := by omega
          have HSE : Hid (Calls Tryd.prog 62 #[.agg #[.slice (some ⟨cb, co, none⟩) n cc, .slice ka kn kc, .map (some mb)], .agg #[.int .i64 (t : Int), .int .i64 (s : Int)], .int .i64 6] w3 fun e w' => e = .returned (.int .i64 (seT k 6 s)) ∧ Below w3.heap.size w3 w') := by
            have := seat_any w3 (some ⟨cb, co, none⟩) n cc ka kn kc mb K m g (HBM.out.below hI3.low) t s ht hsg 6
            rw [HKK.out] at this
            exact this
          have HKE : Hid (∀ V, Below w.heap.size w V → Calls Tryd.prog 64 #[.agg #[.slice (some ⟨cb, co, none⟩) n cc, .slice ka kn kc, .map (some mb)], .agg #[.int .i64 (t : Int), .int .i64 (s : Int)]] V fun e w' => ∃ sa c, e = .returned (.slice sa (keT k wd s).length c) ∧ SrcL w' sa (cellsT (keT k wd s)) ∧ (∀ b o, sa = some ⟨b, o, none⟩ → V.heap.size ≤ b) ∧ Below V.heap.size V w') := fun V hV => by
            have := keep_any V (some ⟨cb, co, none⟩) n cc ka kn kc mb K m g (HBM.out.below hV) t s ht hsg
            rw [HKK.out, HWD.out] at this
            exact this
          have H3 := Hid.out (p := Hid _) hI3
          have HU0 := Hid.out (p := Hid _) (And.intro hu0 (And.intro hyw (And.intro hyb hs)))
          clear hu0 hyw hs hwg hp3 hI3 hor hb3
          go_wp2_with fail
          refine Calls.mono HSE.out ?_
          rintro e w4 ⟨rfl, hb4⟩
          clear b0 b1 b2 HSE
          have ho4 := blk hb4 H3.out.ord
          obtain ⟨v0, jv⟩ := ord_cell ho4 (q := yw) (by omega)
          have jf : w4.frozen? ⟨w.heap.size + 1 + 1, yw, none⟩ = false := box_free ho4
          have hbV := H3.out.store hb4 (by omega) HLT.out.2 hyb.1 (by omega) (seT k 6 s)
          have hprV := (hbV.far w.heap.size (by omega) (by have := HLT.out; omega)).trans H2.out.2.2.1
          have z0 := box_cell (i := 0) hprV rfl
          have z1 := box_cell (i := 1) hprV rfl
          have z2 := box_cell (i := 2) hprV rfl
          obtain ⟨V, hV⟩ : ∃ V, w4.setCell ⟨w.heap.size + 1 + 1, yw, none⟩ (.int .i64 (seT k 6 s)) = V := ⟨_, rfl⟩
          have HV := Hid.out (p := Hid _) hV
          rw [hV] at hbV
          have HBV := Hid.out (p := Hid _) hbV
          have HKV := Hid.out (p := Hid _) (HKE.out V hbV.low)
          clear hbV hprV hV hb4 HKE ho4
          go_wp2_with fail
          rw [HV.out]
          refine Calls.mono HKV.out ?_
          rintro e w5 ⟨sa, c, rfl, hS5, hap5, hb5⟩
          clear z0 z1 z2 jv jf HV HKV
          have hI5 := HBV.out.below hb5 HLT.out.2
          obtain ⟨o, ho⟩ : ∃ o, setF (rdS k (x0, x1, x2, x3) un) yw (seT k 6 s) = o := ⟨_, rfl⟩
          rw [ho] at hI5
          have hpn : pnB k wd (x0, x1, x2, x3) = loS k wd (x0, x1, x2, x3) un ++ [o] ++ keT k wd s := by
            show loS k wd (x0, x1, x2, x3) (usR x0).length ++ [pnX k (x0, x1, x2, x3)] ++ keS k wd (x0, x1, x2, x3) = _
            have e1 : pnX k (x0, x1, x2, x3) = o := by
              unfold pnX
              rw [if_neg HU0.out.1, HUSE.out.1, HUSE.out.2, HU0.out.2.1, HU0.out.2.2.2, ho]
            have e2 : keS k wd (x0, x1, x2, x3) = keT k wd s := by
              unfold keS
              rw [if_neg HU0.out.1, HU0.out.2.2.2]
            rw [e1, e2, HUSE.out.1, HUSE.out.2]
          obtain ⟨v6, w6, a7, c7, w7, t1, t2, hS7, hb7⟩ := hI5.fin HLT.out.1 hun2 sa c hS5 (keT_len _ _ _) (fun b o e e2 => by
            have h1 := hap5 b o e
            have h2 := (HBV.out.code.lt b e2).2
            omega)
          have f0 := box_cell (i := 0) hI5.ord rfl
          have f1 := box_cell (i := 1) hI5.ord rfl
          have f2 := box_cell (i := 2) hI5.ord rfl
          have f3 := box_cell (i := 3) hI5.ord rfl
          rw [← hpn, HPL.out] at t2 hS7
          have HFN := Hid.out (p := Hid _) (And.intro hS7 hb7)
          unfold ordA at t1
          clear hI5 hpn hS7 hb7 ho hS5 hap5 hb5
          go_wp2_with fail
          go_ret
          exact ⟨_, _, rfl, HFN.out⟩
        · exfalso
          have := HWG.out.resolve_left hu0
          omega

end Go.Proofs.YtocfocjnnjdcgaaDoor
