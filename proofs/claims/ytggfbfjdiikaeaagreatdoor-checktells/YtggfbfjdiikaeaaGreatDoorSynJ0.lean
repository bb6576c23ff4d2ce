/-
  Nodes in memory, as they are read.
  The document's Program in memory.
  The document's fail and most.
  The program's parser: every expression; two words that are asked for.
  The program's parser: an expression in brackets behind a word; print; a local's statement.
-/
import Derived.Test.YtggfbfjdiikaeaaGreatDoorLexA8
import Derived.Test.YtggfbfjdiikaeaaGreatDoorPlain
import Derived.Test.YtggfbfjdiikaeaaGreatDoorSynN
import Derived.Deep.QuietTactic
import Derived.BigQuiet
import Derived.StillTailTactics
import Derived.Test.YtggfbfjdiikaeaaGreatDoorSqI
namespace Go.Proofs.YtggfbfjdiikaeaaGreatDoor
section
open Go.RowKit

theorem nodsV_at : ∀ {l : List (Row × Value)} {i : Nat}, i < l.length → ∀ j, j < 5 → (nodsV l)[i * 5 + j]? = (nodC (l.getD i (row0, .slice none 0 0)))[j]?
  | [], i, h, _, _ => absurd h (Nat.not_lt_zero _)
  | x :: l, 0, _, j, hj => by
    show ((nodC x) ++ nodsV l)[0 * 5 + j]? = _
    rw [Nat.zero_mul, Nat.zero_add, List.getElem?_append_left (by simpa [nodC] using hj)]
    rfl
  | x :: l, i + 1, h, j, hj => by
    have := nodsV_at (l := l) (i := i) (by simpa using h) j hj
    show ((nodC x) ++ nodsV l)[(i + 1) * 5 + j]? = _
    rw [List.getElem?_append_right (by simp [nodC]; omega)]
    rw [show (i + 1) * 5 + j - (nodC x).length = i * 5 + j by simp [nodC]; omega]
    exact this
theorem kids_in {w : World} {v : Value} {ks : List Int} (h : w.ownsRow 0 3 1 v ks.length (ks.map fun k => .int .i64 k)) : ∃ ka kc, v = .slice ka ks.length kc ∧ IIn w ka ks.length (fun j => ks.getD j 0) ∧ ks.length ≤ kc := by
  obtain ⟨a, c, rfl⟩ := owns_slice h
  have hcap : ks.length ≤ c := by
    rcases h.2 with ⟨h0, h1⟩ | ⟨g', cap', cur, hv, _, _, h1, _⟩
    · omega
    · simp only [Value.slice.injEq, true_and] at hv
      omega
  refine ⟨a, c, rfl, fun j hj => ?_, hcap⟩
  obtain ⟨g, cap, e, hg, _⟩ := fam_block h (by omega)
  simp only [Value.slice.injEq] at e
  refine ⟨g, 0, e.1, ?_⟩
  rw [Nat.zero_add]
  refine fam_cell h hg ?_
  simp [hj, List.getD_eq_getElem?_getD]
theorem NodesIn.read {w : World} {B : Nat} {v : Value} {rows : List Row} (h : NodesIn w B v rows) : ∃ a c, v = .slice a rows.length c ∧ NdsR w a rows := by
  obtain ⟨ys, h1, h2, h3⟩ := h
  have hl : ys.length = rows.length := by rw [← h2, List.length_map]
  obtain ⟨a, c, rfl⟩ := owns_slice h1
  refine ⟨a, c, by rw [hl], ⟨fun i hi => ?_⟩⟩
  have hi2 : i < ys.length := by omega
  obtain ⟨g, cap, e, hg, _⟩ := fam_block h1 (by omega)
  simp only [Value.slice.injEq] at e
  have hget : ys.getD i (row0, .slice none 0 0) ∈ ys := by rw [List.getD_eq_getElem?_getD, List.getElem?_eq_getElem hi2]; exact List.getElem_mem hi2
  have hr : rows.getD i row0 = (ys.getD i (row0, .slice none 0 0)).1 := by
    rw [← h2, List.getD_eq_getElem?_getD, List.getD_eq_getElem?_getD, List.getElem?_map, List.getElem?_eq_getElem hi2]; rfl
  obtain ⟨ka, kc, hv, hk, hcp⟩ := kids_in (h3 _ hget)
  have hc := fun j hj => nodsV_at hi2 j hj
  rw [← hr] at hv hk hcp
  refine ⟨g, ka, kc, e.1, ⟨?_, ?_, ?_, ?_, ?_, hk, hcp⟩⟩
  · exact fam_cell h1 hg ((hc 0 (by omega)).trans (by rw [hr]; rfl))
  · exact fam_cell h1 hg ((hc 1 (by omega)).trans (by rw [hr]; rfl))
  · exact fam_cell h1 hg ((hc 2 (by omega)).trans (by rw [hr]; rfl))
  · exact fam_cell h1 hg ((hc 3 (by omega)).trans (by rw [hr]; rfl))
  · exact fam_cell h1 hg ((hc 4 (by omega)).trans (by rw [← hv]; rfl))
end

section
open Go.RowKit

inductive Rc where
  | box
  | us
  | th
  | bl
  | ct
deriving DecidableEq
def cTy : Rc → TypeId
  | .box => 34
  | _ => 3
def cSz : Rc → Nat
  | .box => 8
  | _ => 1
def iV (l : List Int) : List Value := l.map fun x => .int .i64 x
theorem iV_len (l : List Int) : (iV l).length = l.length := by simp [iV]
theorem iV_at {l : List Int} {i : Nat} {x : Int} (h : l[i]? = some x) : (iV l)[i]? = some (.int .i64 x) := by simp [iV, h]
theorem iV_set (l : List Int) (i : Nat) (x : Int) : iV (l.set i x) = (iV l).set i (.int .i64 x) := by simp [iV, List.map_set]
/-- Names that are there, the nearest last. -/
def thL (s : Cs) : List Int := s.sc.flatten.reverse.map fun (d : Nat) => (d : Int)
/-- Where each block's begin. -/
def blL : List (List Nat) → List Int
  | [] => []
  | _ :: r => blL r ++ [(r.flatten.length : Int)]
theorem blL_len : ∀ l : List (List Nat), (blL l).length = l.length
  | [] => rfl
  | _ :: r => by rw [blL, List.length_append, blL_len r]; rfl
def ctL (s : Cs) : List Int := (List.range 30).map fun (k : Nat) => (s.cn (k : Int) : Int)
theorem ctL_at (s : Cs) {k : Nat} (hk : k < 30) : (ctL s)[k]? = some (s.cn (k : Int) : Int) := by simp [ctL, hk]
def cN (s : Cs) : Rc → Nat
  | .box => 1
  | .us => s.us.length
  | .th => s.sc.flatten.length
  | .bl => s.sc.length
  | .ct => 30
def cX (a : Option Addr) (n c : Nat) (v : Rc → Value) (s : Cs) (f : Int × Int) : Rc → List Value
  | .box => [.slice a n c, v .us, v .th, v .bl, v .ct, .int .i64 f.1, .int .i64 0, .int .i64 f.2]
  | .us => iV s.us
  | .th => iV (thL s)
  | .bl => iV (blL s.sc)
  | .ct => iV (ctL s)
structure CDs (w0 w : World) (a : Option Addr) (c : Nat) (rows : List Row) (P : Nat) (v : Rc → Value) (s : Cs) (f : Int × Int) : Prop where
  fam : Fam w w0.heap.size cTy cSz v (cN s) (cX a rows.length c v s f)
  box : v .box = boxV P
  low : Below w0.heap.size w0 w
  nds : NdsR w0 a rows
/-- What may turn. -/
def BadD (o : Obj) : Prop := ∃ c f, o = .cells c 3 f ∨ o = .cells c 34 f
structure KpD (w w' : World) : Prop where
  at' : ∀ (k : Nat) (o : Obj), w.heap[k]? = some o → ¬ BadD o → w'.heap[k]? = w.heap[k]?
theorem bad_node (cs : Array Value) : ¬ BadD (.cells cs 60) := by
  rintro ⟨c, f, h | h⟩ <;> simp at h
theorem heap_ltD {w : World} {k : Nat} {o : Obj} (h : w.heap[k]? = some o) : k < w.heap.size := by
  rcases Nat.lt_or_ge k w.heap.size with h1 | h1
  · exact h1
  · rw [Array.getElem?_eq_none h1] at h; cases h
theorem KpD.refl (w : World) : KpD w w := ⟨fun _ _ _ _ => rfl⟩
theorem KpD.trans {a b c : World} (h : KpD a b) (k : KpD b c) : KpD a c := ⟨fun i o e h1 => (k.at' i o ((h.at' i o e h1).trans e) h1).trans (h.at' i o e h1)⟩
theorem KpD.of_below {w w' : World} (h : Below w.heap.size w w') : KpD w w' := ⟨fun k _ e _ => h.block k (heap_ltD e)⟩
section
variable {w0 w w' : World} {a : Option Addr} {c : Nat} {rows : List Row} {P : Nat} {v : Rc → Value} {s : Cs} {f : Int × Int}
theorem CDs.below (h : CDs w0 w a c rows P v s f) (hb : Below w.heap.size w w') : CDs w0 w' a c rows P v s f := ⟨h.fam.below hb, h.box, h.low.trans (hb.mono h.low.size), h.nds⟩
theorem CDs.blk (h : CDs w0 w a c rows P v s f) : (v .box).ownBlock = some P := by rw [h.box]; rfl
theorem CDs.lt (h : CDs w0 w a c rows P v s f) : P < w.heap.size := h.fam.lt h.blk
theorem CDs.le (h : CDs w0 w a c rows P v s f) : w0.heap.size ≤ P := h.fam.low _ _ h.blk
theorem CDs.fz (h : CDs w0 w a c rows P v s f) (j : Nat) : w.frozen? ⟨P, j, none⟩ = false := h.fam.frozen h.blk j
theorem CDs.c0 (h : CDs w0 w a c rows P v s f) : w.cell? ⟨P, 0, none⟩ = some (.slice a rows.length c) := h.fam.cell h.blk rfl
theorem CDs.c1 (h : CDs w0 w a c rows P v s f) : w.cell? ⟨P, 1, none⟩ = some (v .us) := h.fam.cell h.blk rfl
theorem CDs.c2 (h : CDs w0 w a c rows P v s f) : w.cell? ⟨P, 2, none⟩ = some (v .th) := h.fam.cell h.blk rfl
theorem CDs.c3 (h : CDs w0 w a c rows P v s f) : w.cell? ⟨P, 3, none⟩ = some (v .bl) := h.fam.cell h.blk rfl
theorem CDs.c4 (h : CDs w0 w a c rows P v s f) : w.cell? ⟨P, 4, none⟩ = some (v .ct) := h.fam.cell h.blk rfl
theorem CDs.c5 (h : CDs w0 w a c rows P v s f) : w.cell? ⟨P, 5, none⟩ = some (.int .i64 f.1) := h.fam.cell h.blk rfl
theorem CDs.c6 (h : CDs w0 w a c rows P v s f) : w.cell? ⟨P, 6, none⟩ = some (.int .i64 0) := h.fam.cell h.blk rfl
theorem CDs.c7 (h : CDs w0 w a c rows P v s f) : w.cell? ⟨P, 7, none⟩ = some (.int .i64 f.2) := h.fam.cell h.blk rfl
theorem CDs.node (h : CDs w0 w a c rows P v s f) {i : Nat} (hi : i < rows.length) : ∃ g ka kc, a = some ⟨g, 0, none⟩ ∧ NdR w g i (rowA rows i) ka kc := by
  obtain ⟨g, ka, kc, e, hn⟩ := h.nds.get i hi
  exact ⟨g, ka, kc, e, hn.below h.low⟩
/-- A store into a row of it: what does not turn. -/
theorem CDs.kept (h : CDs w0 w a c rows P v s f) {r : Rc} {g : Nat} (e : (v r).ownBlock = some g) (i : Nat) (u : Value) : KpD w (w.setCell ⟨g, i, none⟩ u) := ⟨fun k o ho hb => by
  refine Below.heap_setCell _ _ _ _ (fun hk => hb ?_)
  have h2 := (h.fam.own r).2
  rcases h2 with ⟨h0, _⟩ | ⟨g', cap', cur, hv, _, hh, _⟩
  · rw [h0] at e; simp [Value.ownBlock] at e
  · rw [hv] at e
    have e' : g' = g := by simpa [Value.ownBlock] using e
    have hk' : k = g := hk
    rw [e', ← hk', ho] at hh
    have := Option.some.inj hh
    subst this
    cases r with
    | box => exact ⟨cur, (0, 0), Or.inr rfl⟩
    | us => exact ⟨cur, (0, 0), Or.inl rfl⟩
    | th => exact ⟨cur, (0, 0), Or.inl rfl⟩
    | bl => exact ⟨cur, (0, 0), Or.inl rfl⟩
    | ct => exact ⟨cur, (0, 0), Or.inl rfl⟩⟩
theorem CDs.lowSet (h : CDs w0 w a c rows P v s f) {r : Rc} {g : Nat} (e : (v r).ownBlock = some g) (i : Nat) (u : Value) : Below w0.heap.size w0 (w.setCell ⟨g, i, none⟩ u) := h.low.setCell (p := ⟨g, i, none⟩) (h.fam.low r g e) u
/-- A store into the fault. -/
theorem CDs.setF1 (h : CDs w0 w a c rows P v s f) (x : Int) : CDs w0 (w.setCell ⟨P, 5, none⟩ (.int .i64 x)) a c rows P v s (x, f.2) :=
  ⟨h.fam.put h.blk 5 _ (fun _ => rfl) rfl (fun q hq => by cases q <;> first | exact absurd rfl hq | rfl), h.box, h.lowSet h.blk 5 _, h.nds⟩
theorem CDs.setF2 (h : CDs w0 w a c rows P v s f) : CDs w0 (w.setCell ⟨P, 6, none⟩ (.int .i64 0)) a c rows P v s f :=
  ⟨h.fam.put h.blk 6 _ (fun _ => rfl) rfl (fun q hq => by cases q <;> first | exact absurd rfl hq | rfl), h.box, h.lowSet h.blk 6 _, h.nds⟩
theorem CDs.setF3 (h : CDs w0 w a c rows P v s f) (x : Int) : CDs w0 (w.setCell ⟨P, 7, none⟩ (.int .i64 x)) a c rows P v s (f.1, x) :=
  ⟨h.fam.put h.blk 7 _ (fun _ => rfl) rfl (fun q hq => by cases q <;> first | exact absurd rfl hq | rfl), h.box, h.lowSet h.blk 7 _, h.nds⟩
theorem CDs.setF (h : CDs w0 w a c rows P v s f) (x y : Int) : CDs w0 (((w.setCell ⟨P, 5, none⟩ (.int .i64 x)).setCell ⟨P, 6, none⟩ (.int .i64 0)).setCell ⟨P, 7, none⟩ (.int .i64 y)) a c rows P v s (x, y) ∧ KpD w (((w.setCell ⟨P, 5, none⟩ (.int .i64 x)).setCell ⟨P, 6, none⟩ (.int .i64 0)).setCell ⟨P, 7, none⟩ (.int .i64 y)) :=
  ⟨((h.setF1 x).setF2).setF3 y, ((h.kept h.blk 5 _).trans ((h.setF1 x).kept h.blk 6 _)).trans ((h.setF1 x).setF2.kept h.blk 7 _)⟩
/-- A store into what names are of. -/
theorem CDs.setU (h : CDs w0 w a c rows P v s f) {g : Nat} (e : (v .us).ownBlock = some g) (i : Nat) (x : Int) : CDs w0 (w.setCell ⟨g, i, none⟩ (.int .i64 x)) a c rows P v { s with us := s.us.set i x } f :=
  ⟨h.fam.put e i _ (fun q => by cases q <;> simp [cN]) (iV_set _ _ _) (fun q hq => by cases q <;> first | exact absurd rfl hq | rfl), h.box, h.lowSet e i _, h.nds⟩
/-- One more of a kind. -/
theorem CDs.setC (h : CDs w0 w a c rows P v s f) {g : Nat} (e : (v .ct).ownBlock = some g) (k : Nat) (hk : k < 30) : CDs w0 (w.setCell ⟨g, k, none⟩ (.int .i64 ((s.cn (k : Int) : Int) + 1))) a c rows P v (moreC s (k : Int)) f := by
  refine ⟨h.fam.put e k _ (fun q => by cases q <;> rfl) ?_ (fun q hq => by cases q <;> first | exact absurd rfl hq | rfl), h.box, h.lowSet e k _, h.nds⟩
  show iV (ctL (moreC s (k : Int))) = (iV (ctL s)).set k _
  rw [← iV_set]
  congr 1
  refine List.ext_getElem? fun i => ?_
  rw [List.getElem?_set]
  by_cases hi : k = i
  · subst hi
    rw [if_pos rfl, ctL_at _ hk, if_pos (by simp [ctL]; exact hk)]
    simp [moreC]
  · rw [if_neg hi]
    by_cases hl : i < 30
    · rw [ctL_at _ hl, ctL_at _ hl]
      simp only [moreC]
      rw [if_neg (by omega)]
    · rw [List.getElem?_eq_none (by simp [ctL]; omega), List.getElem?_eq_none (by simp [ctL]; omega)]
end
end

section
open Go.RowKit

section
variable {w0 w : World} {a : Option Addr} {c : Nat} {rows : List Row} {P : Nat} {v : Rc → Value} {s : Cs} {f : Int × Int}
set_option maxRecDepth 100000 in
set_option maxHeartbeats 800000 in
theorem rfail_any (h : CDs w0 w a c rows P v s f) {i : Nat} (hi : i < rows.length) (code : Int) :
    Calls Tryz.prog 32 #[.pointer (some ⟨P, 0, none⟩), .int .i64 code, .int .i64 (i : Int)] w fun e w' => e = .returned (.tuple #[]) ∧ CDs w0 w' a c rows P v s (if f.1 = 0 then (code, (rowA rows i).pos) else f) ∧ KpD w w' := by
  obtain ⟨g, ka, kc, rfl, hn⟩ := h.node hi
  have x2 := hn.p
  have c0 := h.c0
  have c5 := h.c5
  have c6 := h.c6
  have c7 := h.c7
  have fz := h.fz
  have hi' : (i : Int) < (rows.length : Int) := by omega
  have HD := Hid.out (p := Hid _) h
  obtain ⟨f1, f2⟩ := f
  simp only at c5 c7 ⊢
  by_cases h0 : f1 = 0
  · subst h0
    rw [if_pos rfl]
    clear h hn
    go_enter Tryz.func32, Tryz.ntmps32
    go_wp2_with fail
    go_end0
    exact ⟨rfl, HD.out.setF _ _⟩
  · rw [if_neg h0]
    have h0' : (f1 == 0) = false := by simpa using h0
    clear h hn h0
    go_enter Tryz.func32, Tryz.ntmps32
    go_wp2_with fail
    go_end0
    exact ⟨rfl, HD.out, KpD.refl _⟩
set_option maxRecDepth 100000 in
set_option maxHeartbeats 1600000 in
theorem rmost_any (h : CDs w0 w a c rows P v s f) {i : Nat} (hi : i < rows.length) {k : Nat} (hk : (rowA rows i).kind = (k : Int)) (hk30 : k < 30) (hcn : s.cn (k : Int) ≤ 100) (m : Nat) :
    Calls Tryz.prog 34 #[.pointer (some ⟨P, 0, none⟩), .int .i64 (i : Int), .int .i64 (m : Int)] w fun e w' => e = .returned (.tuple #[]) ∧ CDs w0 w' a c rows P v (moreC s (k : Int)) (if f.1 = 0 ∧ m < s.cn (k : Int) + 1 then (1, (rowA rows i).pos) else f) ∧ KpD w w' := by
  obtain ⟨g, ka, kc, rfl, hn⟩ := h.node hi
  obtain ⟨q, hqv⟩ : ∃ q : Nat, s.cn (k : Int) = q := ⟨_, rfl⟩
  rw [hqv] at hcn ⊢
  obtain ⟨cb, cc, hcv, hcb, -, hcl⟩ := fam_block (h.fam.own .ct) (by show 0 < 30; omega)
  have hcv' : v .ct = .slice (some ⟨cb, 0, none⟩) 30 cc := hcv
  have hs := h.setC hcb k hk30
  have hsk := h.kept hcb k (.int .i64 ((q : Int) + 1))
  rw [hqv] at hs
  have x0 := hn.k
  rw [hk] at x0
  have c0 := h.c0
  have c4 := h.c4
  rw [hcv'] at c4
  have y0 : w.cell? ⟨cb, k, none⟩ = some (.int .i64 (s.cn (k : Int) : Int)) := h.fam.cell hcb (iV_at (ctL_at s hk30))
  rw [hqv] at y0
  have yz := h.fam.frozen hcb k
  have hd0 := hs.c0
  have hd4 := hs.c4
  rw [hcv'] at hd4
  have hq : (moreC s (k : Int)).cn (k : Int) = q + 1 := by simp [moreC, hqv]
  have z0 : (w.setCell ⟨cb, k, none⟩ (.int .i64 ((q : Int) + 1))).cell? ⟨cb, k, none⟩ = some (.int .i64 ((q : Int) + 1)) := by
    have := hs.fam.cell hcb (iV_at (ctL_at (moreC s (k : Int)) hk30))
    rw [hq] at this
    exact this
  obtain ⟨g2, ka2, kc2, hg2, hn2⟩ := hs.node hi
  simp only [Option.some.injEq, Addr.mk.injEq, and_true] at hg2
  obtain rfl := hg2
  have x20 := hn2.k
  rw [hk] at x20
  have hi' : (i : Int) < (rows.length : Int) := by omega
  have hk' : (k : Int) < 30 := by omega
  have HF : Hid (∀ W, CDs w0 W (some ⟨g, 0, none⟩) c rows P v (moreC s (k : Int)) f → Calls Tryz.prog 32 #[.pointer (some ⟨P, 0, none⟩), .int .i64 1, .int .i64 (i : Int)] W fun e w' => e = .returned (.tuple #[]) ∧ CDs w0 w' (some ⟨g, 0, none⟩) c rows P v (moreC s (k : Int)) (if f.1 = 0 then (1, (rowA rows i).pos) else f) ∧ KpD W w') := fun W hW => rfail_any hW hi 1
  have HD : Hid (∀ n, CDs w0 ((w.setCell ⟨cb, k, none⟩ (.int .i64 ((q : Int) + 1))).drewN n) (some ⟨g, 0, none⟩) c rows P v (moreC s (k : Int)) f ∧ KpD w ((w.setCell ⟨cb, k, none⟩ (.int .i64 ((q : Int) + 1))).drewN n)) := fun n => ⟨hs.below (below_drewN (Below.refl _ _)), hsk.trans (KpD.of_below (below_drewN (Below.refl _ _)))⟩
  obtain ⟨F, hF⟩ : ∃ F : Int × Int, F = (if f.1 = 0 ∧ m < q + 1 then (1, (rowA rows i).pos) else f) := ⟨_, rfl⟩
  rw [← hF]
  have HFF := Hid.out (p := Hid _) hF
  clear h hn hcv hcv' hcb hs hsk hq hn2 hk hi hk30 hqv hF
  go_enter Tryz.func34, Tryz.ntmps34
  go_wp2_with fail
  refine region_tail 16 (by kernel_rfl) (by kernel_rfl) ?_
  simp only [List.take_succ_cons, List.take_zero, List.drop_succ_cons, List.drop_zero]
  repeat still_step
  refine wpStill_nil ?_
  go_wp2_with fail
  go_quiet (fail)
  by_cases hlt : m < q + 1
  · have hlt' : (m : Int) < (q : Int) + 1 := by omega
    go_wp2_with fail
    refine Calls.mono (HF.out _ (HD.out _).1) ?_
    rintro e w2 ⟨rfl, h2, h3⟩
    have HZ := Hid.out (p := Hid _) (And.intro h2 h3)
    clear h2 h3
    go_wp2_with fail
    go_end0
    refine ⟨rfl, ?_, (HD.out _).2.trans HZ.out.2⟩
    have := HZ.out.1
    by_cases h0 : f.1 = 0
    · rw [if_pos h0] at this
      rw [HFF.out, if_pos ⟨h0, hlt⟩]
      exact this
    · rw [if_neg h0] at this
      rw [HFF.out, if_neg (fun e => h0 e.1)]
      exact this
  · have hlt' : ¬ (m : Int) < (q : Int) + 1 := by omega
    go_wp2_with fail
    go_end0
    rw [HFF.out, if_neg (fun e => hlt e.2)]
    exact ⟨rfl, HD.out _⟩
end
end

section
open Go.RowKit

section
variable {E : Int}
/-- Every expression: the program's parser reads it. -/
theorem qexpr_all : ∀ (N : Nat) (l : List Tok), l.length ≤ N → ∀ d, Cpr 169 [] E d l (unaryT E d l) ∧ ∀ k : Nat, k ≤ 5 → Cpr 162 [.int .i64 ((k : Int) + 1)] E d l (exprT E k d l) := by
  intro N
  induction N using Nat.strongRecOn with
  | _ N ih =>
    intro l hl d
    have IH : ∀ r : List Tok, r.length < l.length → ∀ d, Cpr 169 [] E d r (unaryT E d r) ∧ ∀ k : Nat, k ≤ 5 → Cpr 162 [.int .i64 ((k : Int) + 1)] E d r (exprT E k d r) := fun r hr d => ih r.length (by omega) r (Nat.le_refl _) d
    have hu := qahead (E := E) (l := l) (d := d) (fun r hr _ => (IH r hr (d + 1)).1) (fun r hr _ => (IH r hr (d + 1)).2 0 (by omega))
    exact ⟨hu, fun k hk => qexpr hk hu fun r m hr hm => (IH r hr d).2 m hm⟩
theorem qexpr0 (l : List Tok) (d : Nat) : Cpr 162 [.int .i64 1] E d l (exprT E 0 d l) := (qexpr_all l.length l (Nat.le_refl _) d).2 0 (by omega)
end
section
variable {C : Cx9} {w w' : World} {d : Nat} {bx : Option (Nat × Obj)} {ps : List (List Int × Value)} {l : List Tok} {rows : List Row}
/-- Two words or signs that are asked for. -/
theorem qword2 (h : GoP C w d bx ps l rows) (y z : ByteArray) (hy : isLit y.data.toList) (hz : isLit z.data.toList) (hsh : shOk d [y.data.toList, z.data.toList]) (R : Except (Int × Int) (Nat × List Tok)) (HR : wordsR C.E d [y.data.toList, z.data.toList] l = R) :
    Calls Tryz.prog 114 #[.pointer (some ⟨C.P, 0, none⟩), .slice (some ⟨w.heap.size, 0, none⟩) 2 2] (w.alloc (.cells #[.string y, .string z] 9)) fun e w' => WdQ C w bx ps rows R e w' := by
  have hA := (Below.refl w.heap.size w).alloc (Nat.le_refl _) (.cells #[.string y, .string z] 9)
  obtain ⟨i, -, -, -, hP⟩ := h.cells
  refine (qwords (h.below hA) w.heap.size 2 [y, z] rfl (by decide) (heap_alloc_new _ _) (by omega) (fun x hx => by simp at hx; rcases hx with rfl | rfl <;> assumption) hsh R HR).mono ?_
  intro e w' hq
  exact wdq_only hq (Only.of hA)
theorem words_two {E : Int} {y z : List UInt8} (h1 : ¬ opB y) (h2 : ¬ shB y) : wordsR E d [y, z] l = match takeT E y l with
    | .error q => .error q
    | .ok r => wordsR E d [z] r := by
  rw [wordsR, takeT]
  split
  · rw [if_neg (fun h => h1 h.1)]
    unfold stepD
    rw [if_neg h1, if_neg h2]
  · rfl
theorem lit_word {s : List UInt8} (h : isWord s = true) : isLit s := Or.inl h
end
end

section
open Go.RowKit

theorem name_ok9 {E : Int} {l r : List Tok} {s : List UInt8} (h : nameT E l = .ok (s, r)) : ∃ t, l = t :: r ∧ t.kind = 1 ∧ t.text = s := by
  cases l with
  | nil => cases h
  | cons t r' =>
    by_cases hk : t.kind = 1
    · rw [nameT_yes hk] at h
      have h1 := Except.ok.inj h
      simp only [Prod.mk.injEq] at h1
      exact ⟨t, by rw [h1.2], hk, h1.1⟩
    · rw [nameT_no hk] at h; cases h
theorem name_no9 {E : Int} {l : List Tok} {f : Int × Int} (h : nameT E l = .error f) : f = (5, posOf E l) ∧ (tokE E l).kind ≠ 1 := by
  cases l with
  | nil => cases h; exact ⟨rfl, fun e => by cases e⟩
  | cons t r =>
    by_cases hk : t.kind = 1
    · rw [nameT_yes hk] at h; cases h
    · rw [nameT_no hk] at h; cases h; exact ⟨rfl, hk⟩
section
variable {C : Cx9} {w w' : World} {d : Nat} {bx : Option (Nat × Obj)} {ps : List (List Int × Value)} {l : List Tok} {rows : List Row}
theorem qword1g (h : GoP C w d bx ps l rows) (g : Nat) (hgs : g = w.heap.size) (z : ByteArray) (hlit : isLit z.data.toList) (hsh : shB z.data.toList → 1 ≤ d) (R : Except (Int × Int) (Nat × List Tok)) (HR : wordsR C.E d [z.data.toList] l = R) :
    Calls Tryz.prog 114 #[.pointer (some ⟨C.P, 0, none⟩), .slice (some ⟨g, 0, none⟩) 1 1] (w.alloc (.cells #[.string z] 9)) fun e w' => WdQ C w bx ps rows R e w' := by
  subst hgs
  exact qword1 h z hlit hsh R HR
theorem qword2g (h : GoP C w d bx ps l rows) (g : Nat) (hgs : g = w.heap.size) (y z : ByteArray) (hy : isLit y.data.toList) (hz : isLit z.data.toList) (hsh : shOk d [y.data.toList, z.data.toList]) (R : Except (Int × Int) (Nat × List Tok)) (HR : wordsR C.E d [y.data.toList, z.data.toList] l = R) :
    Calls Tryz.prog 114 #[.pointer (some ⟨C.P, 0, none⟩), .slice (some ⟨g, 0, none⟩) 2 2] (w.alloc (.cells #[.string y, .string z] 9)) fun e w' => WdQ C w bx ps rows R e w' := by
  subst hgs
  exact qword2 h y z hy hz hsh R HR
theorem qis1g (h : GoP C w d bx ps l rows) (g : Nat) (hgs : g = w.heap.size) (z : ByteArray) (hlit : isLit z.data.toList) :
    Calls Tryz.prog 81 #[.pointer (some ⟨C.P, 0, none⟩), .slice (some ⟨g, 0, none⟩) 1 1] (w.alloc (.cells #[.string z] 9)) fun e w' => e = .returned (.bool (isTok z.data.toList l)) ∧ Below w.heap.size w w' := by
  subst hgs
  exact qis1 h z hlit
end
section
variable {E : Int} {d : Nat} {l : List Tok}
set_option maxRecDepth 100000 in
set_option maxHeartbeats 1600000 in
theorem qwithin (z : ByteArray) (hz : isWord z.data.toList = true) : Cpr 164 [.string z] E d l (bindL (takeT E z.data.toList l) fun r => heldT E d r) := by
  refine cpr_of fun C w rows hE hg => ?_
  subst hE
  have hp : ¬ opB z.data.toList ∧ ¬ shB z.data.toList := by
    simp only [isWord, decide_eq_true_eq, wordsL, List.mem_cons, List.not_mem_nil, or_false] at hz
    rcases hz with h | h | h | h | h | h | h | h | h | h <;> (rw [h]; decide)
  have HG := Hid.out (p := Hid _) hg
  obtain ⟨R, hR⟩ : ∃ R : TRes Nd, R = bindL (takeT C.E z.data.toList l) fun r => heldT C.E d r := ⟨_, rfl⟩
  rw [← hR]
  have HW := Hid.out (p := Hid _) (qword2 hg z ⟨#[40]⟩ (lit_word hz) (lit_sign (by decide)) ⟨fun h => absurd h hp.2, ⟨fun h => absurd h (by decide), trivial⟩⟩ _ (words_two hp.1 hp.2))
  clear hg hz hp
  go_enter Tryz.func164, Tryz.ntmps164
  go_wp2_with fail
  refine Calls.mono HW.out ?_
  intro e w1 hq
  cases ht : takeT C.E z.data.toList l with
  | error f =>
    rw [ht] at hq hR
    obtain ⟨rfl, hf⟩ := hq
    subst hR
    exact ⟨rfl, rfl, hf⟩
  | ok r =>
    rw [ht] at hq hR
    simp only [bindL] at hR
    rw [heldT_is] at hR
    change WdQ C w none [] rows (wordsR C.E d [[40]] r) e w1 at hq
    rw [words_open (Or.inl rfl)] at hq
    cases ho : openT C.E [40] d r with
    | error f =>
      rw [ho] at hq hR
      obtain ⟨rfl, hf⟩ := hq
      subst hR
      exact ⟨rfl, rfl, hf⟩
    | ok r1 =>
      rw [ho] at hq hR
      obtain ⟨rfl, hg1, -⟩ := hq
      simp only [bindL] at hR
      have HX := Hid.out (p := Hid _) (qexpr0 (E := C.E) r1 (d + 1) C w1 none [] rows rfl hg1)
      clear hg1 ho ht
      go_wp2_with fail
      refine Calls.mono HX.out ?_
      intro e w2 hq
      cases hx : exprT C.E 0 (d + 1) r1 with
      | error f =>
        rw [hx] at hq hR
        obtain ⟨rfl, hf⟩ := hq
        subst hR
        exact ⟨rfl, rfl, hf⟩
      | ok y =>
        obtain ⟨x, q⟩ := y
        rw [hx] at hq hR
        obtain ⟨rfl, hg2⟩ := hq
        simp only [bindT] at hR
        have HG2 := Hid.out (p := Hid _) hg2
        clear hg2 hx HX
        go_wp2_with fail
        refine Calls.mono (qword1 HG2.out _ (lit_sign (by decide)) (fun _ => Nat.le_add_left 1 d) _ (words_shut (Or.inl rfl))) ?_
        intro e w3 hq
        change WdQ C w2 none [] _ (liftD (takeT C.E [41] q) d) e w3 at hq
        cases ht : takeT C.E [41] q with
        | error f =>
          rw [ht] at hq hR
          obtain ⟨rfl, hf⟩ := hq
          subst hR
          exact ⟨rfl, rfl, hf⟩
        | ok p =>
          rw [ht] at hq hR
          obtain ⟨rfl, hg3, -⟩ := hq
          have HG3 := Hid.out (p := Hid _) hg3
          have HR := Hid.out (p := Hid _) hR
          clear hg3 ht hR
          go_wp2_with fail
          go_ret
          rw [HR.out]
          exact ⟨rfl, HG3.out⟩
set_option maxRecDepth 100000 in
set_option maxHeartbeats 1600000 in
theorem qprint : Cpr 152 [] E d l (bindT (bindL (takeT E wPrint l) fun r => heldT E d r) fun x r => bindL (takeT E [59] r) fun q => .ok (.mk 11 0 (posOf E l) [] [x], q)) := by
  refine cpr_of fun C w rows hE hg => ?_
  subst hE
  have hfw := hg.fewR
  have HN := Hid.out (p := Hid _) (qnext hg)
  have HG := Hid.out (p := Hid _) hg
  have hfd := fld2
  obtain ⟨R, hR⟩ : ∃ R : TRes Nd, R = bindT (bindL (takeT C.E wPrint l) fun r => heldT C.E d r) fun x r => bindL (takeT C.E [59] r) fun q => .ok (.mk 11 0 (posOf C.E l) [] [x], q) := ⟨_, rfl⟩
  rw [← hR]
  have HP : Hid ((tokE C.E l).pos = posOf C.E l) := tokE_pos _ _
  clear hg
  go_enter Tryz.func152, Tryz.ntmps152
  go_wp2_with (go_at_call 84; refine Calls.mono HN.out ?_; rintro e w1 ⟨rfl, hb⟩; rw [HP.out]; have HG1 := Hid.out (p := Hid _) (HG.out.below hb); clear hb)
  refine Calls.mono (qwithin (E := C.E) ⟨#[112, 114, 105, 110, 116]⟩ (by decide) C _ _ _ _ rfl (HG1.out.box (.cells #[.int .i64 11, .int .i64 0, .int .i64 (posOf C.E l), .string ⟨#[]⟩, nilV] 60))) ?_
  intro e w2 hq
  change PrQ C w2 d _ [] rows (bindL (takeT C.E wPrint l) fun r => heldT C.E d r) e at hq
  cases hx : (bindL (takeT C.E wPrint l) fun r => heldT C.E d r) with
  | error f =>
    rw [hx] at hq hR
    obtain ⟨rfl, hf⟩ := hq
    subst hR
    exact ⟨rfl, rfl, hf⟩
  | ok y =>
    obtain ⟨x, q⟩ := y
    rw [hx] at hq hR
    obtain ⟨rfl, hg2⟩ := hq
    simp only [bindT] at hR
    have hsz : ndSize x + q.length + 1 ≤ l.length := by
      cases ht : takeT C.E wPrint l with
      | error f => rw [ht] at hx; cases hx
      | ok r =>
        rw [ht] at hx
        simp only [bindL] at hx
        have h1 := take_len ht
        obtain ⟨n, y, hy⟩ := he_tot (e := C.E) d r
        have h3 := tld_is (he_up r) hy
        have h4 := (expr_size n).2.2.2 _ _ _ _ (hy.trans (congrArg some (h3.symm.trans hx)))
        omega
    obtain ⟨v, hv⟩ : ∃ v, v = ((rows.length + ndSize x : Nat) : Int) - 1 := ⟨_, rfl⟩
    rw [← hv]
    have HV := Hid.out (p := Hid _) hv
    obtain ⟨hb2, hbP, hbl⟩ := hg2.bxc
    have hbP2 : ¬ C.P = w1.heap.size := fun e => hbP e.symm
    obtain ⟨b0, b1, b2, b3, b4, bf⟩ := box5 hb2
    have HG2 := Hid.out (p := Hid _) hg2
    clear hg2 hx hb2 hv
    go_wp2_with fail
    have hg3 := (HG2.out.set4 (.slice (some ⟨w2.heap.size, 0, none⟩) 1 1)).kids [v] 1 rfl (Nat.le_refl _) #[.int .i64 v] rfl (by decide) w2.heap.size (by rw [set_size])
    refine Calls.mono (qword1g hg3 (w2.heap.size + 1) (by simp) ⟨#[59]⟩ (lit_sign (by decide)) (fun h => absurd h (by decide)) _ (words_one (by decide) (by decide))) ?_
    intro e w3 hq
    change WdQ C _ _ _ _ (liftD (takeT C.E [59] q) d) e w3 at hq
    cases ht : takeT C.E [59] q with
    | error f =>
      rw [ht] at hq hR
      obtain ⟨rfl, hf⟩ := hq
      subst hR
      exact ⟨rfl, rfl, hf⟩
    | ok p =>
      rw [ht] at hq hR
      obtain ⟨rfl, hg4, -⟩ := hq
      have h59 := take_len ht
      obtain ⟨hb4, -, hbl4⟩ := hg4.bxc
      obtain ⟨d0, d1, d2, d3, d4, df⟩ := box5 hb4
      have HG4 := Hid.out (p := Hid _) hg4
      have HR := Hid.out (p := Hid _) hR
      have hfe : (rows ++ flat rows.length x).length + 1 + p.length ≤ C.T.length := by
        rw [List.length_append, flat_len]
        have := hfw.1
        omega
      clear hg4 ht hR hb4 hg3 b0 b1 b2 b3 b4 bf
      go_wp2_with fail
      refine Calls.mono (qadd HG4.out 11 0 (posOf C.E l) [] [v] _ _ _ (Or.inl (List.mem_cons_self ..)) hfe) ?_
      rintro e w5 ⟨rfl, hg5⟩
      have HG5 := Hid.out (p := Hid _) hg5.drop
      clear hg5
      go_wp2_with fail
      go_ret
      rw [HR.out]
      refine ⟨?_, ?_⟩
      · exact ret_int (by first | (rw [List.length_append, flat_len, size_one]; omega) | (rw [flat_len, size_one]; omega))
      · have h7 : rows ++ flat rows.length (.mk 11 0 (posOf C.E l) [] [x]) = (rows ++ flat rows.length x) ++ [⟨11, 0, posOf C.E l, [], [v]⟩] := by
          rw [HV.out]
          simp [flat, flats, idxs]
        rw [h7]
        exact HG5.out
end
end

end Go.Proofs.YtggfbfjdiikaeaaGreatDoor
