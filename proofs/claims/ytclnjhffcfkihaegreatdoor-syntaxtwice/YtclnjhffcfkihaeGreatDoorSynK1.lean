/-
  Trees that stand in rows; how long what is printed of them is.
  Nodes in memory, as they are read.
  The document's printer: expressions.
  The document's printer: statements.
-/
import Derived.Test.YtclnjhffcfkihaeGreatDoorSynE
import Derived.Test.YtclnjhffcfkihaeGreatDoorSynY
import Derived.Test.YtclnjhffcfkihaeGreatDoorSynF2
import Derived.Test.YtclnjhffcfkihaeGreatDoorPlain
import Derived.Test.YtclnjhffcfkihaeGreatDoorBase
import Derived.Lib.ItoaLen
import Derived.Laws.IdiomStrings
namespace Go.Proofs.YtclnjhffcfkihaeGreatDoor
section
mutual
/-- A tree stands in rows, its own node at i. -/
def TAt (rows : List Row) : Nd → Nat → Prop
  | .mk k n p t ks, i => ∃ is, rows[i]? = some ⟨k, n, p, t, is⟩ ∧ TsAt rows ks is
def TsAt (rows : List Row) : List Nd → List Int → Prop
  | [], is => is = []
  | x :: r, is => ∃ (i : Nat) (js : List Int), is = (i : Int) :: js ∧ TAt rows x i ∧ TsAt rows r js
end
theorem size_pos (x : Nd) : 1 ≤ ndSize x := by
  cases x with
  | mk k n p t ks => rw [ndSize]; omega
mutual
theorem flat_at : ∀ (x : Nd) (pre post : List Row), TAt (pre ++ flat pre.length x ++ post) x (pre.length + ndSize x - 1)
  | .mk k n p t ks, pre, post => by
    rw [TAt]
    refine ⟨idxs pre.length ks, ?_, ?_⟩
    · rw [flat, ndSize, ← flats_len ks pre.length]
      rw [show pre.length + ((flats pre.length ks).length + 1) - 1 = (pre ++ flats pre.length ks).length by rw [List.length_append]; omega]
      rw [← List.append_assoc, List.append_assoc (pre ++ flats pre.length ks), List.getElem?_append_right (Nat.le_refl _), Nat.sub_self]
      rfl
    · have := flats_at ks pre ([⟨k, n, p, t, idxs pre.length ks⟩] ++ post)
      rw [flat]
      simpa [List.append_assoc] using this
theorem flats_at : ∀ (ks : List Nd) (pre post : List Row), TsAt (pre ++ flats pre.length ks ++ post) ks (idxs pre.length ks)
  | [], _, _ => by rw [TsAt, idxs]
  | x :: r, pre, post => by
    rw [TsAt]
    have h1 := flat_at x pre (flats (pre.length + ndSize x) r ++ post)
    have h2 := flats_at r (pre ++ flat pre.length x) post
    rw [List.length_append, flat_len] at h2
    rw [flats, idxs]
    have hp := size_pos x
    refine ⟨pre.length + ndSize x - 1, idxs (pre.length + ndSize x) r, ?_, ?_, ?_⟩
    · rw [show ((pre.length + ndSize x - 1 : Nat) : Int) = ((pre.length + ndSize x : Nat) : Int) - 1 by omega]
    · simpa [List.append_assoc] using h1
    · simpa [List.append_assoc] using h2
end
/-- A program's trees stand in its rows. -/
theorem prog_at (ks : List Nd) : TsAt (rowsP ks) ks (idxs 0 ks) := by
  have := flats_at ks [] [⟨1, 0, 0, [], idxs 0 ks⟩]
  simpa [rowsP] using this
theorem ts_len {rows : List Row} : ∀ {ks : List Nd} {is : List Int}, TsAt rows ks is → is.length = ks.length
  | [], _, h => by rw [TsAt] at h; rw [h]; rfl
  | x :: r, _, h => by
    rw [TsAt] at h
    obtain ⟨i, js, rfl, _, h3⟩ := h
    simp [ts_len h3]
theorem ts_get {rows : List Row} : ∀ {ks : List Nd} {is : List Int} {j : Nat} {x : Nd}, TsAt rows ks is → ks[j]? = some x → ∃ i : Nat, is[j]? = some (i : Int) ∧ TAt rows x i
  | [], _, _, _, _, h => by simp at h
  | y :: r, _, 0, x, h, he => by
    rw [TsAt] at h
    obtain ⟨i, js, rfl, h2, _⟩ := h
    simp only [List.getElem?_cons_zero, Option.some.injEq] at he
    subst he
    exact ⟨i, rfl, h2⟩
  | y :: r, _, j + 1, x, h, he => by
    rw [TsAt] at h
    obtain ⟨i, js, rfl, _, h3⟩ := h
    simp only [List.getElem?_cons_succ] at he ⊢
    exact ts_get h3 he
theorem pcsB_len_app (a b : List Pc) : (pcsB (a ++ b)).length = (pcsB a).length + (pcsB b).length := by rw [pcsB_app, List.length_append]
theorem lvl_len {t : List UInt8} (h : 0 ≤ lvl t) : t.length ≤ 2 := by
  unfold lvl at h
  split at h
  · rename_i e; rw [e]; decide
  · split at h
    · rename_i e; rw [e]; decide
    · split at h
      · rename_i e; rcases e with e | e | e | e | e | e <;> (rw [e]; decide)
      · split at h
        · rename_i e; rcases e with e | e <;> (rw [e]; decide)
        · split at h
          · rename_i e; rw [e]; decide
          · omega
/-- An expression with brackets or without. -/
theorem side_len (x : Nd) (m : Int) : (pcsB (sideP x m)).length ≤ (pcsB (pcsX x)).length + 2 := by
  unfold sideP
  split
  · rw [pcsB_len_app, pcsB_len_app]
    simp only [pcsB, pcB, List.length_append, List.length_cons, List.length_nil]
    omega
  · omega
theorem pcsX_one (k n p : Int) (t : List UInt8) (a : Nd) (hk : ¬ k = 15) : pcsX (.mk k n p t [a]) = .t (4, 0, if k = 17 then [45] else [33]) :: sideP a 5 := by
  rw [pcsX, if_neg hk]; rfl
theorem pcsX_two (k n p : Int) (t : List UInt8) (a b : Nd) (r : List Nd) (hk : ¬ k = 15) : pcsX (.mk k n p t (a :: b :: r)) = sideP a (lvl t) ++ [.b 32, .t (4, 0, t), .b 32] ++ sideP b (lvl t + 1) := by
  rw [pcsX, if_neg hk]; rfl
/-- What an expression is. -/
theorem wfx_cases {x : Nd} (h : WfX x) : (∃ n p, x = .mk 15 n p [] [] ∧ 0 ≤ n ∧ n ≤ 999999999) ∨ (∃ p t, x = .mk 16 0 p t [] ∧ NameOk t) ∨ (∃ k p a, x = .mk k 0 p [] [a] ∧ (k = 17 ∨ k = 18) ∧ WfX a) ∨ (∃ p t a b, x = .mk 19 0 p t [a, b] ∧ 0 ≤ lvl t ∧ WfX a ∧ WfX b) := by
  match x, h with
  | .mk k n p t ks, h =>
    unfold WfX at h
    rcases h with ⟨rfl, h0, h9, rfl, rfl⟩ | ⟨hk, rfl, hw⟩
    · exact Or.inl ⟨n, p, rfl, h0, h9⟩
    · match ks, hw with
      | [], hw => exact Or.inr (Or.inl ⟨p, t, by rw [hw.1], hw.2⟩)
      | [a], hw => exact Or.inr (Or.inr (Or.inl ⟨k, p, a, by rw [hw.2.1], hw.1, hw.2.2⟩))
      | [a, b], hw => exact Or.inr (Or.inr (Or.inr ⟨p, t, a, b, by rw [hw.1], hw.2⟩))
theorem len_x : ∀ N x, ndSize x ≤ N → WfX x → (pcsB (pcsX x)).length ≤ 12 * ndSize x
  | 0, x, hN, _ => by have := size_pos x; omega
  | N + 1, x, hN, hw => by
    rcases wfx_cases hw with ⟨n, p, rfl, h0, h9⟩ | ⟨p, t, rfl, ht⟩ | ⟨k, p, a, rfl, hk, ha⟩ | ⟨p, t, a, b, rfl, hl, ha, hb⟩
    · have := dec_len n.toNat (by omega)
      rw [pcsX, if_pos rfl]
      simp only [pcsB, pcB, ndSize, ndsSize, List.length_append, List.length_nil]
      omega
    · rw [pcsX, if_neg (by decide)]
      have := ht.2.1
      simp only [pcsB, pcB, ndSize, ndsSize, List.length_append, List.length_nil]
      omega
    · rw [pcsX_one _ _ _ _ _ (by omega)]
      simp only [ndSize, ndsSize] at hN ⊢
      have h1 := len_x N a (by omega) ha
      have h2 := side_len a 5
      simp only [pcsB, pcB, List.length_append]
      have h3 : (if k = 17 then [45] else [33] : List UInt8).length = 1 := by split <;> rfl
      omega
    · rw [pcsX_two _ _ _ _ _ _ _ (by decide)]
      simp only [ndSize, ndsSize] at hN ⊢
      have h1 := len_x N a (by omega) ha
      have h2 := len_x N b (by omega) hb
      have h3 := side_len a (lvl t)
      have h4 := side_len b (lvl t + 1)
      have h5 := lvl_len hl
      rw [pcsB_len_app, pcsB_len_app]
      simp only [pcsB, pcB, List.length_append, List.length_cons, List.length_nil]
      omega
theorem pcsNs_is (i : Nat) (ks : List Nd) : pcsNs i ks = ks.map (pcsN i) := by
  induction ks with
  | nil => rfl
  | cons x r ih => rw [pcsNs, ih]; rfl
end

section
open Go.RowKit

/-- A row that is nothing. -/
def row0 : Row := ⟨0, 0, 0, [], []⟩
/-- One node in memory. -/
structure NdR (w : World) (g i : Nat) (r : Row) (ka : Option Addr) (kc : Nat) : Prop where
  k : w.cell? ⟨g, i * 5, none⟩ = some (.int .i64 r.kind)
  n : w.cell? ⟨g, i * 5 + 1, none⟩ = some (.int .i64 r.num)
  p : w.cell? ⟨g, i * 5 + 2, none⟩ = some (.int .i64 r.pos)
  t : w.cell? ⟨g, i * 5 + 3, none⟩ = some (.string ⟨⟨r.text⟩⟩)
  ks : w.cell? ⟨g, i * 5 + 4, none⟩ = some (.slice ka r.kids.length kc)
  kin : IIn w ka r.kids.length (fun j => r.kids.getD j 0)
/-- Nodes in memory, as they are read. -/
structure NdsR (w : World) (a : Option Addr) (rows : List Row) : Prop where
  get : ∀ i, i < rows.length → ∃ g ka kc, a = some ⟨g, 0, none⟩ ∧ NdR w g i (rows.getD i row0) ka kc
theorem NdR.below {w w' : World} {g i : Nat} {r : Row} {ka : Option Addr} {kc : Nat} (h : NdR w g i r ka kc) (hb : Below w.heap.size w w') : NdR w' g i r ka kc := by
  exact ⟨(hb.cell (lt_of_cell h.k)).trans h.k, (hb.cell (lt_of_cell h.n)).trans h.n, (hb.cell (lt_of_cell h.p)).trans h.p, (hb.cell (lt_of_cell h.t)).trans h.t, (hb.cell (lt_of_cell h.ks)).trans h.ks, h.kin.below hb⟩
theorem NdsR.below {w w' : World} {a : Option Addr} {rows : List Row} (h : NdsR w a rows) (hb : Below w.heap.size w w') : NdsR w' a rows := ⟨fun i hi => by
  obtain ⟨g, ka, kc, e, h1⟩ := h.get i hi
  exact ⟨g, ka, kc, e, h1.below hb⟩⟩
theorem nodsV_at : ∀ {l : List (Row × Value)} {i : Nat}, i < l.length → ∀ j, j < 5 → (nodsV l)[i * 5 + j]? = (nodC (l.getD i (row0, .slice none 0 0)))[j]?
  | [], i, h, _, _ => absurd h (Nat.not_lt_zero _)
  | x :: l, 0, _, j, hj => by
    show ((nodC x) ++ nodsV l)[0 * 5 + j]? = _
    rw [Nat.zero_mul, Nat.zero_add, List.getElem?_append_left (by simpa [nodC] using hj)]
    rfl
  | x :: l, i + 1, h, j, hj => by
    have := nodsV_at (l := l) (i := i) (by simpa using h) j hj
    show ((nodC x) ++ nodsV l)[(i + 1) * 5 + j]? = _
    rw [List.getElem?_append_right (by simp [nodC]; omega)]
    rw [show (i + 1) * 5 + j - (nodC x).length = i * 5 + j by simp [nodC]; omega]
    exact this
theorem kids_in {w : World} {v : Value} {ks : List Int} (h : w.ownsRow 0 3 1 v ks.length (ks.map fun k => .int .i64 k)) : ∃ ka kc, v = .slice ka ks.length kc ∧ IIn w ka ks.length (fun j => ks.getD j 0) := by
  obtain ⟨a, c, rfl⟩ := owns_slice h
  refine ⟨a, c, rfl, fun j hj => ?_⟩
  obtain ⟨g, cap, e, hg, _⟩ := fam_block h (by omega)
  simp only [Value.slice.injEq] at e
  refine ⟨g, 0, e.1, ?_⟩
  rw [Nat.zero_add]
  refine fam_cell h hg ?_
  simp [hj, List.getD_eq_getElem?_getD]
theorem NodesIn.read {w : World} {B : Nat} {v : Value} {rows : List Row} (h : NodesIn w B v rows) : ∃ a c, v = .slice a rows.length c ∧ NdsR w a rows := by
  obtain ⟨ys, h1, h2, h3⟩ := h
  have hl : ys.length = rows.length := by rw [← h2, List.length_map]
  obtain ⟨a, c, rfl⟩ := owns_slice h1
  refine ⟨a, c, by rw [hl], ⟨fun i hi => ?_⟩⟩
  have hi2 : i < ys.length := by omega
  obtain ⟨g, cap, e, hg, _⟩ := fam_block h1 (by omega)
  simp only [Value.slice.injEq] at e
  have hget : ys.getD i (row0, .slice none 0 0) ∈ ys := by rw [List.getD_eq_getElem?_getD, List.getElem?_eq_getElem hi2]; exact List.getElem_mem hi2
  have hr : rows.getD i row0 = (ys.getD i (row0, .slice none 0 0)).1 := by
    rw [← h2, List.getD_eq_getElem?_getD, List.getD_eq_getElem?_getD, List.getElem?_map, List.getElem?_eq_getElem hi2]; rfl
  obtain ⟨ka, kc, hv, hk⟩ := kids_in (h3 _ hget)
  have hc := fun j hj => nodsV_at hi2 j hj
  rw [← hr] at hv hk
  refine ⟨g, ka, kc, e.1, ⟨?_, ?_, ?_, ?_, ?_, hk⟩⟩
  · exact fam_cell h1 hg ((hc 0 (by omega)).trans (by rw [hr]; rfl))
  · exact fam_cell h1 hg ((hc 1 (by omega)).trans (by rw [hr]; rfl))
  · exact fam_cell h1 hg ((hc 2 (by omega)).trans (by rw [hr]; rfl))
  · exact fam_cell h1 hg ((hc 3 (by omega)).trans (by rw [hr]; rfl))
  · exact fam_cell h1 hg ((hc 4 (by omega)).trans (by rw [← hv]; rfl))
end

section
open Go.RowKit

theorem TAt.node {rows : List Row} {a : Option Addr} {w : World} {k n p : Int} {t : List UInt8} {ks : List Nd} {i : Nat} (h : TAt rows (.mk k n p t ks) i) (hr : NdsR w a rows) : i < rows.length ∧ ∃ is g ka kc, a = some ⟨g, 0, none⟩ ∧ NdR w g i ⟨k, n, p, t, is⟩ ka kc ∧ TsAt rows ks is := by
  rw [TAt] at h
  obtain ⟨is, h1, h2⟩ := h
  have hi : i < rows.length := by
    rcases Nat.lt_or_ge i rows.length with h | h
    · exact h
    · rw [List.getElem?_eq_none h] at h1; cases h1
  obtain ⟨g, ka, kc, e, hn⟩ := hr.get i hi
  have hg : rows.getD i row0 = ⟨k, n, p, t, is⟩ := by rw [List.getD_eq_getElem?_getD, h1]; rfl
  rw [hg] at hn
  exact ⟨hi, is, g, ka, kc, e, hn, h2⟩
theorem str_is {b : ByteArray} {l : List UInt8} (h : b.data.toList = l) : b = ⟨⟨l⟩⟩ := by rw [← h]
/-- What is read of a node that was copied. -/
theorem kid_cell {w : World} {ka : Option Addr} {is : List Int} (h : IIn w ka is.length (fun j => is.getD j 0)) (j : Nat) (x : Int) (hj : is[j]? = some x) : ∃ b o, ka = some ⟨b, o, none⟩ ∧ w.cell? ⟨b, o + j, none⟩ = some (.int .i64 x) ∧ j < is.length := by
  have hl : j < is.length := by
    rcases Nat.lt_or_ge j is.length with h1 | h1
    · exact h1
    · rw [List.getElem?_eq_none h1] at hj; cases hj
  obtain ⟨b, o, e, hc⟩ := h j hl
  simp only [List.getD_eq_getElem?_getD, hj, Option.getD_some] at hc
  exact ⟨b, o, e, hc, hl⟩
theorem ts_one {rows : List Row} {x : Nd} {is : List Int} (h : TsAt rows [x] is) : ∃ i : Nat, is = [(i : Int)] ∧ TAt rows x i := by
  rw [TsAt] at h
  obtain ⟨i, js, rfl, h1, h2⟩ := h
  rw [TsAt] at h2
  exact ⟨i, by rw [h2], h1⟩
theorem ts_two {rows : List Row} {x y : Nd} {is : List Int} (h : TsAt rows [x, y] is) : ∃ i j : Nat, is = [(i : Int), (j : Int)] ∧ TAt rows x i ∧ TAt rows y j := by
  rw [TsAt] at h
  obtain ⟨i, js, rfl, h1, h2⟩ := h
  obtain ⟨j, rfl, h3⟩ := ts_one h2
  exact ⟨i, j, rfl, h1, h3⟩
theorem ts_three {rows : List Row} {x y z : Nd} {is : List Int} (h : TsAt rows [x, y, z] is) : ∃ i j k : Nat, is = [(i : Int), (j : Int), (k : Int)] ∧ TAt rows x i ∧ TAt rows y j ∧ TAt rows z k := by
  rw [TsAt] at h
  obtain ⟨i, js, rfl, h1, h2⟩ := h
  obtain ⟨j, k, rfl, h3, h4⟩ := ts_two h2
  exact ⟨i, j, k, rfl, h1, h3, h4⟩
end

section
open Go.RowKit

/-- Tabs. -/
def tabB (d : Nat) : List UInt8 := List.replicate d 9
theorem tab_is : ∀ d : Nat, pcsB (tabsP d) = tabB d
  | 0 => rfl
  | d + 1 => by
    have := tab_is d
    unfold tabsP tabB at *
    rw [List.replicate_succ, pcsB, this, List.replicate_succ]
    rfl
theorem tab_len (d : Nat) : (tabB d).length = d := by simp [tabB]
theorem tab_next (d : Nat) : tabB (d + 1) = tabB d ++ [9] := by
  unfold tabB
  rw [List.replicate_succ']
/-- A block's statements. -/
def bodP (d : Nat) : Nd → List Pc
  | .mk _ _ _ _ ks => (pcsNs d ks).flatten
theorem pcsN_x {d : Nat} {x : Nd} (h : 15 ≤ kindN x) : pcsN d x = pcsX x := by
  match x, h with
  | .mk k n p t ks, h => rw [pcsN]; exact if_pos h
theorem pcsN_b {d : Nat} {x : Nd} (h : kindN x = 5) : pcsN d x = pS 123 :: .b 10 :: (bodP (d + 1) x ++ (tabsP d ++ [pS 125])) := by
  match x, h with
  | .mk k n p t ks, h =>
    obtain rfl : k = 5 := h
    rw [pcsN, if_neg (by decide), if_pos rfl, partsP, if_pos rfl, bodP]
end

end Go.Proofs.YtclnjhffcfkihaeGreatDoor
