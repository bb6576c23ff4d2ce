/-
  Nodes in memory, as they are read.
  The document's Same, of two lists of nodes that are the same.
  The law of nodes.
-/
import Derived.Test.YtclnjhffcfkihaeGreatDoorSynG
import Derived.Test.YtclnjhffcfkihaeGreatDoorPlain
import Derived.Deep.QuietTactic
import Derived.StillTailTactics
import Derived.Test.YtclnjhffcfkihaeGreatDoorSqW
namespace Go.Proofs.YtclnjhffcfkihaeGreatDoor
section
open Go.RowKit

/-- A row that is nothing. -/
def row0 : Row := ⟨0, 0, 0, [], []⟩
/-- One node in memory. -/
structure NdR (w : World) (g i : Nat) (r : Row) (ka : Option Addr) (kc : Nat) : Prop where
  k : w.cell? ⟨g, i * 5, none⟩ = some (.int .i64 r.kind)
  n : w.cell? ⟨g, i * 5 + 1, none⟩ = some (.int .i64 r.num)
  p : w.cell? ⟨g, i * 5 + 2, none⟩ = some (.int .i64 r.pos)
  t : w.cell? ⟨g, i * 5 + 3, none⟩ = some (.string ⟨⟨r.text⟩⟩)
  ks : w.cell? ⟨g, i * 5 + 4, none⟩ = some (.slice ka r.kids.length kc)
  kin : IIn w ka r.kids.length (fun j => r.kids.getD j 0)
/-- Nodes in memory, as they are read. -/
structure NdsR (w : World) (a : Option Addr) (rows : List Row) : Prop where
  get : ∀ i, i < rows.length → ∃ g ka kc, a = some ⟨g, 0, none⟩ ∧ NdR w g i (rows.getD i row0) ka kc
theorem NdR.below {w w' : World} {g i : Nat} {r : Row} {ka : Option Addr} {kc : Nat} (h : NdR w g i r ka kc) (hb : Below w.heap.size w w') : NdR w' g i r ka kc := by
  exact ⟨(hb.cell (lt_of_cell h.k)).trans h.k, (hb.cell (lt_of_cell h.n)).trans h.n, (hb.cell (lt_of_cell h.p)).trans h.p, (hb.cell (lt_of_cell h.t)).trans h.t, (hb.cell (lt_of_cell h.ks)).trans h.ks, h.kin.below hb⟩
theorem NdsR.below {w w' : World} {a : Option Addr} {rows : List Row} (h : NdsR w a rows) (hb : Below w.heap.size w w') : NdsR w' a rows := ⟨fun i hi => by
  obtain ⟨g, ka, kc, e, h1⟩ := h.get i hi
  exact ⟨g, ka, kc, e, h1.below hb⟩⟩
theorem nodsV_at : ∀ {l : List (Row × Value)} {i : Nat}, i < l.length → ∀ j, j < 5 → (nodsV l)[i * 5 + j]? = (nodC (l.getD i (row0, .slice none 0 0)))[j]?
  | [], i, h, _, _ => absurd h (Nat.not_lt_zero _)
  | x :: l, 0, _, j, hj => by
    show ((nodC x) ++ nodsV l)[0 * 5 + j]? = _
    rw [Nat.zero_mul, Nat.zero_add, List.getElem?_append_left (by simpa [nodC] using hj)]
    rfl
  | x :: l, i + 1, h, j, hj => by
    have := nodsV_at (l := l) (i := i) (by simpa using h) j hj
    show ((nodC x) ++ nodsV l)[(i + 1) * 5 + j]? = _
    rw [List.getElem?_append_right (by simp [nodC]; omega)]
    rw [show (i + 1) * 5 + j - (nodC x).length = i * 5 + j by simp [nodC]; omega]
    exact this
theorem kids_in {w : World} {v : Value} {ks : List Int} (h : w.ownsRow 0 3 1 v ks.length (ks.map fun k => .int .i64 k)) : ∃ ka kc, v = .slice ka ks.length kc ∧ IIn w ka ks.length (fun j => ks.getD j 0) := by
  obtain ⟨a, c, rfl⟩ := owns_slice h
  refine ⟨a, c, rfl, fun j hj => ?_⟩
  obtain ⟨g, cap, e, hg, _⟩ := fam_block h (by omega)
  simp only [Value.slice.injEq] at e
  refine ⟨g, 0, e.1, ?_⟩
  rw [Nat.zero_add]
  refine fam_cell h hg ?_
  simp [hj, List.getD_eq_getElem?_getD]
theorem NodesIn.read {w : World} {B : Nat} {v : Value} {rows : List Row} (h : NodesIn w B v rows) : ∃ a c, v = .slice a rows.length c ∧ NdsR w a rows := by
  obtain ⟨ys, h1, h2, h3⟩ := h
  have hl : ys.length = rows.length := by rw [← h2, List.length_map]
  obtain ⟨a, c, rfl⟩ := owns_slice h1
  refine ⟨a, c, by rw [hl], ⟨fun i hi => ?_⟩⟩
  have hi2 : i < ys.length := by omega
  obtain ⟨g, cap, e, hg, _⟩ := fam_block h1 (by omega)
  simp only [Value.slice.injEq] at e
  have hget : ys.getD i (row0, .slice none 0 0) ∈ ys := by rw [List.getD_eq_getElem?_getD, List.getElem?_eq_getElem hi2]; exact List.getElem_mem hi2
  have hr : rows.getD i row0 = (ys.getD i (row0, .slice none 0 0)).1 := by
    rw [← h2, List.getD_eq_getElem?_getD, List.getD_eq_getElem?_getD, List.getElem?_map, List.getElem?_eq_getElem hi2]; rfl
  obtain ⟨ka, kc, hv, hk⟩ := kids_in (h3 _ hget)
  have hc := fun j hj => nodsV_at hi2 j hj
  rw [← hr] at hv hk
  refine ⟨g, ka, kc, e.1, ⟨?_, ?_, ?_, ?_, ?_, hk⟩⟩
  · exact fam_cell h1 hg ((hc 0 (by omega)).trans (by rw [hr]; rfl))
  · exact fam_cell h1 hg ((hc 1 (by omega)).trans (by rw [hr]; rfl))
  · exact fam_cell h1 hg ((hc 2 (by omega)).trans (by rw [hr]; rfl))
  · exact fam_cell h1 hg ((hc 3 (by omega)).trans (by rw [hr]; rfl))
  · exact fam_cell h1 hg ((hc 4 (by omega)).trans (by rw [← hv]; rfl))
end

section
open Go.RowKit

/-- Are two rows the same, but for At where it is not asked? -/
def SameR (at9 : Bool) (x y : Row) : Prop := x.kind = y.kind ∧ x.num = y.num ∧ x.text = y.text ∧ x.kids = y.kids ∧ (at9 = true → x.pos = y.pos)
set_option maxRecDepth 100000 in
set_option maxHeartbeats 3200000 in
theorem same_at (a a' : Option Addr) (c c' : Nat) (xs ys : List Row) (hl : ys.length = xs.length) (hn : xs.length ≤ 100000) (hs : ∀ i, i < xs.length → SameR true (xs.getD i row0) (ys.getD i row0)) (hks : ∀ i, i < xs.length → (xs.getD i row0).kids.length ≤ 100000) (w : World) (h : NdsR w a xs) (h' : NdsR w a' ys) :
    Calls Tryz.prog 9 #[.slice a xs.length c, .slice a' ys.length c', .bool true] w fun e w' => e = .returned (.bool true) ∧ Below w.heap.size w w' := by
  rw [hl]
  have HS := Hid.out (p := Hid _) hs
  have HK := Hid.out (p := Hid _) hks
  have H := Hid.out (p := Hid _) h
  have H' := Hid.out (p := Hid _) h'
  have HL := Hid.out (p := Hid _) hl
  clear hs hks h h' hl
  obtain ⟨n, hN⟩ : ∃ n, n = xs.length := ⟨_, rfl⟩
  rw [← hN]
  rw [← hN] at hn
  have HN := Hid.out (p := Hid _) hN
  clear hN
  go_enter Tryz.func9, Tryz.ntmps9
  go_wp2
  go_loopw [7] (fun i wr => ∃ k : Nat, k ≤ n ∧ i = .int .i64 k ∧ Below w.heap.size w wr) (fun i _ => n - (intOf i).toNat)
  case atStart => exact ⟨0, Nat.zero_le _, rfl, Below.refl _ _⟩
  case round =>
    obtain ⟨k, hk, rfl, hbr⟩ := hrel
    by_cases hlt : k < n
    · obtain ⟨g, ka, kc, rfl, hx⟩ := (H.out.below hbr).get k (by rw [← HN.out]; exact hlt)
      obtain ⟨g', ka', kc', rfl, hy⟩ := (H'.out.below hbr).get k (by rw [HL.out, ← HN.out]; exact hlt)
      obtain ⟨e1, e2, e3, e4, e5⟩ := HS.out k (by rw [← HN.out]; exact hlt)
      have hkl := HK.out k (by rw [← HN.out]; exact hlt)
      obtain ⟨⟨xk, xn, xp, xt, xq⟩, hX⟩ : ∃ x, x = xs.getD k row0 := ⟨_, rfl⟩
      obtain ⟨⟨yk, yn, yp, yt, yq⟩, hY⟩ : ∃ y, y = ys.getD k row0 := ⟨_, rfl⟩
      rw [← hX] at hx e1 e2 e3 e4 e5 hkl
      rw [← hY] at hy e1 e2 e3 e4 e5
      simp only at e1 e2 e3 e4 e5 hkl
      subst e1 e2 e3 e4
      clear hX hY
      have x0 := hx.k
      have x1 := hx.n
      have x2 := hx.p
      have x3 := hx.t
      have x4 := hx.ks
      have y0 := hy.k
      have y1 := hy.n
      have y2 := hy.p
      have y3 := hy.t
      have y4 := hy.ks
      simp only at x0 x1 x2 x3 x4 y0 y1 y2 y3 y4
      have HX : Hid (IIn wr ka xq.length fun j => xq.getD j 0) := hx.kin
      have HY : Hid (IIn wr ka' xq.length fun j => xq.getD j 0) := hy.kin
      have hgl := lt_of_cell x0
      have hgl' := lt_of_cell y0
      have hlt' : (k : Int) < (n : Int) := by omega
      obtain ⟨m, hm⟩ : ∃ m, m = xq.length := ⟨_, rfl⟩
      rw [← hm] at x4 y4 hkl
      have HM := Hid.out (p := Hid _) hm
      have HI : Hid (∀ W, Below wr.heap.size wr W → Calls Tryz.prog 14 #[.slice ka m kc, .slice ka' m kc'] W fun e w' => e = .returned (.bool true) ∧ Below W.heap.size W w') := fun W hW => by
        rw [hm]
        exact ints_same ka ka' xq.length kc kc' (by omega) _ W (HX.out.below hW) (HY.out.below hW)
      have HXX : Hid (∀ W, Below wr.heap.size wr W → NdR W g k ⟨xk, xn, xp, xt, xq⟩ ka kc ∧ NdR W g' k ⟨xk, xn, yp, xt, xq⟩ ka' kc') := fun W hW => ⟨hx.below hW, hy.below hW⟩
      clear hx hy hm
      go_wp2_with fail
      refine region_tail 10 (by kernel_rfl) (by kernel_rfl) ?_
      simp only [List.take_succ_cons, List.take_zero, List.drop_succ_cons, List.drop_zero]
      repeat still_step
      refine wpStill_nil ?_
      go_wp2_with (go_at_call 14; refine Calls.mono (HI.out _ (Below.refl _ _).drew) ?_; rintro e w1 ⟨rfl, hb1⟩)
      have hb2 : Below wr.heap.size wr w1 := (Below.refl _ _).drew.trans hb1
      obtain ⟨hx, hy⟩ := HXX.out _ hb2
      clear x0 x1 x2 x3 x4 y0 y1 y2 y3 y4 hgl hgl'
      have x0 := hx.k
      have x1 := hx.n
      have x2 := hx.p
      have x3 := hx.t
      have y0 := hy.k
      have y1 := hy.n
      have y2 := hy.p
      have y3 := hy.t
      simp only at x0 x1 x2 x3 y0 y1 y2 y3
      have hgl := lt_of_cell x0
      have hgl' := lt_of_cell y0
      have HB2 := Hid.out (p := Hid _) (hbr.trans (hb2.mono hbr.size))
      clear hx hy hb1 hb2 hbr
      obtain rfl : xp = yp := by first | exact e5 rfl | exact e5 trivial
      go_wp2_with fail
      go_quiet (fail)
      all_goals go_wp2_with fail
      all_goals go_roundw
      case rel => exact ⟨k + 1, by omega, by go_num, below_drewN HB2.out⟩
      case measure => simp [intOf]; omega
    · go_wp2
      go_ret
      exact ⟨rfl, hbr⟩
end

section
open Go.RowKit

mutual
theorem kid_few : ∀ (x : Nd) (b : Nat) (r : Row), r ∈ flat b x → r.kids.length ≤ ndSize x
  | .mk k n p t ks, b, r, h => by
    rw [flat] at h
    rw [ndSize]
    rcases List.mem_append.1 h with h | h
    · have := kids_few ks b r h; omega
    · obtain rfl : r = ⟨k, n, p, t, idxs b ks⟩ := by simpa using h
      have := idxs_len ks b
      simp only
      omega
theorem kids_few : ∀ (ks : List Nd) (b : Nat) (r : Row), r ∈ flats b ks → r.kids.length ≤ ndsSize ks
  | [], _, r, h => by simp [flats] at h
  | x :: l, b, r, h => by
    rw [flats] at h
    rw [ndsSize]
    rcases List.mem_append.1 h with h | h
    · have := kid_few x b r h; omega
    · have := kids_few l _ r h; omega
end
/-- What is read has few nodes, with few kids. -/
theorem parse_few (s : List UInt8) : (parseT s).1.length ≤ 600 ∧ ∀ r, r ∈ (parseT s).1 → r.kids.length ≤ 600 := by
  unfold parseT
  split
  · exact ⟨by simp, fun r hr => by simp at hr⟩
  · split
    · exact ⟨by simp, fun r hr => by simp at hr⟩
    · rename_i ks q _
      split
      · exact ⟨by simp, fun r hr => by simp at hr⟩
      · refine ⟨by simp only [List.length_append, flats_len, List.length_cons, List.length_nil]; omega, fun r hr => ?_⟩
        rcases List.mem_append.1 hr with h | h
        · have := kids_few ks 0 r h; omega
        · obtain rfl : r = ⟨1, 0, 0, [], idxs 0 ks⟩ := by simpa using h
          have := idxs_len ks 0
          simp only
          omega
theorem getD_mem9 {l : List Row} {i : Nat} (h : i < l.length) : l.getD i row0 ∈ l := by
  rw [List.getD_eq_getElem?_getD, List.getElem?_eq_getElem h]; exact List.getElem_mem h
set_option maxRecDepth 100000 in
set_option maxHeartbeats 3200000 in
theorem synParses_any (s : ByteArray) (w : World) (hE : LEnv w) :
    Calls Tryz.prog 3 #[.string s] w fun e w' => e = .returned (.bool true) ∧ Below w.heap.size w w' := by
  obtain ⟨R, hR⟩ : ∃ R, parseT s.data.toList = R := ⟨_, rfl⟩
  have HR := Hid.out (p := Hid _) hR
  obtain ⟨hf1, hf2⟩ := parse_few s.data.toList
  rw [hR] at hf1 hf2
  obtain ⟨l, c, t⟩ := R
  simp only at hf1 hf2
  have HF := Hid.out (p := Hid _) (And.intro hf1 hf2)
  clear hR hf1 hf2
  go_enter Tryz.func3, Tryz.ntmps3
  go_wp2_with fail
  refine Calls.mono (parse_any s _ hE) ?_
  rintro e w1 ⟨⟨v, rfl, hown⟩, hb1⟩
  rw [HR.out] at hown ⊢
  obtain ⟨la, lc, rfl, hr1⟩ := hown.read
  have HO1 := Hid.out (p := Hid _) (And.intro hr1 hb1)
  clear hown hb1 hr1
  go_wp2_with fail
  refine Calls.mono (rparse_any s _) ?_
  rintro e w2 ⟨⟨v, rfl, hown⟩, hb2⟩
  rw [HR.out] at hown ⊢
  obtain ⟨ma, mc, rfl, hr2⟩ := hown.read
  have hA := (Below.refl w1.heap.size w1).alloc (Nat.le_refl _) (.cells #[.int .i64 c, .int .i64 0, .int .i64 t] 25)
  have hx2 := (hb2.block w1.heap.size (by simp)).trans (heap_alloc_new w1 _)
  have h12 := hA.trans (hb2.mono (by simp))
  have HO2 : Hid (NdsR w2 la l ∧ NdsR w2 ma l ∧ Below w.heap.size w w2 ∧ w2.heap[w1.heap.size]? = some (.cells #[.int .i64 c, .int .i64 0, .int .i64 t] 25)) := ⟨HO1.out.1.below h12, hr2, HO1.out.2.trans (h12.mono HO1.out.2.size), hx2⟩
  clear hown hb2 hA hx2 h12 hr2
  go_wp2_with fail
  have hA2 := (Below.refl w2.heap.size w2).alloc (Nat.le_refl _) (.cells #[.int .i64 c, .int .i64 0, .int .i64 t] 25)
  refine Calls.mono (same_at la ma lc mc l l rfl (by have := HF.out.1; omega) (fun i _ => ⟨rfl, rfl, rfl, rfl, fun _ => rfl⟩) (fun i hi => Nat.le_trans (HF.out.2 _ (getD_mem9 hi)) (by decide)) _ (HO2.out.1.below hA2) (HO2.out.2.1.below hA2)) ?_
  rintro e w3 ⟨rfl, hb3⟩
  have h23 := hA2.trans (hb3.mono (by simp))
  have hl2 : w1.heap.size < w2.heap.size := lt_of_cell (box_cell (i := 0) HO2.out.2.2.2 rfl)
  have hx3 := (h23.block w1.heap.size hl2).trans HO2.out.2.2.2
  have hy3 := (hb3.block w2.heap.size (by simp)).trans (heap_alloc_new w2 _)
  have p0 := box_cell (i := 0) hx3 rfl
  have p1 := box_cell (i := 1) hx3 rfl
  have p2 := box_cell (i := 2) hx3 rfl
  have q0 := box_cell (i := 0) hy3 rfl
  have q1 := box_cell (i := 1) hy3 rfl
  have q2 := box_cell (i := 2) hy3 rfl
  have HB3 : Hid (Below w.heap.size w w3) := HO2.out.2.2.1.trans (h23.mono HO2.out.2.2.1.size)
  clear hA2 hb3 h23 hx3 hy3 HO1 HO2
  go_wp2_with fail
  go_ret
  exact ⟨rfl, HB3.out⟩
end

end Go.Proofs.YtclnjhffcfkihaeGreatDoor
