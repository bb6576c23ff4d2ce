/-
  The document's Scan.
  The document's Parse: how it begins, its rounds, how it ends.
  Nodes in memory, as they are read.
-/
import Derived.Test.YtclnjhffcfkihaeGreatDoorLexZ4
import Derived.Test.YtclnjhffcfkihaeGreatDoorPrsC
import Derived.Test.YtclnjhffcfkihaeGreatDoorSynK1
namespace Go.Proofs.YtclnjhffcfkihaeGreatDoor
section
open Go.RowKit

section
variable {s : ByteArray} {p E f : Nat} {acc : List Tok}
theorem skAt_drop {B : Bool} (h : skAt s false p = (E, B)) : p + (skipL false (s.data.toList.drop p)).1 = E ∧ (skipL false (s.data.toList.drop p)).2 = B ∧ (s.data.toList.drop p).drop (skipL false (s.data.toList.drop p)).1 = s.data.toList.drop E := by
  simp only [skAt, Prod.mk.injEq] at h
  refine ⟨h.1, h.2, ?_⟩
  rw [List.drop_drop, h.1]
theorem scanF_bad (h : skAt s false p = (E, true)) : scanF (f + 1) p (s.data.toList.drop p) acc = ([], 4, (E : Int)) := by
  obtain ⟨h1, h2, h3⟩ := skAt_drop h
  rw [scanF, if_pos h2, h1]
theorem scanF_end (h : skAt s false p = (E, false)) (hE : s.size ≤ E) : scanF (f + 1) p (s.data.toList.drop p) acc = (acc, 0, 0) := by
  obtain ⟨h1, h2, h3⟩ := skAt_drop h
  rw [scanF, if_neg (by simp [h2]), h3, if_pos (drop_over s E hE)]
theorem scanF_none (h : skAt s false p = (E, false)) (hE : E < s.size) (ho : oneL (s.data.toList.drop E) = none) : scanF (f + 1) p (s.data.toList.drop p) acc = ([], 5, (E : Int)) := by
  obtain ⟨h1, h2, h3⟩ := skAt_drop h
  rw [scanF, if_neg (by simp [h2]), h3, if_neg (by rw [drop_at s E hE]; simp), ho, h1]
theorem scanF_more (h : skAt s false p = (E, false)) (hE : E < s.size) {k v : Int} {m : Nat} (ho : oneL (s.data.toList.drop E) = some (k, v, m)) :
    scanF (f + 1) p (s.data.toList.drop p) acc = scanF f (E + m) (s.data.toList.drop (E + m)) (acc ++ [⟨k, v, (E : Int), (s.data.toList.drop E).take m⟩]) := by
  obtain ⟨h1, h2, h3⟩ := skAt_drop h
  rw [scanF, if_neg (by simp [h2]), h3, if_neg (by rw [drop_at s E hE]; simp), ho]
  simp only [h1, List.drop_drop]
theorem oneL_at {i m : Nat} {k v : Int} (hi : i < s.size) (ho : oneL (s.data.toList.drop i) = some (k, v, m)) : 1 ≤ m ∧ i + m ≤ s.size := by
  have h1 := oneL_len ho
  have h2 : s.data.toList.length = s.size := by simp
  rw [List.length_drop, h2] at h1
  omega
end

/-- What Scan tells: the tokens' slice, the fault. -/
def ScanQ (B : Nat) (r : List Tok × (Int × Int)) (e : Ending) (w' : World) : Prop :=
  ∃ v, e = .returned (.tuple #[v, .agg #[.int .i64 r.2.1, .int .i64 0, .int .i64 r.2.2]]) ∧ OwnT w' B v r.1

attribute [local go_sem ↓] appS_eq

set_option maxRecDepth 100000 in
set_option maxHeartbeats 1600000 in
theorem rscan_long (s : ByteArray) (hl : 4000 < s.size) (w : World) :
    Calls Tryz.prog 17 #[.string s] w fun e w' => ScanQ w.heap.size (scanL s.data.toList) e w' ∧ Below w.heap.size w w' := by
  have hl' : (4000 : Int) < (s.size : Int) := by omega
  go_enter Tryz.func17, Tryz.ntmps17
  go_wp2
  have hq : scanL s.data.toList = ([], 1, 0) := by
    unfold scanL
    rw [if_pos (by rw [← Lib.size_eq]; exact hl)]
  rw [hq]
  exact bodyPost_ret (v := .tuple #[nilV, .agg #[.int .i64 1, .int .i64 0, .int .i64 0]]) (by simp [results, Tryz.results17, go_sem]) rfl ⟨⟨nilV, rfl, ownT_nil _ _⟩, (Below.refl _ _).alloc (Nat.le_refl _) _⟩

/-- A round of the document's Scan. -/
structure ScI (S wr : World) (s : ByteArray) (R : List Tok × (Int × Int)) (lv : Value) (E : Nat) (B : Bool) (p f : Nat) (acc : List Tok) : Prop where
  sk : skAt s false p = (E, B)
  fuel : s.size < p + f
  num : acc.length ≤ p
  pos : p ≤ s.size
  is : scanF f p (s.data.toList.drop p) acc = R
  own : OwnT wr S.heap.size lv acc
  low : Below S.heap.size S wr

set_option maxRecDepth 100000 in
set_option maxHeartbeats 3200000 in
theorem rscan_short (s : ByteArray) (hs : s.size ≤ 4000) (R : List Tok × (Int × Int)) (HR : Hid (scanL s.data.toList = R)) (w : World) :
    Calls Tryz.prog 17 #[.string s] w fun e w' => ScanQ w.heap.size R e w' ∧ Below w.heap.size w w' := by
  obtain ⟨⟨E, B⟩, hE⟩ : ∃ x, skAt s false 0 = x := ⟨_, rfl⟩
  have HE : Hid (skAt s false 0 = (E, B)) := hE
  have hs' : ¬ (4000 : Int) < (s.size : Int) := by omega
  obtain ⟨S, hS⟩ : ∃ V, w.alloc (.cells #[.int .i64 0, .int .i64 0, .int .i64 0] 25) = V := ⟨_, rfl⟩
  have HS := Hid.out (p := Hid _) hS
  have HSB : Hid (Below w.heap.size w S ∧ S.heap[w.heap.size]? = some (.cells #[.int .i64 0, .int .i64 0, .int .i64 0] 25)) := by
    show _ ∧ _
    rw [← hS]
    exact ⟨(Below.refl _ _).alloc (Nat.le_refl _) _, heap_alloc_new _ _⟩
  have HI0 : Hid (ScI S S s R nilV E B 0 (s.size + 1) []) := by
    refine ⟨hE, by omega, by simp, by omega, ?_, ownT_nil _ _, Below.refl _ _⟩
    have := HR.out
    unfold scanL at this
    rw [if_neg (by rw [← Lib.size_eq]; omega)] at this
    rw [← this, List.drop_zero, ← Lib.size_eq]
  clear hE hS
  go_enter Tryz.func17, Tryz.ntmps17
  go_wp2_with (first | (go_at_call 33; refine (rskip_any s hs 0 (Nat.zero_le _) E B HE _).mono ?_; rintro e w' ⟨rfl, rfl⟩))
  rw [HS.out]
  go_loopw [4, 5, 6] (fun l i b wr => ∃ (E : Nat) (B : Bool) (p f : Nat) (acc : List Tok), i = .int .i64 (E : Int) ∧ b = .bool B ∧ Hid (ScI S wr s R l E B p f acc)) (fun _ i _ _ => s.size - (intOf i).toNat)
  case atStart => exact ⟨E, B, 0, s.size + 1, [], rfl, rfl, HI0⟩
  case round =>
    obtain ⟨E, B, p, f, acc, rfl, rfl, HI⟩ := hrel
    have hlow : Below w.heap.size w wr := HSB.out.1.trans (HI.out.low.mono HSB.out.1.size)
    have hSlt : w.heap.size < S.heap.size := by
      have h2 := HSB.out.2
      rcases Nat.lt_or_ge w.heap.size S.heap.size with h | h
      · exact h
      · rw [Array.getElem?_eq_none h] at h2; cases h2
    have hbx : wr.heap[w.heap.size]? = some (.cells #[.int .i64 0, .int .i64 0, .int .i64 0] 25) := (HI.out.low.block _ hSlt).trans HSB.out.2
    have hwl : w.heap.size < wr.heap.size := Nat.lt_of_lt_of_le hSlt HI.out.low.size
    have hf : f = f - 1 + 1 := by have := HI.out.fuel; have := HI.out.pos; omega
    have HB : Hid (∀ V, Below wr.heap.size wr V → V.heap[w.heap.size]? = some (.cells #[.int .i64 0, .int .i64 0, .int .i64 0] 25)) := fun V hV => (hV.block _ hwl).trans hbx
    have HLow := Hid.out (p := Hid _) hlow
    clear hlow
    cases B with
    | true =>
      have HQ : Hid (R = ([], 4, (E : Int))) := by
        have h1 := HI.out.is
        rw [hf] at h1
        exact h1.symm.trans (scanF_bad HI.out.sk)
      clear hf
      have p0 : wr.cell? ⟨w.heap.size, 0, none⟩ = some (.int .i64 0) := box_cell hbx rfl
      have p1 : wr.cell? ⟨w.heap.size, 1, none⟩ = some (.int .i64 0) := box_cell hbx rfl
      have p2 : wr.cell? ⟨w.heap.size, 2, none⟩ = some (.int .i64 0) := box_cell hbx rfl
      have pf : ∀ i, wr.frozen? ⟨w.heap.size, i, none⟩ = false := fun i => box_free hbx
      by_cases hlt : (E : Int) < (s.size : Int)
      all_goals
        go_wp2
        refine bodyPost_ret (v := .tuple #[nilV, .agg #[.int .i64 4, .int .i64 0, .int .i64 (E : Int)]]) (by simp [results, Tryz.results17, go_sem, p0, p1, p2]) rfl ⟨?_, ?_⟩
        · rw [HQ.out]
          exact ⟨nilV, rfl, ownT_nil _ _⟩
        · exact ((HLow.out.setCell (Nat.le_refl _) _).setCell (Nat.le_refl _) _).setCell (Nat.le_refl _) _
    | false =>
      by_cases hlt : E < s.size
      · have hlt' : (E : Int) < (s.size : Int) := by omega
        cases ho : oneL (s.data.toList.drop E) with
        | none =>
          have HQ : Hid (R = ([], 5, (E : Int))) := by
            have h1 := HI.out.is
            rw [hf] at h1
            exact h1.symm.trans (scanF_none HI.out.sk hlt ho)
          have HO := Hid.out (p := Hid _) ho
          clear hf ho
          go_wp2_with (first | (go_at_call 34; refine (rone_any s hs E hlt _).mono ?_; rintro e w1 ⟨hq, hb1⟩; unfold OneQ at hq; rw [HO.out] at hq; obtain rfl := hq; have hx := fun o => HB.out (w1.alloc o) (hb1.alloc hb1.size o); have p0 := fun o => box_cell (i := 0) (hx o) rfl; have p1 := fun o => box_cell (i := 1) (hx o) rfl; have p2 := fun o => box_cell (i := 2) (hx o) rfl; have pf := fun o i => box_free (i := i) (hx o); clear hx))
          refine bodyPost_ret (v := .tuple #[nilV, .agg #[.int .i64 5, .int .i64 0, .int .i64 (E : Int)]]) (by simp [results, Tryz.results17, go_sem, p0, p1, p2]) rfl ⟨?_, ?_⟩
          · rw [HQ.out]
            exact ⟨nilV, rfl, ownT_nil _ _⟩
          · have h2 := HLow.out.trans (hb1.mono HLow.out.size)
            exact (((h2.alloc h2.size _).setCell (Nat.le_refl _) _).setCell (Nat.le_refl _) _).setCell (Nat.le_refl _) _
        | some x =>
          obtain ⟨k, v, m⟩ := x
          obtain ⟨hm1, hm2⟩ := oneL_at hlt ho
          obtain ⟨x, hx⟩ : ∃ x : ByteArray, s.extract E (E + m) = x := ⟨_, rfl⟩
          have hxl : x.data.toList = (s.data.toList.drop E).take m := by rw [← hx, ext_list, Nat.add_sub_cancel_left]
          obtain ⟨⟨E', B'⟩, hE'⟩ : ∃ y, skAt s false (E + m) = y := ⟨_, rfl⟩
          have hE2 := skAt_le (s := s) (k := E + m) false hm2
          rw [hE'] at hE2
          simp only at hE2
          have HE' : Hid (skAt s false (E + m) = (E', B')) := hE'
          have hpE : p ≤ E := by have := skAt_le (s := s) (k := p) false HI.out.pos; rw [HI.out.sk] at this; exact this.1
          have HN : Hid (∀ wr2 lv2, OwnT wr2 S.heap.size lv2 (acc ++ [⟨k, v, (E : Int), x.data.toList⟩]) → Below S.heap.size S wr2 → ScI S wr2 s R lv2 E' B' (E + m) (f - 1) (acc ++ [⟨k, v, (E : Int), x.data.toList⟩])) := fun wr2 lv2 h1 h2 => by
            refine ⟨hE', by have := HI.out.fuel; omega, by have := HI.out.num; simp; omega, hm2, ?_, h1, h2⟩
            have h3 := HI.out.is
            rw [hf] at h3
            rw [← h3, scanF_more HI.out.sk hlt ho, hxl]
          have HO := Hid.out (p := Hid _) ho
          have HX := Hid.out (p := Hid _) hx
          have hm3 : (E + m : Nat) ≤ s.size := hm2
          clear hf ho hx hxl hE'
          go_wp2_with fail
          refine (rone_any s hs E hlt _).mono ?_
          rintro e w1 ⟨hq, hb1⟩
          unfold OneQ at hq
          rw [HO.out] at hq
          simp only [HX.out] at hq
          obtain rfl := hq
          have hb2 : Below wr.heap.size wr (w1.alloc (.cells #[.int .i64 k, .int .i64 v, .int .i64 (E : Int), .string x] 66)) := hb1.alloc hb1.size _
          obtain ⟨g, cap, w3, r1, r2, r3⟩ := app_tok HI.out.own hb2 HI.out.low.size ⟨k, v, (E : Int), x.data.toList⟩ (by have := HI.out.num; omega)
          have h3 := app_tok_below HI.out.own hb2 r3 HI.out.low.size (HI.out.low.trans (hb2.mono HI.out.low.size))
          have es : (w1.alloc (.cells #[.int .i64 k, .int .i64 v, .int .i64 (E : Int), .string x] 66)).heap.size = w1.heap.size + 1 := by simp
          rw [es] at r1
          replace r1 : (AppS #[42, 42] 42 #[u4, .slice (some ⟨w1.heap.size + 1, 0, none⟩) 1 1]).run Tryz.prog ((w1.alloc (.cells #[.int .i64 k, .int .i64 v, .int .i64 (E : Int), .string x] 66)).alloc (.cells #[.int .i64 k, .int .i64 v, .int .i64 (E : Int), .string x] 66)) = .ok (.slice (some ⟨g, 0, none⟩) (acc.length + 1) cap) w3 := r1
          have HI2 := Hid.out (p := Hid _) (HN.out w3 _ r2 h3)
          clear hb2 r2 r3 h3 es
          go_wp2_with (first | (go_at_call 33; refine (rskip_any s hs (E + m) hm3 E' B' HE' _).mono ?_; rintro e w' ⟨rfl, rfl⟩))
          go_roundw
          case rel => exact ⟨E', B', E + m, f - 1, _, rfl, rfl, HI2⟩
          case measure => simp [intOf]; omega
      · have HQ : Hid (R = (acc, 0, 0)) := by
          have h1 := HI.out.is
          rw [hf] at h1
          exact h1.symm.trans (scanF_end HI.out.sk (by omega))
        have hlt' : ¬ (E : Int) < (s.size : Int) := by omega
        clear hf
        have p0 : wr.cell? ⟨w.heap.size, 0, none⟩ = some (.int .i64 0) := box_cell hbx rfl
        have p1 : wr.cell? ⟨w.heap.size, 1, none⟩ = some (.int .i64 0) := box_cell hbx rfl
        have p2 : wr.cell? ⟨w.heap.size, 2, none⟩ = some (.int .i64 0) := box_cell hbx rfl
        have pf : ∀ i, wr.frozen? ⟨w.heap.size, i, none⟩ = false := fun i => box_free hbx
        go_wp2
        refine bodyPost_ret (v := .tuple #[u4, .agg #[.int .i64 0, .int .i64 0, .int .i64 0]]) (by simp [results, Tryz.results17, go_sem, p0, p1, p2]) rfl ⟨?_, ?_⟩
        · rw [HQ.out]
          refine ⟨u4, rfl, ?_⟩
          exact own_low (ownsRow_setCell_below (ownsRow_setCell_below (ownsRow_setCell_below HI.out.own hSlt _) hSlt _) hSlt _) (Nat.le_of_lt hSlt)
        · exact ((HLow.out.setCell (Nat.le_refl _) _).setCell (Nat.le_refl _) _).setCell (Nat.le_refl _) _

/-- The document's Scan, of every text. -/
theorem rscan_any (s : ByteArray) (w : World) :
    Calls Tryz.prog 17 #[.string s] w fun e w' => ScanQ w.heap.size (scanL s.data.toList) e w' ∧ Below w.heap.size w w' := by
  rcases Nat.lt_or_ge 4000 s.size with h | h
  · exact rscan_long s h w
  · exact rscan_short s h _ (rfl : _ = _) w
end

section
open Go.RowKit

/-- Nodes in memory, with their kids. -/
def NodesIn (w : World) (B : Nat) (v : Value) (rows : List Row) : Prop := ∃ ys : List (Row × Value), OwnN w B v ys ∧ ys.map Prod.fst = rows ∧ ∀ y, y ∈ ys → w.ownsRow 0 3 1 y.2 y.1.kids.length (y.1.kids.map fun k => .int .i64 k)
/-- What Parse tells. -/
def ParseQ (B : Nat) (r : List Row × (Int × Int)) (e : Ending) (w' : World) : Prop :=
  ∃ v, e = .returned (.tuple #[v, .agg #[.int .i64 r.2.1, .int .i64 0, .int .i64 r.2.2]]) ∧ NodesIn w' B v r.1
theorem nodes_nil (w : World) (B : Nat) : NodesIn w B nilV [] := ⟨[], World.ownsRow_nil _ _ _ _, rfl, fun y hy => by simp at hy⟩

section
variable {C : Cx9} {w w' : World} {d M : Nat} {bx : Option (Nat × Obj)} {ps : List (List Int × Value)} {s : Except (Int × Int) (List Tok)} {rows : List Row}
theorem GoS.pslt (h : GoS C w d M bx ps s rows) : ∀ p, p ∈ ps → ∀ g, p.2.ownBlock = some g → g < w.heap.size := by
  obtain ⟨lv, h⟩ := h
  exact fun p hp g hg => ((h.ps p hp).kd.own.lt g hg).2
/-- The parser at its beginning. -/
theorem go_start (W : World) (P : Nat) (T : List Tok) (E : Int) (tv : Value) (hP : W.heap[P]? = some (.cells #[tv, .int .i64 E, .int .i64 0, .int .i64 0, nilV, .int .i64 0, .int .i64 0, .int .i64 0] 48)) (ht : OwnT W 0 tv T) (hap : tv.ownBlock ≠ some P) (hT : T.length ≤ 4000) (N : Nat) :
    GoS ⟨W, nilV, P, P, T, E, tv, fun _ => False⟩ W 0 N none [] (.ok T) [] := by
  have hPl : P < W.heap.size := by
    rcases Nat.lt_or_ge P W.heap.size with h1 | h1
    · exact h1
    · rw [Array.getElem?_eq_none h1] at hP; cases hP
  refine ⟨nilV, FrN.of (Only.refl _ _), fun z hz => (by cases hz), fun p hp => (by simp at hp), [], ⟨⟨0, rfl, ⟨hP, ht, hap, Nat.zero_le _, hT⟩⟩, ⟨World.ownsRow_nil _ _ _ _, Nat.le_of_lt hPl, by simp [Value.ownBlock], fun g hg => by simp [Value.ownBlock] at hg⟩, fun x hx => by simp at hx, by simp⟩, rfl, fun y hy => by simp at hy⟩
theorem GoS.frame (h : GoS C w d M bx ps s rows) (hl : C.lv0 = nilV) {B : Nat} (hB : B ≤ C.P) (hBw : B ≤ C.w0.heap.size) : Below B C.w0 w := by
  obtain ⟨lv, h⟩ := h
  exact ⟨h.fr.os, h.fr.tape, h.fr.output, h.fr.size, fun k hk => h.fr.block k (by omega) (by omega) (by rw [hl]; simp [Value.ownBlock])⟩
theorem GoS.keeps (h : GoS C w d M bx ps s rows) (hl : C.lv0 = nilV) {k : Nat} (hk : k < C.w0.heap.size) (hne : k ≠ C.P) : w.heap[k]? = C.w0.heap[k]? := by
  obtain ⟨lv, h⟩ := h
  exact h.fr.block k hk hne (by rw [hl]; simp [Value.ownBlock])
end

theorem GoS.errp {C : Cx9} {w : World} {d M : Nat} {bx : Option (Nat × Obj)} {ps : List (List Int × Value)} {f : Int × Int} {rows : List Row} (h : GoS C w d M bx ps (.error f) rows) : f.1 ≠ 0 ∧ ∃ i d1 lv, Ps w C.P C.T C.E i d1 C.tv lv f.1 f.2 := by
  obtain ⟨lv, h⟩ := h
  obtain ⟨d1, ys, h1, _⟩ := h.st
  exact ⟨h1.1, _, d1, lv, h1.2⟩
/-- All nodes are there. -/
structure FinS (C : Cx9) (w : World) (rows : List Row) (lv : Value) : Prop where
  ps : ∃ i d1, Ps w C.P C.T C.E i d1 C.tv lv 0 0
  nds : NodesIn w C.B lv rows
  apart : lv.ownBlock ≠ some C.P
  kid : ∃ ys : List (Row × Value), OwnN w C.B lv ys ∧ ys.map Prod.fst = rows ∧ ∀ y, y ∈ ys → y.2.ownBlock ≠ some C.P ∧ w.ownsRow 0 3 1 y.2 y.1.kids.length (y.1.kids.map fun k => .int .i64 k)
  low : ∀ k, k < C.w0.heap.size → k ≠ C.P → some k ≠ C.lv0.ownBlock → w.heap[k]? = C.w0.heap[k]?
  os : w.os = C.w0.os
  tape : w.tape = C.w0.tape
  output : w.output = C.w0.output
  size : C.w0.heap.size ≤ w.heap.size
/-- The last node. -/
theorem glast {C : Cx9} {w : World} {M : Nat} {ka : Option Addr} {kn kc : Nat} {ks : List Int} {l : List Tok} {rows : List Row} (h : GoS C w 0 M none [(ks, .slice ka kn kc)] (.ok l) rows) :
    Calls Tryz.prog 23 #[.pointer (some ⟨C.P, 0, none⟩), .agg #[.int .i64 1, .int .i64 0, .int .i64 0, .string ⟨#[]⟩, .slice ka kn kc]] w fun e w' => ∃ v, e = .returned (.int .i64 v) ∧ ∃ lv, FinS C w' (rows ++ [⟨1, 0, 0, [], ks⟩]) lv := by
  have hfew := h.few
  have hfw := h.fewR
  obtain ⟨lv, h⟩ := h
  obtain ⟨ys, hok, hr, hkb⟩ := h.st
  have hl : ys.length = rows.length := by rw [← hr, List.length_map]
  have hkd := (h.ps _ (List.mem_cons_self ..)).kd
  refine (rnode_lst hok.aft hok.lst (by omega) 1 0 0 [] ks ka kn kc).mono ?_
  rintro e w' ⟨rfl, lv', ha, hl', hfr⟩
  refine ⟨_, rfl, lv', ?_⟩
  have hf2 := h.fr.trans hfr
  obtain ⟨i, _, hp⟩ := ha
  have hk : ∀ y, y ∈ ys ++ [((⟨1, 0, 0, [], ks⟩ : Row), Value.slice ka kn kc)] → y.2.ownBlock ≠ some C.P ∧ w'.ownsRow 0 3 1 y.2 y.1.kids.length (y.1.kids.map fun k => .int .i64 k) := fun y hy => by
    rcases List.mem_append.1 hy with hy | hy
    · have := (hok.kid y hy).fr hfr
      exact ⟨this.apart, this.own⟩
    · obtain rfl : y = (⟨1, 0, 0, [], ks⟩, .slice ka kn kc) := by simpa using hy
      have := hkd.fr hfr
      exact ⟨this.apart, this.own⟩
  have hm : (ys ++ [((⟨1, 0, 0, [], ks⟩ : Row), Value.slice ka kn kc)]).map Prod.fst = rows ++ [⟨1, 0, 0, [], ks⟩] := by rw [List.map_append, hr]; rfl
  exact ⟨⟨i, _, hp⟩, ⟨_, hl'.own, hm, fun y hy => (hk y hy).2⟩, hl'.apart, ⟨_, hl'.own, hm, hk⟩, hf2.block, hf2.os, hf2.tape, hf2.output, hf2.size⟩

/-- A round of globals. -/
inductive GlI (C : Cx9) (M : Nat) (G : TRes (List Nd)) (g : Nat) (kv : Value) (wr : World) : Prop where
  | ok (xs : List Nd) (q : List Tok) (n : Nat) (hg : GoS C wr 0 M none [(idxs 0 xs, kv)] (.ok q) (flats 0 xs)) (hG : globalsT C.E n xs q = G) (hn : q.length ≤ n) (hs : ndsSize xs + q.length ≤ C.T.length) (hm : q.length + 2 ≤ g) (hq : ToksOk q)
  | err (f : Int × Int) (ks : List Int) (hg : GoS C wr 0 M none [(ks, kv)] (.error f) []) (hG : G = .error f) (hm : 1 ≤ g)
/-- A round of threads. -/
inductive ThI (C : Cx9) (M : Nat) (Z : TRes (List Nd)) (g : Nat) (kv : Value) (wr : World) : Prop where
  | ok (xs : List Nd) (q : List Tok) (hg : GoS C wr 0 M none [(idxs 0 xs, kv)] (.ok q) (flats 0 xs)) (hZ : threadsT C.E xs q = Z) (hs : ndsSize xs + q.length ≤ C.T.length) (hm : q.length + 2 ≤ g)
  | err (f : Int × Int) (ks : List Int) (hg : GoS C wr 0 M none [(ks, kv)] (.error f) []) (hZ : Z = .error f) (hm : 1 ≤ g)
theorem global_size {e : Int} {l r : List Tok} {x : Nd} (hl : ToksOk l) (h : globalT e l = .ok (x, r)) : ndSize x = 1 ∧ r.length < l.length ∧ ToksOk r := by
  have hw := global_wf hl h
  have key : ndSize x = 1 ∧ r.length < l.length := by
    unfold globalT at h
    split at h
    · cases hn : nameT e l.tail with
      | error f => rw [hn] at h; cases h
      | ok y =>
        obtain ⟨s, q⟩ := y
        rw [hn] at h
        simp only at h
        cases ht : takeT e [59] q with
        | error f => rw [ht] at h; cases h
        | ok p =>
          rw [ht] at h
          have h1 := Except.ok.inj h
          simp only [Prod.mk.injEq] at h1
          have h2 := name_len hn
          have h3 := take_len ht
          have h4 := tail_le l
          rw [← h1.1, ← h1.2]
          exact ⟨rfl, by omega⟩
    · cases ht0 : takeT e wInt l with
      | error f => rw [ht0] at h; cases h
      | ok l1 =>
        rw [ht0] at h
        simp only at h
        have h0 := take_len ht0
        cases hn : nameT e l1 with
        | error f => rw [hn] at h; cases h
        | ok y =>
          obtain ⟨s, q⟩ := y
          rw [hn] at h
          simp only at h
          have h2 := name_len hn
          split at h
          · split at h
            · cases h
            · rename_i v p hv
              have h5 := tnum_len hv
              cases ht : takeT e [59] p with
              | error f => rw [ht] at h; cases h
              | ok z =>
                rw [ht] at h
                have h1 := Except.ok.inj h
                simp only [Prod.mk.injEq] at h1
                have h3 := take_len ht
                have h4 := tail_le q
                have h6 := tail_le q.tail
                rw [← h1.1, ← h1.2]
                refine ⟨rfl, ?_⟩
                split at h5 <;> omega
          · cases ht : takeT e [59] q with
            | error f => rw [ht] at h; cases h
            | ok z =>
              rw [ht] at h
              have h1 := Except.ok.inj h
              simp only [Prod.mk.injEq] at h1
              have h3 := take_len ht
              rw [← h1.1, ← h1.2]
              exact ⟨rfl, by omega⟩
  exact ⟨key.1, key.2, hw.2⟩
end

section
open Go.RowKit

/-- A row that is nothing. -/
def row0 : Row := ⟨0, 0, 0, [], []⟩
/-- One node in memory. -/
structure NdR (w : World) (g i : Nat) (r : Row) (ka : Option Addr) (kc : Nat) : Prop where
  k : w.cell? ⟨g, i * 5, none⟩ = some (.int .i64 r.kind)
  n : w.cell? ⟨g, i * 5 + 1, none⟩ = some (.int .i64 r.num)
  p : w.cell? ⟨g, i * 5 + 2, none⟩ = some (.int .i64 r.pos)
  t : w.cell? ⟨g, i * 5 + 3, none⟩ = some (.string ⟨⟨r.text⟩⟩)
  ks : w.cell? ⟨g, i * 5 + 4, none⟩ = some (.slice ka r.kids.length kc)
  kin : IIn w ka r.kids.length (fun j => r.kids.getD j 0)
  cap : r.kids.length ≤ kc
/-- Nodes in memory, as they are read. -/
structure NdsR (w : World) (a : Option Addr) (rows : List Row) : Prop where
  get : ∀ i, i < rows.length → ∃ g ka kc, a = some ⟨g, 0, none⟩ ∧ NdR w g i (rows.getD i row0) ka kc
theorem NdR.below {w w' : World} {g i : Nat} {r : Row} {ka : Option Addr} {kc : Nat} (h : NdR w g i r ka kc) (hb : Below w.heap.size w w') : NdR w' g i r ka kc := by
  exact ⟨(hb.cell (lt_of_cell h.k)).trans h.k, (hb.cell (lt_of_cell h.n)).trans h.n, (hb.cell (lt_of_cell h.p)).trans h.p, (hb.cell (lt_of_cell h.t)).trans h.t, (hb.cell (lt_of_cell h.ks)).trans h.ks, h.kin.below hb, h.cap⟩
theorem NdsR.below {w w' : World} {a : Option Addr} {rows : List Row} (h : NdsR w a rows) (hb : Below w.heap.size w w') : NdsR w' a rows := ⟨fun i hi => by
  obtain ⟨g, ka, kc, e, h1⟩ := h.get i hi
  exact ⟨g, ka, kc, e, h1.below hb⟩⟩
theorem nodsV_at : ∀ {l : List (Row × Value)} {i : Nat}, i < l.length → ∀ j, j < 5 → (nodsV l)[i * 5 + j]? = (nodC (l.getD i (row0, .slice none 0 0)))[j]?
  | [], i, h, _, _ => absurd h (Nat.not_lt_zero _)
  | x :: l, 0, _, j, hj => by
    show ((nodC x) ++ nodsV l)[0 * 5 + j]? = _
    rw [Nat.zero_mul, Nat.zero_add, List.getElem?_append_left (by simpa [nodC] using hj)]
    rfl
  | x :: l, i + 1, h, j, hj => by
    have := nodsV_at (l := l) (i := i) (by simpa using h) j hj
    show ((nodC x) ++ nodsV l)[(i + 1) * 5 + j]? = _
    rw [List.getElem?_append_right (by simp [nodC]; omega)]
    rw [show (i + 1) * 5 + j - (nodC x).length = i * 5 + j by simp [nodC]; omega]
    exact this
theorem kids_in {w : World} {v : Value} {ks : List Int} (h : w.ownsRow 0 3 1 v ks.length (ks.map fun k => .int .i64 k)) : ∃ ka kc, v = .slice ka ks.length kc ∧ IIn w ka ks.length (fun j => ks.getD j 0) ∧ ks.length ≤ kc := by
  obtain ⟨a, c, rfl⟩ := owns_slice h
  have hcap : ks.length ≤ c := by
    rcases h.2 with ⟨h0, h1⟩ | ⟨g', cap', cur, hv, _, _, h1, _⟩
    · omega
    · simp only [Value.slice.injEq, true_and] at hv
      omega
  refine ⟨a, c, rfl, fun j hj => ?_, hcap⟩
  obtain ⟨g, cap, e, hg, _⟩ := fam_block h (by omega)
  simp only [Value.slice.injEq] at e
  refine ⟨g, 0, e.1, ?_⟩
  rw [Nat.zero_add]
  refine fam_cell h hg ?_
  simp [hj, List.getD_eq_getElem?_getD]
theorem NodesIn.read {w : World} {B : Nat} {v : Value} {rows : List Row} (h : NodesIn w B v rows) : ∃ a c, v = .slice a rows.length c ∧ NdsR w a rows := by
  obtain ⟨ys, h1, h2, h3⟩ := h
  have hl : ys.length = rows.length := by rw [← h2, List.length_map]
  obtain ⟨a, c, rfl⟩ := owns_slice h1
  refine ⟨a, c, by rw [hl], ⟨fun i hi => ?_⟩⟩
  have hi2 : i < ys.length := by omega
  obtain ⟨g, cap, e, hg, _⟩ := fam_block h1 (by omega)
  simp only [Value.slice.injEq] at e
  have hget : ys.getD i (row0, .slice none 0 0) ∈ ys := by rw [List.getD_eq_getElem?_getD, List.getElem?_eq_getElem hi2]; exact List.getElem_mem hi2
  have hr : rows.getD i row0 = (ys.getD i (row0, .slice none 0 0)).1 := by
    rw [← h2, List.getD_eq_getElem?_getD, List.getD_eq_getElem?_getD, List.getElem?_map, List.getElem?_eq_getElem hi2]; rfl
  obtain ⟨ka, kc, hv, hk, hcp⟩ := kids_in (h3 _ hget)
  have hc := fun j hj => nodsV_at hi2 j hj
  rw [← hr] at hv hk hcp
  refine ⟨g, ka, kc, e.1, ⟨?_, ?_, ?_, ?_, ?_, hk, hcp⟩⟩
  · exact fam_cell h1 hg ((hc 0 (by omega)).trans (by rw [hr]; rfl))
  · exact fam_cell h1 hg ((hc 1 (by omega)).trans (by rw [hr]; rfl))
  · exact fam_cell h1 hg ((hc 2 (by omega)).trans (by rw [hr]; rfl))
  · exact fam_cell h1 hg ((hc 3 (by omega)).trans (by rw [hr]; rfl))
  · exact fam_cell h1 hg ((hc 4 (by omega)).trans (by rw [← hv]; rfl))
end

end Go.Proofs.YtclnjhffcfkihaeGreatDoor
