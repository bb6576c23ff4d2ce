/-
  Which orders let something wait, and which thread is too long, by the document.
-/
import Derived.Test.YtgofbkgfonlceacZF7
import Derived.Deep.RegionHeld3
namespace Go.Proofs.Ytgofbkgfonlceac
open Go.RowKit

def stL (f : Nat → Bool) (l j : Nat) : List Bool := (List.range l).map fun i => if i < j then f i else false
theorem stL_len (f : Nat → Bool) (l j : Nat) : (stL f l j).length = l := by simp [stL]
theorem stL_at {f : Nat → Bool} {l j i : Nat} (hi : i < l) : (stL f l j)[i]? = some (if i < j then f i else false) := by simp [stL, hi]
theorem stL_set {f : Nat → Bool} {l j : Nat} : (boolsV (stL f l j)).set j (.bool (f j)) = boolsV (stL f l (j + 1)) := by
  unfold boolsV
  rw [← List.map_set]
  congr 1
  apply List.ext_getElem?
  intro i
  by_cases hi : i < l
  · rw [List.getElem?_set]
    by_cases h : j = i
    · subst h
      rw [if_pos rfl, if_pos (by rw [stL_len]; exact hi), stL_at hi, if_pos (by omega)]
    · rw [if_neg h, stL_at hi, stL_at hi]
      by_cases h2 : i < j
      · rw [if_pos h2, if_pos (by omega)]
      · rw [if_neg h2, if_neg (by omega)]
  · rw [List.getElem?_eq_none (by rw [List.length_set, stL_len]; omega), List.getElem?_eq_none (by rw [stL_len]; omega)]
theorem st_start (w : World) (f : Nat → Bool) (l : Nat) (hl : l ≤ 400) : ∃ w1, (Instr.makeSlice 55 (.int .i64 (l : Int)) (.int .i64 (l : Int))).run Try.prog w = .ok (.slice (some ⟨w.heap.size, 0, none⟩) l l) w1 ∧ w1.ownsRow w.heap.size 4 1 (.slice (some ⟨w.heap.size, 0, none⟩) l l) l (boolsV (stL f l 0)) ∧ Below w.heap.size w w1 := by
  obtain ⟨i, hi, hz0, hz1, hz2⟩ := info_is infoB
  obtain ⟨w1, r1, r2, r3⟩ := run_makeSlice_full (P := Try.prog) w w.heap.size 55 4 i (.bool false) 1 Try.underlying55 hi hz0 hz1 .i64 .i64 l (by omega) (by rw [hz2]; omega) (by unfold maxLen; omega) (Nat.le_refl _)
  have hlow : Below w.heap.size w w1 := (Below.refl _ _).grown r3 (Nat.le_refl _) (fun k hk => by cases hk)
  refine ⟨w1, by simpa using r1, ?_, hlow⟩
  rw [Nat.mul_one] at r2
  have e : (Value.bool false).cells = #[Value.bool false] := rfl
  have e2 : wsL l [] = stL f l 0 := by
    apply List.ext_getElem?
    intro i
    by_cases h : i < l
    · simp [wsL, stL, h]
    · rw [List.getElem?_eq_none (by simp [wsL]; omega), List.getElem?_eq_none (by rw [stL_len]; omega)]
  rw [e, made_bools, e2] at r2
  exact r2
/-- What is known while the threads are looked at: k of them. -/
structure StI (S : World) (L : Nat → Nat) (f : Nat → Nat → Bool) (k : Nat) (W : World) (wv : Value) (tv : List Value) : Prop where
  low : Below S.heap.size S W
  row : W.ownsRow S.heap.size 55 1 wv k tv
  thr : ∀ t, t < k → ∃ g, tv.getD t nilV = .slice (some ⟨g, 0, none⟩) (L t) (L t) ∧ W.ownsRow S.heap.size 4 1 (.slice (some ⟨g, 0, none⟩) (L t) (L t)) (L t) (boolsV (stL (f t) (L t) (L t))) ∧ wv.ownBlock ≠ some g
section
variable {S W : World} {L : Nat → Nat} {f : Nat → Nat → Bool} {k : Nat} {wv : Value} {tv : List Value}
theorem StI.start (S : World) (L : Nat → Nat) (f : Nat → Nat → Bool) : StI S L f 0 S nilV [] := ⟨Below.refl _ _, World.ownsRow_nil _ _ _ _, fun t h => absurd h (by omega)⟩
theorem StI.below (h : StI S L f k W wv tv) {W' : World} (hb : Below W.heap.size W W') : StI S L f k W' wv tv :=
  ⟨h.low.trans (hb.mono h.low.size), owns_below2 h.row hb, fun t ht => by
    obtain ⟨g, h1, h2, h3⟩ := h.thr t ht
    exact ⟨g, h1, owns_below2 h2 hb, h3⟩⟩
theorem StI.push (h : StI S L f k W wv tv) {V : World} (hb : Below W.heap.size W V) {g0 : Nat} (hr : V.ownsRow W.heap.size 4 1 (.slice (some ⟨g0, 0, none⟩) (L k) (L k)) (L k) (boolsV (stL (f k) (L k) (L k)))) (hk : k ≤ 1000) :
    ∃ g cap w3, (AppS #[35, 35] 35 #[wv, .slice (some ⟨V.heap.size, 0, none⟩) 1 1]).run Try.prog (V.alloc (.cells #[.slice (some ⟨g0, 0, none⟩) (L k) (L k)] 55)) = .ok (.slice (some ⟨g, 0, none⟩) (k + 1) cap) w3 ∧ StI S L f (k + 1) w3 (.slice (some ⟨g, 0, none⟩) (k + 1) cap) (tv ++ [.slice (some ⟨g0, 0, none⟩) (L k) (L k)]) := by
  have h0 := h.below hb
  have hl := h0.low.size
  obtain ⟨g, cap, w3, r1, r2, r3, r4⟩ := app_row (T := 35) Try.underlying35 infoBs rfl (by omega) h0.row (Below.refl _ V) hl 1 #[.slice (some ⟨g0, 0, none⟩) (L k) (L k)] rfl (by simp [Value.oneCell']) (by omega) (by omega) (by omega)
  have hbA : Below V.heap.size V (V.alloc (.cells #[.slice (some ⟨g0, 0, none⟩) (L k) (L k)] 55)) := (Below.refl _ _).alloc (Nat.le_refl _) _
  have hlow : Below S.heap.size S w3 := (h0.low.alloc hl _).grown r3 (by simp; omega) (fun q hq => (h0.row.lt q hq).1)
  have hold : ∀ x, x < V.heap.size → wv.ownBlock ≠ some x → x ≠ g := fun x hx hne e => by
    rcases r4 with r4 | r4
    · exact hne (by rw [r4, e])
    · omega
  have htl : tv.length = k := by have := h.row.1; omega
  have hlt0 := hr.lt g0 rfl
  refine ⟨g, cap, w3, r1, ⟨hlow, r2, fun t ht => ?_⟩⟩
  by_cases e : t = k
  · subst e
    have e1 : (tv ++ [Value.slice (some ⟨g0, 0, none⟩) (L t) (L t)]).getD t nilV = .slice (some ⟨g0, 0, none⟩) (L t) (L t) := by simp [List.getD, ← htl]
    have hwn : wv.ownBlock ≠ some g0 := fun e2 => by have := (h.row.lt g0 e2).2; omega
    refine ⟨g0, e1, own_grown (owns_below2 (own_low hr (by have := h.low.size; omega)) hbA) r3 (fun x hx => ?_), fun e2 => ?_⟩
    · have : g0 = x := by simpa [Value.ownBlock] using hx
      rw [← this]; exact hwn
    · have : g = g0 := by simpa [Value.ownBlock] using e2
      exact hold g0 hlt0.2 hwn this.symm
  · have ht' : t < k := by omega
    have e1 : (tv ++ [Value.slice (some ⟨g0, 0, none⟩) (L k) (L k)]).getD t nilV = tv.getD t nilV := by simp [List.getD, List.getElem?_append_left (show t < tv.length by omega)]
    obtain ⟨g1, h1, h2, h5⟩ := h0.thr t ht'
    refine ⟨g1, by rw [e1]; exact h1, own_grown (owns_below2 h2 hbA) r3 (fun x hx => ?_), fun e2 => ?_⟩
    · have : g1 = x := by simpa [Value.ownBlock] using hx
      rw [← this]; exact h5
    · have : g = g1 := by simpa [Value.ownBlock] using e2
      exact hold g1 (h2.lt g1 rfl).2 h5 this.symm
theorem StI.done {n : Nat} (h : StI S L f n W wv tv) : WsIn W wv n L f := fun t ht => by
  obtain ⟨g1, h1, h2, _⟩ := h.thr t ht
  obtain ⟨g, cap, e, hg, _⟩ := fam_block h.row (by omega)
  have htl : tv.length = n := by have := h.row.1; omega
  refine ⟨g, cap, g1, L t, e, fam_cell h.row hg ?_, fun i hi => fam_cell h2 rfl (boolsV_at ?_)⟩
  · rw [← h1]
    simp [List.getD, show t < tv.length by omega]
  · rw [stL_at hi, if_pos hi]
end
set_option maxRecDepth 100000 in
set_option maxHeartbeats 1600000 in
/-- The first thread that is too long. -/
theorem long_any (w : World) (ca : Option Addr) (n cc : Nat) (wa : Option Addr) (m wc : Nat) (lk rg : Int) (A : Nat → Option Addr) (L C : Nat → Nat) (X : Nat → Nat → Nat → Int) (hp : PIn w ca n A L C X) (hn : n ≤ 4) :
    Calls Try.prog 15 #[prgV ca n cc wa m wc lk rg] w fun e w' => ∃ r : Int, e = .returned (.int .i64 r) ∧ ((∃ t : Nat, r = (t : Int) ∧ t < n ∧ 400 < L t ∧ ∀ i, i < t → L i ≤ 400) ∨ (r = -1 ∧ ∀ i, i < n → L i ≤ 400)) ∧ Below w.heap.size w w' := by
  have HP := Hid.out (p := Hid _) hp
  obtain ⟨W, hW⟩ : ∃ V, w.alloc (.cells #[.slice ca n cc, .slice wa m wc, .int .i64 lk, .int .i64 rg] 25) = V := ⟨_, rfl⟩
  have hbW : Below w.heap.size w W := by rw [← hW]; exact (Below.refl _ _).alloc (Nat.le_refl _) _
  have p0 : W.cell? ⟨w.heap.size, 0, none⟩ = some (.slice ca n cc) := by rw [← hW]; exact box_cell (heap_alloc_new _ _) rfl
  have HW := Hid.out (p := Hid _) hW
  have HBW := Hid.out (p := Hid _) hbW
  clear hp hW hbW
  go_enter Try.func15, Try.ntmps15
  go_wp2
  rw [HW.out]
  go_loop [3] (fun i => ∃ k : Nat, k ≤ n ∧ i = .int .i64 k ∧ Hid (∀ i, i < k → L i ≤ 400)) (fun i => n - (intOf i).toNat)
  case atStart => exact ⟨0, Nat.zero_le _, rfl, fun i h => absurd h (by omega)⟩
  case round =>
    obtain ⟨k, hk, rfl, HK⟩ := hrel
    by_cases hlt : k < n
    · obtain ⟨cb, co, rfl, hcell⟩ := (HP.out.below HBW.out).code k hlt
      have hl0 := HP.out.len k hlt
      obtain ⟨l, hl⟩ : ∃ l, L k = l := ⟨_, rfl⟩
      rw [hl] at hcell hl0
      have HLK := Hid.out (p := Hid _) hl
      clear hl
      by_cases hl4 : 400 < l
      · have hl4' : (400 : Int) < l := by omega
        go_wp2
        go_ret
        exact ⟨k, rfl, .inl ⟨k, rfl, hlt, by rw [HLK.out]; exact hl4, HK.out⟩, HBW.out⟩
      · have hl4' : ¬ (400 : Int) < l := by omega
        go_wp2
        go_round
        case rel => exact ⟨k + 1, by omega, by go_num, fun i hi => by
          by_cases e : i = k
          · rw [e, HLK.out]; omega
          · exact HK.out i (by omega)⟩
        case measure => simp [intOf]; omega
    · have hkn : k = n := by omega
      subst hkn
      go_wp2
      go_ret
      exact ⟨-1, rfl, .inr ⟨rfl, HK.out⟩, HBW.out⟩
attribute [local go_sem ↓] appS_eq in
set_option maxRecDepth 100000 in
set_option maxHeartbeats 1600000 in
theorem stores_any (w : World) (ca : Option Addr) (n cc : Nat) (wa : Option Addr) (m wc : Nat) (lk rg : Int) (A : Nat → Option Addr) (L C : Nat → Nat) (X : Nat → Nat → Nat → Int) (hp : PIn w ca n A L C X) (hn : n ≤ 4) (hL : ∀ t, t < n → L t ≤ 400) :
    Calls Try.prog 13 #[prgV ca n cc wa m wc lk rg] w fun e w' => ∃ v, e = .returned v ∧ WsIn w' v n L (fun t i => wtO (X t i 0)) ∧ Below w.heap.size w w' := by
  have HP := Hid.out (p := Hid _) hp
  have HL := Hid.out (p := Hid _) hL
  obtain ⟨W, hW⟩ : ∃ V, w.alloc (.cells #[.slice ca n cc, .slice wa m wc, .int .i64 lk, .int .i64 rg] 25) = V := ⟨_, rfl⟩
  have hbW : Below w.heap.size w W := by rw [← hW]; exact (Below.refl _ _).alloc (Nat.le_refl _) _
  have p0 : W.cell? ⟨w.heap.size, 0, none⟩ = some (.slice ca n cc) := by rw [← hW]; exact box_cell (heap_alloc_new _ _) rfl
  have HW := Hid.out (p := Hid _) hW
  have HBW := Hid.out (p := Hid _) (And.intro hbW p0)
  clear hp hL hW hbW p0
  go_enter Try.func13, Try.ntmps13
  go_wp2
  rw [HW.out]
  go_loopw [3, 4] (fun ov i wr => ∃ (k : Nat) (oa : Option Addr) (oc : Nat) (tv : List Value), k ≤ n ∧ i = .int .i64 k ∧ ov = .slice oa k oc ∧ Hid (StI W L (fun t i => wtO (X t i 0)) k wr (.slice oa k oc) tv)) (fun _ i _ => n - (intOf i).toNat)
  case atStart => exact ⟨0, none, 0, [], Nat.zero_le _, rfl, rfl, StI.start _ _ _⟩
  case round =>
    obtain ⟨k, oa, oc, tv, hk, rfl, rfl, HI⟩ := hrel
    have p0 : wr.cell? ⟨w.heap.size, 0, none⟩ = some (.slice ca n cc) := (HI.out.low.cell (lt_of_cell HBW.out.2)).trans HBW.out.2
    by_cases hlt : k < n
    · have hwr : Below w.heap.size w wr := HBW.out.1.trans (HI.out.low.mono HBW.out.1.size)
      obtain ⟨cb, co, rfl, hcell⟩ := (HP.out.below hwr).code k hlt
      obtain ⟨l, hl⟩ : ∃ l, L k = l := ⟨_, rfl⟩
      have hl4 : l ≤ 400 := by rw [← hl]; exact HL.out k hlt
      have HLK : Hid (L k = l) := hl
      rw [hl] at hcell
      obtain ⟨ak, hak⟩ : ∃ a, A k = a := ⟨_, rfl⟩
      rw [hak] at hcell
      obtain ⟨w1, hrun1, hr1, hb1⟩ := st_start wr (fun i => wtO (X k i 0)) l hl4
      have HIN : Hid (∀ V, Below wr.heap.size wr V → V.cell? ⟨w.heap.size, 0, none⟩ = some (.slice (some ⟨cb, co, none⟩) n cc) ∧ V.cell? ⟨cb, co + k, none⟩ = some (.slice ak l (C k)) ∧ ∀ j, j < l → ∃ ab ao, ak = some ⟨ab, ao, none⟩ ∧ V.cell? ⟨ab, ao + j * 4, none⟩ = some (.int .i64 (X k j 0))) := fun V hV => by
        refine ⟨(hV.cell (lt_of_cell p0)).trans p0, (hV.cell (lt_of_cell hcell)).trans hcell, fun j hj => ?_⟩
        obtain ⟨ab, ao, e1, c0, _⟩ := (HP.out.below (hwr.trans (hV.mono hwr.size))).ord k j hlt (by rw [hl]; exact hj)
        exact ⟨ab, ao, by rw [← hak, e1], c0⟩
      have HR1 := Hid.out (p := Hid _) (And.intro hr1 hb1)
      clear hr1 hb1 hl hak
      go_wp2
      clear hcell p0 hrun1
      obtain ⟨T, rfl⟩ : ∃ V, V = wr := ⟨_, rfl⟩
      go_loopw [6] (fun i wr => ∃ j : Nat, j ≤ l ∧ i = .int .i64 j ∧ Hid (wr.ownsRow T.heap.size 4 1 (.slice (some ⟨T.heap.size, 0, none⟩) l l) l (boolsV (stL (fun i => wtO (X k i 0)) l j)) ∧ Below T.heap.size T wr)) (fun i _ => l - (intOf i).toNat)
      case atStart => exact ⟨0, Nat.zero_le _, rfl, HR1⟩
      case round =>
        obtain ⟨j, hj, rfl, HJ⟩ := hrel
        by_cases hjl : j < l
        · obtain ⟨p0, hcell, hq⟩ := HIN.out wr HJ.out.2
          obtain ⟨ab, ao, rfl, c0⟩ := hq j hjl
          have y0 := fam_cell HJ.out.1 (g := T.heap.size) rfl (boolsV_at (stL_at (f := fun i => wtO (X k i 0)) (j := j) hjl))
          have yf : wr.frozen? ⟨T.heap.size, j, none⟩ = false := fam_frozen HJ.out.1 rfl _
          have HJ2 : Hid ((wr.setCell ⟨T.heap.size, j, none⟩ (.bool (wtO (X k j 0)))).ownsRow T.heap.size 4 1 (.slice (some ⟨T.heap.size, 0, none⟩) l l) l (boolsV (stL (fun i => wtO (X k i 0)) l (j + 1))) ∧ Below T.heap.size T (wr.setCell ⟨T.heap.size, j, none⟩ (.bool (wtO (X k j 0))))) := by
            refine ⟨?_, HJ.out.2.setCell (Nat.le_refl _) _⟩
            rw [← stL_set]
            exact fam_put HJ.out.1 (g := T.heap.size) rfl j (.bool (wtO (X k j 0)))
          clear hq
          go_wp2_with (go_at_call 32; refine Calls.mono (rwaits_any _ _) ?_; rintro e w' ⟨rfl, rfl⟩)
          go_roundw
          case rel => exact ⟨j + 1, by omega, by go_num, HJ2⟩
          case measure => simp [intOf]; omega
        · have hjl' : j = l := by omega
          subst hjl'
          obtain ⟨g8, cap8, w8, hrun8, hI8⟩ := HI.out.push HJ.out.2 (g0 := T.heap.size) (by rw [HLK.out]; exact HJ.out.1) (by omega)
          rw [HLK.out] at hrun8
          have HI8 := Hid.out (p := Hid _) hI8
          clear hI8
          go_wp2
          go_roundw
          case rel => exact ⟨k + 1, _, _, _, by omega, by go_num, rfl, HI8⟩
          case measure => simp [intOf]; omega
    · have hkn : k = n := by omega
      subst hkn
      go_wp2
      go_ret
      exact ⟨_, rfl, HI.out.done, HBW.out.1.trans (HI.out.low.mono HBW.out.1.size)⟩

end Go.Proofs.Ytgofbkgfonlceac
