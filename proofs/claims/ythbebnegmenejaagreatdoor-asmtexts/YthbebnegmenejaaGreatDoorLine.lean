/-
  A line: its name and its numbers, as the program reads them and as the document does.
-/
import Derived.Test.YthbebnegmenejaaGreatDoorCutL
import Derived.Deep.Cut
namespace Go.Proofs.YthbebnegmenejaaGreatDoor
open Go.RowKit

def numsL : List (List UInt8) → Option (List Int)
  | [] => some []
  | l :: r => match numB l, numsL r with
    | some v, some vs => some (v :: vs)
    | _, _ => none
theorem numsL_snoc : ∀ (a : List (List UInt8)) (l : List UInt8), numsL (a ++ [l]) = match numsL a, numB l with | some vs, some v => some (vs ++ [v]) | _, _ => none
  | [], l => by cases h : numB l <;> simp [numsL, h]
  | x :: r, l => by
    rw [List.cons_append, numsL, numsL_snoc r l, numsL]
    cases numB x <;> cases numsL r <;> cases numB l <;> rfl
theorem numsL_bad : ∀ (a : List (List UInt8)) (k : Nat) (h : k < a.length), numB a[k] = none → numsL a = none
  | x :: r, 0, _, h => by simp at h; rw [numsL, h]
  | x :: r, k + 1, hk, h => by
    have := numsL_bad r k (by simpa using hk) (by simpa using h)
    rw [numsL, this]; cases numB x <;> rfl

/-- A line's name, and its numbers if each is one. -/
def nameL (l : List UInt8) : List UInt8 := (cutL 32 l).headD []
def numsOf (l : List UInt8) : Option (List Int) := numsL (cutL 32 l).tail

/-- What is handed back of a line: the error, or the name and the numbers, in memory of the call's own. -/
def LineP (B : Nat) (l : List UInt8) (bad good : Value) (e : Ending) (w' : World) : Prop :=
  match numsOf l with
  | none => e = .returned (.tuple #[.string ⟨#[]⟩, .slice none 0 0, bad])
  | some vs => ∃ nm v, nm.data.toList = nameL l ∧ e = .returned (.tuple #[.string nm, v, good]) ∧ w'.ownsRow B 3 1 v vs.length (vs.map (Value.int .i64))

theorem rangeGlobal : (Tryz.prog.globalNamed "strconv.ErrRange").isSome = true := by kernel_rfl
theorem Env.below {w w' : World} {te : TypeId} {ep : Value} (h : Env w te ep) (hb : Below w.heap.size w w') : Env w' te ep := by
  obtain ⟨h1, ⟨m, h2⟩, ⟨tp, p, h3⟩⟩ := h
  refine ⟨(hb.cell (lt_of_cell h1)).trans h1, ⟨m, (hb.cell (lt_of_cell h2)).trans h2⟩, ⟨tp, p, ?_⟩⟩
  obtain ⟨g, hg⟩ := Option.isSome_iff_exists.1 rangeGlobal
  exact Go.Joins.var_stays hg h3 hb (Nat.le_refl _)

theorem line_parts {ps : List ByteArray} {l : List UInt8} (h : ps.map (·.data.toList) = cutL 32 l) : 0 < ps.length ∧ ∀ (h0 : 0 < ps.length), (ps[0]'h0).data.toList = nameL l ∧ (cutL 32 l).tail = ps.tail.map (·.data.toList) := by
  have hne := cutL_ne 32 l
  rw [← h] at hne
  refine ⟨by cases ps <;> simp_all, fun h0 => ?_⟩
  unfold nameL
  rw [← h]
  cases ps with
  | nil => simp at h0
  | cons a r => simp

theorem owns_below2 {w w' : World} {base : Nat} {e : TypeId} {size : Nat} {v : Value} {n : Nat} {xs : List Value} (h : w.ownsRow base e size v n xs) (hb : Below w.heap.size w w') : w'.ownsRow base e size v n xs := by
  refine ⟨h.1, ?_⟩
  rcases h.2 with h0 | ⟨g, cap, cur, hv, hg, hh, r⟩
  · exact Or.inl h0
  · have hlt : g < w.heap.size := by
      rcases Nat.lt_or_ge g w.heap.size with h1 | h1
      · exact h1
      · rw [Array.getElem?_eq_none h1] at hh; cases hh
    exact Or.inr ⟨g, cap, cur, hv, hg, by rw [hb.block g hlt]; exact hh, r⟩

theorem cutL_len (c : UInt8) : ∀ l : List UInt8, (cutL c l).length ≤ l.length + 1
  | [] => by simp [cutL]
  | x :: r => by
    have := cutL_len c r
    unfold cutL
    split
    · simp; omega
    · split <;> simp_all <;> omega
theorem cutL_piece (c : UInt8) : ∀ (l : List UInt8), ∀ x ∈ cutL c l, x.length ≤ l.length
  | [], x, h => by simp [cutL] at h; simp [h]
  | y :: r, x, h => by
    have ih := cutL_piece c r
    unfold cutL at h
    split at h
    · simp only [List.mem_cons] at h
      rcases h with rfl | h
      · simp
      · have := ih x h; simp; omega
    · split at h
      · rename_i hd tl heq
        simp only [List.mem_cons] at h
        rcases h with rfl | h
        · have := ih hd (by rw [heq]; simp); simp; omega
        · have := ih x (by rw [heq]; simp [h]); simp; omega
      · simp at h; subst h; simp

theorem pieces {ps : List ByteArray} {c : UInt8} {s : ByteArray} (h : ps.map (·.data.toList) = cutL c s.data.toList) (hs : s.size ≤ 4000) : ps.length ≤ 4001 ∧ ∀ k (hk : k < ps.length), (ps[k]).size ≤ 4000 := by
  have h1 : ps.length = (cutL c s.data.toList).length := by rw [← h]; simp
  have h2 := cutL_len c s.data.toList
  rw [← Lib.size_eq] at h2
  refine ⟨by omega, fun k hk => ?_⟩
  have h3 := cutL_piece c s.data.toList (ps[k]).data.toList (by rw [← h]; exact List.mem_map.2 ⟨_, List.getElem_mem hk, rfl⟩)
  rw [← Lib.size_eq, ← Lib.size_eq] at h3
  omega

theorem readNumber_some (s : ByteArray) (hs : s.size ≤ 4000) (x : Int) (hx : numB s.data.toList = some x) (te : TypeId) (ep : Value) (w : World) (hE : Env w te ep) :
    Calls Tryz.prog 48 #[.string s] w fun e w' => e = .returned (.tuple #[.int .i64 x, .nilIface]) ∧ Below w.heap.size w w' := by
  simpa only [hx] using readNumber_any s hs te ep w hE
theorem readNumber_none (s : ByteArray) (hs : s.size ≤ 4000) (hx : numB s.data.toList = none) (te : TypeId) (ep : Value) (w : World) (hE : Env w te ep) :
    Calls Tryz.prog 48 #[.string s] w fun e w' => e = .returned (.tuple #[.int .i64 0, .iface te ep]) ∧ Below w.heap.size w w' := by
  simpa only [hx] using readNumber_any s hs te ep w hE

theorem tail_take {ps : List ByteArray} {k : Nat} (hk : k + 1 < ps.length) : ((ps.tail.map (·.data.toList)).take (k + 1)) = ((ps.tail.map (·.data.toList)).take k) ++ [(ps[k + 1]).data.toList] := by
  have : k < (ps.tail.map (·.data.toList)).length := by simp; omega
  rw [List.take_succ_eq_append_getElem this]
  simp

set_option maxRecDepth 100000 in
set_option maxHeartbeats 800000 in
theorem splitLine_any (s : ByteArray) (hs : s.size ≤ 4000) (te : TypeId) (ep : Value) (w : World) (hE : Env w te ep) :
    Calls Tryz.prog 39 #[.string s] w fun e w' => LineP w.heap.size s.data.toList (.iface te ep) .nilIface e w' ∧ Below w.heap.size w w' := by
  obtain ⟨i0, hi, hz0, hz1, hz2⟩ := info_parts infoInt
  obtain ⟨m, hm⟩ := hE.len
  go_enter Tryz.func39, Tryz.ntmps39
  go_upto_region 3 with (first | (go_at_call 30; refine (split_any s 32 hs m _ hm).mono ?_; rintro e w1 ⟨v, ps, rfl, hps, ⟨b, cap, rfl, hcap, hcell⟩, hb1⟩; have HPS := Hid.out (p := Hid _) hps; have HCELL := Hid.out (p := Hid _) hcell; have hp0 := (line_parts hps).1; clear hps hcell))
  have HE1 := hE.below hb1
  have hpb : ps.length ≤ 4001 := (pieces HPS.out hs).1
  have HB1 := hb1
  clear hm hE hb1
  by_cases hc1 : cap = 1
  · have HL : Hid (ps.length = 1) := by show ps.length = 1; omega
    go_wp2
    go_loopw [6, 16] (fun v i wr => ∃ (k : Nat) (vs : List Int), k ≤ ps.length - 1 ∧ i = .int .i64 k ∧ Below w1.heap.size w1 wr ∧ wr.ownsRow w1.heap.size 3 1 v vs.length (vs.map (Value.int .i64)) ∧ vs.length = k ∧ numsL ((ps.tail.map (·.data.toList)).take k) = some vs) (fun _ i _ => ps.length - (intOf i).toNat)
    case atStart => exact ⟨0, [], Nat.zero_le _, rfl, Below.refl _ _, World.ownsRow_nil _ _ _ _, rfl, rfl⟩
    case round =>
      obtain ⟨k, vs, hk, rfl, hbr, hown, hvl, hnum⟩ := hrel
      have HNUM := Hid.out (p := Hid _) hnum
      have HVL := Hid.out (p := Hid _) hvl
      clear hnum hvl
      have hbs := hbr.size
      by_cases hlt : k < ps.length - 1
      · exact absurd hlt (by have := HL.out; omega)
      · have hend : (ps.tail.map (·.data.toList)).take k = ps.tail.map (·.data.toList) := List.take_of_length_le (by simp; omega)
        have HND : Hid (numsOf s.data.toList = some vs) := by show numsL _ = _; rw [((line_parts HPS.out).2 hp0).2, ← hend]; exact HNUM.out
        have h0 : wr.cell? ⟨b, 0, none⟩ = some (.string (ps[0]'hp0)) := ((hbr.cell (lt_of_cell (HCELL.out 0 hp0))).trans (HCELL.out 0 hp0))
        obtain ⟨nm, hnm⟩ : ∃ nm, ps[0]'hp0 = nm := ⟨_, rfl⟩
        rw [hnm] at h0
        have HNM : Hid (ps[0]'hp0 = nm) := hnm
        clear hend hnm
        have hp1 : (0 : Int) < (ps.length : Int) := by omega
        go_wp2
        go_ret3
        refine ⟨?_, HB1.trans (hbr.mono HB1.size)⟩
        unfold LineP
        rw [HND.out]
        exact ⟨nm, _, by rw [← HNM.out]; exact ((line_parts HPS.out).2 hp0).1, rfl, Go.Joins.ownsRow_le hown HB1.size⟩
  · go_wp2
    go_loopw [6, 16] (fun v i wr => ∃ (k : Nat) (vs : List Int), k ≤ ps.length - 1 ∧ i = .int .i64 k ∧ Below w1.heap.size w1 wr ∧ wr.ownsRow w1.heap.size 3 1 v vs.length (vs.map (Value.int .i64)) ∧ vs.length = k ∧ numsL ((ps.tail.map (·.data.toList)).take k) = some vs) (fun _ i _ => ps.length - (intOf i).toNat)
    case atStart => exact ⟨0, [], Nat.zero_le _, rfl, Below.refl _ _, World.ownsRow_nil _ _ _ _, rfl, rfl⟩
    case round =>
      obtain ⟨k, vs, hk, rfl, hbr, hown, hvl, hnum⟩ := hrel
      have HNUM := Hid.out (p := Hid _) hnum
      have HVL := Hid.out (p := Hid _) hvl
      clear hnum hvl
      have hbs := hbr.size
      by_cases hlt : k < ps.length - 1
      · have hk1 : k + 1 < ps.length := by omega
        have h0 : wr.cell? ⟨b, 1 + k, none⟩ = some (.string (ps[k + 1]'hk1)) := by
          have h1 := HCELL.out (k + 1) hk1
          rw [Nat.add_comm 1 k]
          exact (hbr.cell (lt_of_cell h1)).trans h1
        have hps := (pieces HPS.out hs).2 (k + 1) hk1
        have hEr := HE1.below hbr
        obtain ⟨pc, hpc⟩ : ∃ pc, ps[k + 1]'hk1 = pc := ⟨_, rfl⟩
        rw [hpc] at h0 hps
        have HPC : Hid (ps[k + 1]'hk1 = pc) := hpc
        clear hpc
        cases hx : numB pc.data.toList with
        | none =>
          have HX : Hid (numB pc.data.toList = none) := hx
          clear hx
          have HND : Hid (numsOf s.data.toList = none) := by
            show numsL _ = _
            rw [((line_parts HPS.out).2 hp0).2]
            exact numsL_bad _ k (by simp; omega) (by simp only [List.getElem_map, List.getElem_tail]; rw [HPC.out]; exact HX.out)
          go_wp2_with (first | (go_at_call 48; refine (readNumber_none pc hps HX.out te ep _ hEr).mono ?_; rintro e w2 ⟨rfl, hb2⟩))
          go_ret3
          refine ⟨?_, HB1.trans ((hbr.mono HB1.size).trans (hb2.mono (Nat.le_trans HB1.size hbr.size)))⟩
          unfold LineP
          rw [HND.out]
          exact rfl
        | some x =>
          have HX : Hid (numB pc.data.toList = some x) := hx
          clear hx
          go_wp2_with (first | (go_at_call 48; refine (readNumber_some pc hps x HX.out te ep _ hEr).mono ?_; rintro e w2 ⟨rfl, hb2⟩; have hown2 := owns_below2 hown hb2; have hbs2 := hb2.size) | (at_builtin; refine wpList_append_own _ rfl _ _ 23 rfl w1.heap.size 3 i0 (.int .i64 0) 1 8 Tryz.underlying23 hi hz0 hz1 hz2 rfl (by decide) _ _ _ rfl (hown2.alloc _) ⟨w2.heap.size, 0, none⟩ 1 1 [.int .i64 x] rfl rfl (cell_one_new _ _ _) (fun x hx => by simp at hx; subst hx; rfl) (by have := HVL.out; unfold maxLen; omega) (by have := HVL.out; omega) (by simp; omega) ?_; intro v' w3 hown' hgrow3 hnil3))
          go_roundw
          case rel =>
            refine ⟨k + 1, vs ++ [x], by omega, by go_num, ?_, by simpa using hown', by simp [HVL.out], ?_⟩
            · exact ((hbr.trans (hb2.mono hbr.size)).alloc (by omega) _).grown hgrow3 (by simp; omega) (fun q hq => (hown2.lt q hq).1)
            · rw [tail_take hk1, numsL_snoc, HNUM.out, HPC.out, HX.out]
          case measure => simp [intOf]; omega
      · have hend : (ps.tail.map (·.data.toList)).take k = ps.tail.map (·.data.toList) := List.take_of_length_le (by simp; omega)
        have HND : Hid (numsOf s.data.toList = some vs) := by show numsL _ = _; rw [((line_parts HPS.out).2 hp0).2, ← hend]; exact HNUM.out
        have h0 : wr.cell? ⟨b, 0, none⟩ = some (.string (ps[0]'hp0)) := ((hbr.cell (lt_of_cell (HCELL.out 0 hp0))).trans (HCELL.out 0 hp0))
        obtain ⟨nm, hnm⟩ : ∃ nm, ps[0]'hp0 = nm := ⟨_, rfl⟩
        rw [hnm] at h0
        have HNM : Hid (ps[0]'hp0 = nm) := hnm
        clear hend hnm
        have hp1 : (0 : Int) < (ps.length : Int) := by omega
        go_wp2
        go_ret3
        refine ⟨?_, HB1.trans (hbr.mono HB1.size)⟩
        unfold LineP
        rw [HND.out]
        exact ⟨nm, _, by rw [← HNM.out]; exact ((line_parts HPS.out).2 hp0).1, rfl, Go.Joins.ownsRow_le hown HB1.size⟩

end Go.Proofs.YthbebnegmenejaaGreatDoor
