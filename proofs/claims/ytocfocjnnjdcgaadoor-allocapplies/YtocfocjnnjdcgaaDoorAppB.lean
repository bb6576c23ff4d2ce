/-
  Rows of numbers; 'append', as it is run on rows that the call made.
  Noughts behind numbers of one's own.
  A copy of a list of numbers, by the program.
-/
import Derived.Test.YtocfocjnnjdcgaaDoorPlain
import Derived.Deep.AppendSrc
import Derived.Lib.AppendZerosOnto
import Derived.Test.YtocfocjnnjdcgaaDoorInProg
import Derived.WalkKit
import Derived.WalkSpells
import Derived.WalkLawsBesides
import Derived.Lib.SmallJoins
namespace Go.Proofs.YtocfocjnnjdcgaaDoor
section
open Go.RowKit

def intsV (l : List Int) : List Value := l.map (Value.int .i64)
theorem intsV_at {l : List Int} {i : Nat} (h : i < l.length) : (intsV l)[i]? = some (.int .i64 (l.getD i 0)) := by
  unfold intsV
  rw [List.getElem?_map, List.getElem?_eq_getElem h]
  simp [List.getD, List.getElem?_eq_getElem h]
theorem intsV_set (l : List Int) (i : Nat) (x : Int) : intsV (l.set i x) = (intsV l).set i (.int .i64 x) := by simp [intsV, List.map_set]
theorem intsV_len (l : List Int) : (intsV l).length = l.length := by simp [intsV]
theorem infoI : (Tryd.prog.info? 3).map (fun i => (i.zero, i.size, i.bytes)) = some (some (.int .i64 0), 1, 8) := by kernel_rfl
/-- A list of numbers that came in, as it is read. -/
def SIs (w : World) (a : Option Addr) (l : List Int) : Prop := ∀ i, i < l.length → ∃ b o, a = some ⟨b, o, none⟩ ∧ w.cell? ⟨b, o + i, none⟩ = some (.int .i64 (l.getD i 0))
theorem SIs.below {w w1 : World} {a : Option Addr} {l : List Int} (h : SIs w a l) (hb : Below w.heap.size w w1) : SIs w1 a l := fun i hi => by
  obtain ⟨b, o, e, h1⟩ := h i hi
  exact ⟨b, o, e, (hb.cell (lt_of_cell h1)).trans h1⟩
theorem intsV_one (l : List Int) : ∀ u ∈ intsV l, u.oneCell' = true := fun u hu => by
  simp only [intsV, List.mem_map] at hu
  obtain ⟨x, _, rfl⟩ := hu
  rfl
/-- 'append([]int{}, l...)'. -/
theorem app_src (W : World) (B : Nat) (hB : B ≤ W.heap.size) (sa : Option Addr) (l : List Int) (c : Nat) (hsrc : SIs W sa l) (hl : l.length * 8 ≤ 140737488355328) :
    ∃ g cap w3, (AppS #[23, 23] 23 #[.slice (some ⟨W.heap.size, 0, none⟩) 0 0, .slice sa l.length c]).run Tryd.prog (W.alloc (.cells #[] 3)) = .ok (.slice (some ⟨g, 0, none⟩) l.length cap) w3 ∧ w3.ownsRow B 3 1 (.slice (some ⟨g, 0, none⟩) l.length cap) l.length (intsV l) ∧ (W.alloc (.cells #[] 3)).grownBy w3 (some W.heap.size) ∧ W.heap.size ≤ g ∧ g < w3.heap.size := by
  obtain ⟨i, hi, hz0, hz1, hz2⟩ := info_is infoI
  have hown := World.ownsRow_made (base := B) (e := 3) (size := 1) W #[] 0 hB (by decide) rfl
  cases l with
  | nil =>
    refine ⟨W.heap.size, 0, W.alloc (.cells #[] 3), ?_, hown, ⟨rfl, rfl, rfl, Nat.le_refl _, fun _ _ _ => rfl⟩, Nat.le_refl _, by simp⟩
    have hs : Src Tryd.prog i.size 23 (.slice sa 0 c) 0 [] (W.alloc (.cells #[] 3)) := by
      cases sa with
      | none => exact Src.ofNil _ Tryd.underlying23 c
      | some a => exact Src.ofSlice _ Tryd.underlying23 a 0 c [] (by simp) (fun j u h => by simp at h) (fun u h => by cases h)
    have := run_append_room_src (P := Tryd.prog) (W.alloc (.cells #[] 3)) 23 23 23 3 i Tryd.underlying23 hi W.heap.size 0 0 0 (.slice sa 0 c) 0 [] hs (Nat.le_refl _) (fun j h => by simp at h) (fun j h => by simp at h)
    exact this
  | cons x r =>
    obtain ⟨b, o, rfl, _⟩ := hsrc 0 (by simp)
    have hnews : ∀ j u, (intsV (x :: r))[j]? = some u → (W.alloc (.cells #[] 3)).cell? ((⟨b, o, none⟩ : Addr).add j) = some u := fun j u hu => by
      have hj : j < (x :: r).length := by
        rcases Nat.lt_or_ge j (x :: r).length with h | h
        · exact h
        · rw [List.getElem?_eq_none (by rw [intsV_len]; exact h)] at hu; cases hu
      obtain ⟨b', o', e, h1⟩ := hsrc j hj
      simp only [Option.some.injEq, Addr.mk.injEq, and_true] at e
      obtain ⟨rfl, rfl⟩ := e
      have hadd : (⟨b, o, none⟩ : Addr).add j = ⟨b, o + j, none⟩ := by unfold Addr.add; split <;> simp_all
      rw [intsV_at hj] at hu
      rw [hadd, cell_up h1]
      exact hu
    obtain ⟨g, cap, w3, r1, r2, r3, r4, r5⟩ := run_append_lies (P := Tryd.prog) (W.alloc (.cells #[] 3)) 23 23 B 3 i _ 1 8 Tryd.underlying23 hi hz0 hz1 hz2 rfl (by omega) _ 0 [] hown ⟨b, o, none⟩ (x :: r).length c (intsV (x :: r)) (by rw [intsV_len]; omega) hnews (intsV_one _) (by simp) (by unfold maxLen; omega) (by omega) (by simp; omega) (W.heap.size + 1) (by simp)
    rw [Nat.zero_add] at r1 r2
    refine ⟨g, cap, w3, r1, r2, r3, ?_, r5⟩
    rcases r4 with r4 | r4
    · have : W.heap.size = g := by simpa [Value.ownBlock] using r4
      omega
    · omega
end

section
open Go.RowKit

theorem zeros_list (m : Nat) : (Builtin.zeroCells #[.int .i64 0] m).toList = List.replicate m (Value.int .i64 0) := by
  apply List.ext_getElem
  · simp [Builtin.zeroCells]
  · intro i h1 h2
    simp [Builtin.zeroCells, Nat.mod_one]
theorem run_room_zeros (w : World) (e : TypeId) (i : TypeInfo) (ht : Tryd.prog.underlying 23 = some (.slice e)) (hi : Tryd.prog.info? e = some i) (hz : i.zero = some (.int .i64 0)) (hs : i.size = 1) (hby : i.bytes = 8)
    (g sLen sCap : Nat) (cur : Array Value) (hg : w.heap[g]? = some (.cells cur e (0, 0))) (m : Nat) (hm : 0 < m) (hm2 : m ≤ 1000000) (hroom : sLen + m ≤ sCap) (hfit : sLen + m ≤ cur.size) :
    (Builtin.append_ #[23, 3] 23 #[.slice (some ⟨g, 0, none⟩) sLen sCap, .int .i64 (m : Nat)]).run Tryd.prog w =
      .ok (.slice (some ⟨g, 0, none⟩) (sLen + m) sCap) (w.setRow g (cur.toList.take sLen ++ List.replicate m (Value.int .i64 0) ++ cur.toList.drop (sLen + m)).toArray) := by
  have hst := run_storeCells_at Tryd.prog g sLen e (List.replicate m (Value.int .i64 0)) 0 cur w hg (by simpa using hfit) (fun v hv => by rw [(List.mem_replicate.1 hv).2]; rfl)
  simp only [Nat.add_zero, List.length_replicate] at hst
  have hk : m ≠ 0 := by omega
  have hw : IntKind.i64.wrap (m : Int) = m := by rw [IntKind.wrap_i64]; omega
  have hneg : ¬ ((m : Int) < 0) := by omega
  have h48 : ¬ (281474976710656 < (m : Int) * 8) := by omega
  have hzl : (Builtin.zeroCells (Value.int .i64 0).cells m).toList = List.replicate m (Value.int .i64 0) := zeros_list m
  simp [Builtin.append_, run_underlying ht, run_underlying Tryd.underlying3, sizeOf, typeInfo, zeroValue, hi, hz, hs, hby, asInt, asIntOf, hw, hneg, h48, hk, hroom, Addr.add_lit, hzl, hst]

theorem app_zeros {w : World} {B : Nat} {v : Value} {n : Nat} {xs : List Value} (hown : w.ownsRow B 3 1 v n xs) (hB : B ≤ w.heap.size) (m : Nat) (h63 : n + m ≤ 1000000) :
    ∃ v' w', (AppS #[23, 3] 23 #[v, .int .i64 (m : Nat)]).run Tryd.prog w = .ok v' w' ∧ w'.ownsRow B 3 1 v' (n + m) (xs ++ List.replicate m (Value.int .i64 0)) ∧ w.grownBy w' v.ownBlock ∧ (v'.ownBlock = v.ownBlock ∨ v'.ownBlock = some w.heap.size) := by
  obtain ⟨i, hi, hz, hs, hby⟩ := info_is infoI
  have ht : Tryd.prog.underlying 23 = some (.slice 3) := Tryd.underlying23
  have hlen : (xs ++ List.replicate m (Value.int .i64 0)).length = (n + m) * 1 := by rw [List.length_append, hown.1, List.length_replicate]; omega
  have hzl : (Builtin.zeroCells (Value.int .i64 0).cells m).toList = List.replicate m (Value.int .i64 0) := zeros_list m
  by_cases hm : m = 0
  · subst hm
    refine ⟨v, w, ?_, by simpa using hown, ⟨rfl, rfl, rfl, Nat.le_refl _, fun _ _ _ => rfl⟩, Or.inl rfl⟩
    have hw : IntKind.i64.wrap 0 = 0 := by decide
    rcases hown.2 with ⟨rfl, rfl⟩ | ⟨g, cap, cur, rfl, hbg, hg, hnc, hcm, hcs, htake⟩
    · show (Builtin.append_ #[23, 3] 23 #[.slice none 0 0, .int .i64 ((0 : Nat) : Int)]).run Tryd.prog w = _
      simp [Builtin.append_, run_underlying ht, run_underlying Tryd.underlying3, sizeOf, typeInfo, hi, hby, asInt, asIntOf, hw]
    · show (Builtin.append_ #[23, 3] 23 #[.slice (some ⟨g, 0, none⟩) n cap, .int .i64 ((0 : Nat) : Int)]).run Tryd.prog w = _
      simp [Builtin.append_, run_underlying ht, run_underlying Tryd.underlying3, sizeOf, typeInfo, hi, hby, asInt, asIntOf, hw, hnc, storeCells]
  have hm0 : 0 < m := by omega
  have grown : ∀ (old : Nat), old < n + m → ∀ (row : Option Nat),
      (w.drew.alloc (.cells (xs.toArray ++ Builtin.zeroCells (Value.int .i64 0).cells m ++ Builtin.zeroCells (Value.int .i64 0).cells (grownCap w (n + m) old 3 - (n + m))) 3)).ownsRow B 3 1
        (.slice (some ⟨w.heap.size, 0, none⟩) (n + m) (grownCap w (n + m) old 3)) (n + m) (xs ++ List.replicate m (Value.int .i64 0)) ∧
      w.grownBy (w.drew.alloc (.cells (xs.toArray ++ Builtin.zeroCells (Value.int .i64 0).cells m ++ Builtin.zeroCells (Value.int .i64 0).cells (grownCap w (n + m) old 3 - (n + m))) 3)) row := by
    intro old ho row
    have hge := grownCap_ge w (n + m) old 3
    have hcm : grownCap w (n + m) old 3 ≤ maxLen := grownCap_le_maxLen w (n + m) old 3 (by unfold maxLen; omega)
    refine ⟨⟨hlen, .inr ⟨w.heap.size, _, _, rfl, hB, heap_alloc_new w.drew _, hge, hcm, ?_, ?_⟩⟩, ⟨rfl, rfl, rfl, by simp, fun k hk _ => heap_alloc_old w.drew _ hk⟩⟩
    · have h1 := hown.1
      simp only [Array.size_append, List.size_toArray, size_zeroCells, Value.cells]
      simp
      omega
    · simp only [Array.toList_append, List.append_assoc, hzl]
      rw [← List.append_assoc, ← hlen]
      exact List.take_left
  rcases hown.2 with ⟨rfl, rfl⟩ | ⟨g, cap, cur, rfl, hbg, hg, hnc, hcm, hcs, htake⟩
  · have hx : xs = [] := List.eq_nil_of_length_eq_zero (by simpa using hown.1)
    subst hx
    have hr := Lib.run_append_nil_zeros (P := Tryd.prog) w 23 3 23 3 i (.int .i64 0) .i64 .i64 ht Tryd.underlying3 hi hz m hm0 (by omega) (by omega) (by rw [hby]; omega)
    have hgr := grown 0 (by omega) (Value.ownBlock (.slice none 0 0))
    simp only [Nat.zero_add, List.nil_append, Array.empty_append] at hgr ⊢
    exact ⟨_, _, hr, hgr.1, hgr.2, Or.inr rfl⟩
  · by_cases hroom : n + m ≤ cap
    · have hfit : n + m ≤ cur.size := by omega
      have hr := run_room_zeros w 3 i ht hi hz hs hby g n cap cur hg m hm0 (by omega) hroom hfit
      refine ⟨_, _, hr, ⟨hlen, .inr ⟨g, cap, _, rfl, hbg, setRow_heap w g cur _ _ _ hg, hroom, hcm, ?_, ?_⟩⟩, ⟨rfl, rfl, rfl, by simp, fun k _ hk => setRow_other w g k _ (fun e => hk (by simp [Value.ownBlock, e]))⟩, Or.inl rfl⟩
      · simp only [List.size_toArray, List.length_append, List.length_take, List.length_drop, Array.length_toList, List.length_replicate]
        omega
      · have h1 : cur.toList.take n = xs := by simpa using htake
        rw [h1, ← hlen]
        exact List.take_left
    · have holds : ∀ j u, xs[j]? = some u → w.cell? ((⟨g, 0, none⟩ : Addr).add j) = some u := hown.cells (g := g) rfl
      have hf := run_firstCells_some (P := Tryd.prog) w.drew i.size n ⟨g, 0, none⟩ n cap xs (by rw [hs]; exact hown.1) (by simpa using holds)
      have hr := Lib.run_append_grow_zeros (P := Tryd.prog) w 23 3 23 3 i (.int .i64 0) .i64 .i64 ht Tryd.underlying3 hi hz (some ⟨g, 0, none⟩) n cap xs hf m hm0 (by omega) (by omega) (by omega) (by rw [hby]; omega) (by rw [hby]; exact growslice_fits (by omega) (by omega))
      have hgr := grown cap (by omega) (Value.ownBlock (.slice (some ⟨g, 0, none⟩) n cap))
      exact ⟨_, _, hr, hgr.1, hgr.2, Or.inr rfl⟩
end

section
open Go.RowKit

attribute [local go_sem ↓] appS_eq
set_option maxRecDepth 100000 in
set_option maxHeartbeats 1600000 in
theorem clone_some (w : World) (sa : Addr) (l : List Int) (c : Nat) (h : SIs w (some sa) l) (hl : l.length * 8 ≤ 140737488355328) :
    Calls Tryd.prog 58 #[.slice (some sa) l.length c] w fun e w' => ∃ g cap, e = .returned (.slice (some ⟨g, 0, none⟩) l.length cap) ∧ w.heap.size ≤ g ∧ w'.ownsRow w.heap.size 3 1 (.slice (some ⟨g, 0, none⟩) l.length cap) l.length (intsV l) ∧ Below w.heap.size w w' := by
  obtain ⟨g, cap, w3, r1, r2, r3, r4, _⟩ := app_src w w.heap.size (Nat.le_refl _) (some sa) l c h hl
  have HF : Hid (Below w.heap.size w w3) := ((Below.refl _ _).alloc (Nat.le_refl _) _).grown r3 (by simp) (fun k hk => by simp at hk; omega)
  have hne := fun W => Lib.run_eql_slice_nil (P := Tryd.prog) W 23 3 (some sa) l.length c 0 0 Tryd.underlying23
  obtain ⟨m, hm⟩ : ∃ m, l.length = m := ⟨_, rfl⟩
  rw [hm] at r1 r2 hne ⊢
  clear h hl r3 hm
  go_enter Tryd.func58, Tryd.ntmps58
  go_wp2
  go_ret
  exact ⟨g, cap, rfl, r4, r2, HF.out⟩
set_option maxRecDepth 100000 in
set_option maxHeartbeats 1600000 in
theorem clone_nil (w : World) : Calls Tryd.prog 58 #[nilV] w fun e w' => e = .returned nilV ∧ w = w' := by
  have hne := fun W => Lib.run_eql_slice_nil (P := Tryd.prog) W 23 3 none 0 0 0 0 Tryd.underlying23
  go_enter Tryd.func58, Tryd.ntmps58
  go_wp2
  go_ret
  exact ⟨rfl, rfl⟩
/-- A copy of a list. -/
theorem clone_any (w : World) (sa : Option Addr) (l : List Int) (c : Nat) (h : SIs w sa l) (hnil : sa = none → l = [] ∧ c = 0) (hl : l.length * 8 ≤ 140737488355328) :
    Calls Tryd.prog 58 #[.slice sa l.length c] w fun e w' => ∃ a cap, e = .returned (.slice a l.length cap) ∧ w'.ownsRow w.heap.size 3 1 (.slice a l.length cap) l.length (intsV l) ∧ Below w.heap.size w w' := by
  cases sa with
  | none =>
    obtain ⟨rfl, rfl⟩ := hnil rfl
    refine (clone_nil w).mono fun e w' h => ⟨none, 0, h.1, World.ownsRow_nil _ _ _ _, ?_⟩
    rw [← h.2]; exact Below.refl _ _
  | some a => exact (clone_some w a l c h hl).mono fun e w' ⟨g, cap, h1, _, h3, h4⟩ => ⟨_, cap, h1, h3, h4⟩
end

end Go.Proofs.YtocfocjnnjdcgaaDoor
