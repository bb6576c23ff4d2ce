/-
  A text cut at a sign: plain, as the library cuts it, and as the document does.
-/
import Derived.Test.YthbebnegmenejaaGreatDoorNumA
import Derived.Lib.SplitLaws
namespace Go.Proofs.YthbebnegmenejaaGreatDoor
open Go.RowKit

theorem infoInt : (Tryz.prog.info? 3).map (fun i => (i.zero, i.size, i.bytes)) = some (some (.int .i64 0), 1, 8) := by kernel_rfl

def cutL (c : UInt8) : List UInt8 → List (List UInt8)
  | [] => [[]]
  | x :: r => if x = c then [] :: cutL c r else match cutL c r with
    | h :: t => (x :: h) :: t
    | [] => [[x]]

theorem cutL_ne (c : UInt8) (l : List UInt8) : cutL c l ≠ [] := by
  cases l with
  | nil => simp [cutL]
  | cons x r => unfold cutL; split <;> (try split) <;> simp
theorem cutL_none (c : UInt8) : ∀ l : List UInt8, c ∉ l → cutL c l = [l]
  | [], _ => rfl
  | x :: r, h => by
    have h1 : x ≠ c := fun e => h (by simp [e])
    have h2 := cutL_none c r (fun e => h (by simp [e]))
    rw [cutL, if_neg h1, h2]
theorem cutL_at (c : UInt8) (rest : List UInt8) : ∀ l : List UInt8, c ∉ l → cutL c (l ++ c :: rest) = l :: cutL c rest
  | [], _ => by simp [cutL]
  | x :: r, h => by
    have h1 : x ≠ c := fun e => h (by simp [e])
    have h2 := cutL_at c rest r (fun e => h (by simp [e]))
    rw [List.cons_append, cutL, if_neg h1, h2]
theorem splitK_cut (c : UInt8) : ∀ l : List UInt8, Lib.splitK [c] 0 (Lib.count l [c]) l = cutL c l
  | [] => rfl
  | b :: l => by
    have ih := splitK_cut c l
    by_cases h : b = c
    · subst h
      rw [Lib.count_cons_eq, Nat.add_comm, cutL, if_pos rfl, ← ih, Lib.splitK]
      simp [Lib.index]
    · rw [Lib.count_cons_ne b c l h, cutL, if_neg h, ← ih]
      have hi : Lib.index (b :: l) [c] = if Lib.index l [c] == -1 then -1 else Lib.index l [c] + 1 := by
        rw [Lib.index]
        have : [c].isPrefixOf (b :: l) = false := by simp [List.isPrefixOf]; exact fun e => h e.symm
        rw [this]; simp
      cases hk : Lib.count l [c] with
      | zero => rfl
      | succ k =>
        rw [Lib.splitK, Lib.splitK, hi]
        by_cases hm : (Lib.index l [c] == -1) = true
        · simp [hm]
        · have hm' : (Lib.index l [c] == -1) = false := by simpa using hm
          have h0 : 0 ≤ Lib.index l [c] := by
            rcases Lib.index_spec l [c] with ⟨h1, _⟩ | ⟨i, h1, _⟩
            · rw [h1] at hm'; simp at hm'
            · rw [h1]; omega
          have e1 : (Lib.index l [c] + 1 == -1) = false := by rw [beq_eq_false_iff_ne]; omega
          have e2 : (Lib.index l [c] + 1).toNat = (Lib.index l [c]).toNat + 1 := by omega
          simp [hm', e1, e2]

/-- Strings lie in a slice. -/
def StrsIn (w : World) (v : Value) (ps : List ByteArray) : Prop :=
  ∃ b cap, v = .slice (some ⟨b, 0, none⟩) ps.length cap ∧ ps.length ≤ cap ∧ ∀ i (h : i < ps.length), w.cell? ⟨b, i, none⟩ = some (.string ps[i])

theorem StrsIn.below {w w' : World} {v : Value} {ps : List ByteArray} (h : StrsIn w v ps) (hb : Below w.heap.size w w') : StrsIn w' v ps := by
  obtain ⟨b, cap, h1, h2, h3⟩ := h
  exact ⟨b, cap, h1, h2, fun i hi => (hb.cell (lt_of_cell (h3 i hi))).trans (h3 i hi)⟩

/-- The library's cut at one sign. -/
theorem split_any (s : ByteArray) (c : UInt8) (hs : s.size ≤ 4000) (m : Int) (w : World) (hm : w.cell? ⟨2, 0, none⟩ = some (.int .i64 m)) :
    Calls Tryz.prog 30 #[.string s, .string ⟨#[c]⟩] w fun e w' => ∃ v ps, e = .returned v ∧ ps.map (·.data.toList) = cutL c s.data.toList ∧ StrsIn w' v ps ∧ Below w.heap.size w w' := by
  refine (Tryz.strings_Split s ⟨#[c]⟩ m w (by omega) hm (Nat.le_refl 1)).mono ?_
  rintro e w' ⟨rfl, rfl⟩
  have hl := Lib.splitB_all ⟨#[c]⟩ (Nat.le_refl 1) 0 _ s rfl
  refine ⟨_, Lib.splitB ⟨#[c]⟩ 0 (Lib.countB s ⟨#[c]⟩) s, rfl, ?_, ⟨_, _, by rw [hl], by omega, ?_⟩, (Below.refl _ _).alloc (Nat.le_refl _) _⟩
  · rw [Lib.splitB_data]; exact splitK_cut c _
  · intro i hi
    rw [World.cell?_alloc_new]
    simp [hi]

end Go.Proofs.YthbebnegmenejaaGreatDoor
