/-
  The document's Check as one contract; how vast a program is; the law of Check.
-/
import Derived.Test.YtimkclmflcoceaaCheckR2
namespace Go.Proofs.Ytimkclmflcoceaa
open Go.RowKit

/-- The document's Check, of every program that lies in memory. -/
theorem rcheck_any (ca : Option Addr) (n cc : Nat) (wa : Option Addr) (m wc : Nat) (lk rg : Int) (A : Nat → Option Addr) (L C : Nat → Nat) (X : Nat → Nat → Nat → Int) (x y z : Int) (HR : Hid (chk n L X m lk rg = (x, y, z))) (w : World) (hp : PIn w ca n A L C X) :
    Calls Try.prog 6 #[prgV ca n cc wa m wc lk rg] w fun e w' => e = .returned (ints3 x y z) ∧ Below w.heap.size w w' := by
  have h := HR.out
  unfold chk sizesE at h
  by_cases h1 : (n : Int) < 1 ∨ 4 < (n : Int) ∨ 64 < (m : Int)
  · simp only [h1, if_true] at h
    simp at h
    obtain ⟨rfl, rfl, rfl⟩ := h
    exact rcheck_size ca n cc wa m wc lk rg h1 w
  · by_cases h2 : lk < 0 ∨ 4 < lk ∨ rg < 1 ∨ 200 < rg
    · simp only [h1, h2, if_true, if_false] at h
      simp at h
      obtain ⟨rfl, rfl, rfl⟩ := h
      exact rcheck_range ca n cc wa m wc lk rg (by omega) (by omega) h2 w
    · simp only [h1, h2, if_false, ne_eq, not_true_eq_false] at h
      exact rcheck_go ca n cc wa m wc lk rg A L C X x y z (by omega) (by omega) (by omega) (by omega) h w hp

/-- It answers yes or no. -/
def IsBool (e : Ending) : Prop := ∃ b, e = .returned (.bool b)

set_option maxHeartbeats 1000000 in
theorem vast_any (ca : Option Addr) (n cc : Nat) (wa : Option Addr) (m wc : Nat) (lk rg : Int) (A : Nat → Option Addr) (L C : Nat → Nat) (X : Nat → Nat → Nat → Int) (_hm : m ≤ 9223372036854775807) (w : World) (hp : PIn w ca n A L C X) :
    Calls Try.prog 4 #[prgV ca n cc wa m wc lk rg] w fun e w' => IsBool e ∧ Below w.heap.size w w' := by
  have hn := hp.num
  have HB : Below w.heap.size w (w.alloc (.cells #[.slice ca n cc, .slice wa m wc, .int .i64 lk, .int .i64 rg] 25)) := (Below.refl _ _).alloc (Nat.le_refl _) _
  have hp2 := hp.below HB
  clear hp
  go_enter Try.func4, Try.ntmps4
  go_wp2
  go_loop [3, 4] (fun s i => ∃ (q : Int) (k : Nat), k ≤ n ∧ s = .int .i64 q ∧ i = .int .i64 k) (fun _ i => n - (intOf i).toNat)
  case atStart => exact ⟨_, 0, Nat.zero_le _, rfl, rfl⟩
  case round =>
    obtain ⟨q, k, hk, rfl, rfl⟩ := hrel
    by_cases hlt : k < n
    · obtain ⟨cb, co, rfl, hcell⟩ := hp2.code k hlt
      have hl := hp2.len k hlt
      by_cases h100 : (k : Int) < 100
      · go_wp2
        go_round
        case rel => exact ⟨_, k + 1, by omega, rfl, by go_num⟩
        case measure => simp [intOf]; omega
      · go_wp2
        all_goals go_ret
        all_goals exact ⟨⟨_, rfl⟩, HB⟩
    · go_wp2
      all_goals go_ret
      all_goals exact ⟨⟨_, rfl⟩, HB⟩

theorem box_below {w w' : World} {c : Array Value} {t : TypeId} {i : Nat} {v : Value} (hb : Below (w.alloc (.cells c t)).heap.size (w.alloc (.cells c t)) w') (h : c[i]? = some v) : w'.cell? ⟨w.heap.size, i, none⟩ = some v := by
  rw [hb.cell (p := ⟨w.heap.size, i, none⟩) (by simp), World.cell?_alloc_new, h]

set_option maxHeartbeats 1000000 in
theorem asmChecks_any (ca : Option Addr) (n cc : Nat) (wa : Option Addr) (m wc : Nat) (lk rg : Int) (A : Nat → Option Addr) (L C : Nat → Nat) (X : Nat → Nat → Nat → Int) (hm : m ≤ 9223372036854775807) (w : World) (hp : PIn w ca n A L C X) :
    Calls Try.prog 3 #[prgV ca n cc wa m wc lk rg] w fun e w' => e = .returned (.bool true) ∧ Below w.heap.size w w' := by
  obtain ⟨x, y, z, hR⟩ : ∃ x y z, chk n L X m lk rg = (x, y, z) := ⟨_, _, _, rfl⟩
  have HR : Hid (chk n L X m lk rg = (x, y, z)) := hR
  clear hR
  have HB0 : Below w.heap.size w (w.alloc (.cells #[.slice ca n cc, .slice wa m wc, .int .i64 lk, .int .i64 rg] 25)) := (Below.refl _ _).alloc (Nat.le_refl _) _
  have hp0 := hp.below HB0
  go_enter Try.func3, Try.ntmps3
  go_wp2_with (first | (go_at_call 4; refine (vast_any _ _ _ _ _ _ _ _ A L C X hm _ hp0).mono ?_; rintro e w1 ⟨⟨b, rfl⟩, hb1⟩; have p0 := box_below (i := 0) hb1 rfl; have p1 := box_below (i := 1) hb1 rfl; have p2 := box_below (i := 2) hb1 rfl; have p3 := box_below (i := 3) hb1 rfl; have hp1 := hp0.below hb1) | (go_at_call 5; refine (check_any _ _ _ _ _ _ _ _ A L C X x y z HR _ hp1).mono ?_; rintro e w2 ⟨rfl, hb2⟩; rw [← hb2.cell (lt_of_cell p0)] at p0; rw [← hb2.cell (lt_of_cell p1)] at p1; rw [← hb2.cell (lt_of_cell p2)] at p2; rw [← hb2.cell (lt_of_cell p3)] at p3; have hz2 : w.heap.size < w2.heap.size := lt_of_cell p0; have hpA := fun o => (hp1.below hb2).below ((Below.refl w2.heap.size w2).alloc (Nat.le_refl _) o)) | (go_at_call 6; refine (rcheck_any _ _ _ _ _ _ _ _ A L C X x y z HR _ (hpA _)).mono ?_; rintro e w3 ⟨rfl, hb3⟩; have g0 := box_below (i := 0) hb3 rfl; have g1 := box_below (i := 1) hb3 rfl; have g2 := box_below (i := 2) hb3 rfl; have hz3 : w2.heap.size < w3.heap.size := lt_of_cell g0))
  · go_ret
    exact ⟨rfl, HB0.trans (hb1.mono (by simp))⟩
  · go_ret
    have h1 : Below w.heap.size w w2 := (HB0.trans (hb1.mono (by simp))).trans (hb2.mono (HB0.trans (hb1.mono (by simp))).size)
    exact ⟨rfl, ((h1.alloc h1.size _).trans (hb3.mono (h1.alloc h1.size _).size)).alloc (Nat.le_trans (h1.alloc h1.size _).size hb3.size) _⟩

end Go.Proofs.Ytimkclmflcoceaa
