/-
  The program's plain memory ahead of the first step.
-/
import Derived.Test.YtjheojfpnfkloaaPNew
namespace Go.Proofs.Ytjheojfpnfkloaa
open Go.RowKit

/-- A plain memory that has just been made, in the block mb. -/
structure Mem0 (w w' : World) (mb : Nat) (wv ov : Value) (words : List Int) (lk : Nat) : Prop where
  box : w'.heap[mb]? = some (.cells #[wv, ov] 93 (0, 0))
  wrow : w'.ownsRow w.heap.size 3 1 wv words.length (intsV words)
  orow : w'.ownsRow w.heap.size 3 1 ov lk (intsV (List.replicate lk (-1)))
  lo : w.heap.size ≤ mb
  a1 : wv.ownBlock ≠ some mb
  a2 : ov.ownBlock ≠ some mb
  a3 : ∀ g, wv.ownBlock = some g → ov.ownBlock ≠ some g
  below : Below w.heap.size w w'

theorem cell_new1 (w : World) (x : Value) (e : TypeId) : (w.alloc (.cells #[x] e)).cell? ⟨w.heap.size, 0, none⟩ = some x := by go_simp
theorem cell_drw {w : World} {a : Addr} {v : Value} (h : w.cell? a = some v) : w.drew.cell? a = some v := h
theorem row_of_block {w : World} {B g k : Nat} (hB : B ≤ g) (hk : k ≤ 1000) (h : w.heap[g]? = some (.cells (intsV (List.replicate k (-1))).toArray 3 (0, 0))) : w.ownsRow B 3 1 (.slice (some ⟨g, 0, none⟩) k k) k (intsV (List.replicate k (-1))) := by
  refine ⟨by simp [intsV_len], Or.inr ⟨g, k, _, rfl, hB, h, Nat.le_refl _, by unfold maxLen; omega, by simp [intsV_len], ?_⟩⟩
  rw [List.take_of_length_le (by simp [intsV_len])]

set_option maxRecDepth 100000 in
set_option maxHeartbeats 3200000 in
theorem newPlain_any (w : World) (ca : Option Addr) (n cc : Nat) (wa : Option Addr) (wc lk rg : Nat) (words : List Int) (hw : SIs w wa words) (hnil : wa = none → words = [] ∧ wc = 0) (hm : words.length ≤ 64) (hlk : lk ≤ 4) :
    Calls Try.prog 24 #[prgV ca n cc wa words.length wc lk rg] w fun e w' => ∃ mb wv ov, e = .returned (.pointer (some ⟨mb, 0, none⟩)) ∧ Mem0 w w' mb wv ov words lk := by
  have HCL : Hid (∀ W, Below w.heap.size w W → Calls Try.prog 38 #[.slice wa words.length wc] W fun e w' => ∃ a cap, e = .returned (.slice a words.length cap) ∧ w'.ownsRow W.heap.size 3 1 (.slice a words.length cap) words.length (intsV words) ∧ Below W.heap.size W w') := fun W hb => clone_any W wa words wc (hw.below hb) hnil (by omega)
  obtain ⟨m, hmm⟩ : ∃ m, words.length = m := ⟨_, rfl⟩
  rw [hmm] at HCL hm ⊢
  have HMM : Hid (words.length = m) := hmm
  clear hw hnil hmm
  have HFIN : Hid (∀ (W : World) (a : Option Addr) (cap g : Nat), W.ownsRow w.heap.size 3 1 (.slice a m cap) m (intsV words) → W.heap[g]? = some (.cells (intsV (List.replicate lk (-1))).toArray 3 (0, 0)) → w.heap.size ≤ g → (∀ k, (Value.slice a m cap).ownBlock = some k → k ≠ g) → Below w.heap.size w W → Mem0 w (W.alloc (.cells #[.slice a m cap, .slice (some ⟨g, 0, none⟩) lk lk] 93)) W.heap.size (.slice a m cap) (.slice (some ⟨g, 0, none⟩) lk lk) words lk) := fun W a cap g h1 h2 h3 h4 h5 => by
    have hg : g < W.heap.size := by
      rcases Nat.lt_or_ge g W.heap.size with h | h
      · exact h
      · rw [Array.getElem?_eq_none h] at h2; cases h2
    refine ⟨heap_alloc_new _ _, ?_, ?_, h5.size, fun e => ?_, fun e => ?_, fun k hk e => ?_, h5.alloc h5.size _⟩
    · rw [HMM.out]; exact h1.alloc _
    · exact (row_of_block h3 (by omega) h2).alloc _
    · have := (h1.lt _ e).2; omega
    · have : g = W.heap.size := by simpa [Value.ownBlock] using e
      omega
    · have : g = k := by simpa [Value.ownBlock] using e
      exact h4 k hk this.symm
  have p1 : (w.alloc (.cells #[.slice ca n cc, .slice wa m wc, .int .i64 (lk : Int), .int .i64 (rg : Int)] 25)).cell? ⟨w.heap.size, 1, none⟩ = some (.slice wa m wc) := by go_simp
  have p2 : (w.alloc (.cells #[.slice ca n cc, .slice wa m wc, .int .i64 (lk : Int), .int .i64 (rg : Int)] 25)).cell? ⟨w.heap.size, 2, none⟩ = some (.int .i64 (lk : Int)) := by go_simp
  go_enter Try.func24, Try.ntmps24
  go_wp2
  go_region_held3 (fun w' => w'.cell? ⟨w.heap.size, 1, none⟩ = some (.slice wa m wc) ∧ w'.cell? ⟨w.heap.size, 2, none⟩ = some (.int .i64 (lk : Int))) (refine ⟨?_, ?_⟩ <;> (repeat (first | assumption | refine cell_drw ?_ | refine cell_up ?_ _))) (first | (go_at_call 38; refine Calls.mono (HCL.out _ (by repeat (first | exact Below.refl _ _ | assumption | refine Below.drew ?_ | refine Below.alloc ?_ (by first | (simp; done) | (simp; omega) | omega) _))) ?_; rintro e w3 ⟨a3, cap3, rfl, hown3, hb3⟩; (try have zx : w3.cell? ⟨w.heap.size + 1, 0, none⟩ = some (.int .i64 (-1)) := (hb3.cell (p := ⟨w.heap.size + 1, 0, none⟩) (by simp)).trans (by have hn := cell_new1 (w.alloc (.cells #[.slice ca n cc, .slice wa m wc, .int .i64 (lk : Int), .int .i64 (rg : Int)] 25)) (.int .i64 (-1)) 3; rw [World.size_alloc] at hn; exact hn)); have hB3 : Below w.heap.size w w3 := Below.trans (by repeat (first | exact Below.refl _ _ | assumption | refine Below.drew ?_ | refine Below.alloc ?_ (by simp) _)) (hb3.mono (by first | (simp; done) | (simp; omega) | omega)); have s3 := hb3.size; have z1 : w3.cell? ⟨w.heap.size, 1, none⟩ = some (.slice wa m wc) := (hb3.cell (p := ⟨w.heap.size, 1, none⟩) (by first | (simp; done) | (show w.heap.size < _; simp; omega) | (show w.heap.size < _; omega))).trans (by repeat (first | assumption | refine cell_drw ?_ | refine cell_up ?_ _)); have z2 : w3.cell? ⟨w.heap.size, 2, none⟩ = some (.int .i64 (lk : Int)) := (hb3.cell (p := ⟨w.heap.size, 2, none⟩) (by first | (simp; done) | (show w.heap.size < _; simp; omega) | (show w.heap.size < _; omega))).trans (by repeat (first | assumption | refine cell_drw ?_ | refine cell_up ?_ _)); have lz : w.heap.size < w3.heap.size := lt_of_cell z1) | (go_at_call 39; refine (repeat_any _ _ lk (by first | assumption | exact cell_new1 _ _ _ | exact cell_drw (cell_new1 _ _ _) | (refine cell_drw ?_; exact cell_new1 _ _ _)) hlk).mono ?_; rintro e w4 ⟨rfl, hh4, hb4⟩; have s4 := hb4.size; have y1 : w4.cell? ⟨w.heap.size, 1, none⟩ = some (.slice wa m wc) := (hb4.cell (p := ⟨w.heap.size, 1, none⟩) (by first | (simp; done) | (show w.heap.size < _; simp; omega) | (show w.heap.size < _; omega))).trans (by repeat (first | assumption | refine cell_drw ?_ | refine cell_up ?_ _)); have y2 : w4.cell? ⟨w.heap.size, 2, none⟩ = some (.int .i64 (lk : Int)) := (hb4.cell (p := ⟨w.heap.size, 2, none⟩) (by first | (simp; done) | (show w.heap.size < _; simp; omega) | (show w.heap.size < _; omega))).trans (by repeat (first | assumption | refine cell_drw ?_ | refine cell_up ?_ _)); have hB4 : Below w.heap.size w w4 := Below.trans (by repeat (first | exact Below.refl _ _ | assumption | refine Below.drew ?_ | refine Below.alloc ?_ (by first | (simp; done) | (simp; omega) | omega) _)) (hb4.mono (by first | (simp; done) | (simp; omega) | omega)); have ly : w.heap.size < w4.heap.size := lt_of_cell y1))
  all_goals go_wp2
  all_goals go_ret
  · refine ⟨w4.heap.size, .slice a3 m cap3, .slice (some ⟨w3.heap.size + 1, 0, none⟩) lk lk, rfl, HFIN.out w4 a3 cap3 (w3.heap.size + 1) ?_ (by simpa using hh4) (by omega) (fun k hk => ?_) hB4⟩
    · exact fam_keeps (own_low hown3 (by simp)) (fun g hg => (hb4.block g (by have := (hown3.lt g hg).2; simp; omega)).trans (Below.heap_alloc _ _ _ (hown3.lt g hg).2))
    · have := (hown3.lt k hk).2; omega
  · refine ⟨w4.heap.size, .slice a3 m cap3, .slice (some ⟨w3.heap.size, 0, none⟩) lk lk, rfl, HFIN.out w4 a3 cap3 w3.heap.size ?_ (by simpa using hh4) (by omega) (fun k hk => ?_) hB4⟩
    · exact fam_keeps (own_low hown3 (by simp; omega)) (fun g hg => hb4.block g (hown3.lt g hg).2)
    · have := (hown3.lt k hk).2; omega

end Go.Proofs.Ytjheojfpnfkloaa
