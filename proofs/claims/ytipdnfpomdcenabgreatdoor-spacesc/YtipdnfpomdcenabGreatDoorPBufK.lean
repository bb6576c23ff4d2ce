/-
  The memory with buffers is a memory: its methods do what the program asks of one.
  A memory with buffers that has just been made.
-/
import Derived.Test.YtipdnfpomdcenabGreatDoorPBuf4
import Derived.Test.YtipdnfpomdcenabGreatDoorPBack
import Derived.Test.YtipdnfpomdcenabGreatDoorPPlainK
import Derived.Test.YtipdnfpomdcenabGreatDoorFam
namespace Go.Proofs.YtipdnfpomdcenabGreatDoor
section
open Go.RowKit

/-- A method of the memory within. -/
theorem meth_in {w : World} {bb mb fid : Nat} {name : String} (h : (method 368 72 (.pointer (some ⟨bb, 0, none⟩)) name).run Tryz.prog w = ((loadVar 62 ⟨bb, 0, none⟩) >>= fun r => pure (fid, r)).run Tryz.prog w) (b0 : w.cell? ⟨bb, 0, none⟩ = some (.pointer (some ⟨mb, 0, none⟩))) :
    (method 368 72 (.pointer (some ⟨bb, 0, none⟩)) name).run Tryz.prog w = .ok (fid, .pointer (some ⟨mb, 0, none⟩)) w := by
  rw [h]
  simp [go_sem, b0]

theorem buf_law : MLaw bufK where
  notTr := by decide
  mode0 h := by cases h
  mode1 _ := by decide
  mHas w B Q sb mb v s hK h := by rw [buf_top hK]; exact meth_in (by kernel_rfl) (h.b0 (buf_bf hK))
  mAble a w := by kernel_rfl
  cAble xs w := by kernel_rfl
  mLoad a w := by kernel_rfl
  cLoad xs w := by kernel_rfl
  mStore a w := by kernel_rfl
  cStore xs w := by kernel_rfl
  mSwap w B Q sb mb v s hK h := by rw [buf_top hK]; exact meth_in (by kernel_rfl) (h.b0 (buf_bf hK))
  mLock w B Q sb mb v s hK h := by rw [buf_top hK]; exact meth_in (by kernel_rfl) (h.b0 (buf_bf hK))
  mUnlock a w := by kernel_rfl
  cUnlock xs w := by kernel_rfl
  mWaiting a w := by kernel_rfl
  cWaiting xs w := by kernel_rfl
  mFinish a w := by kernel_rfl
  cFinish xs w := by kernel_rfl
  mWords w B Q sb mb v s hK h := by rw [buf_top hK]; exact meth_in (by kernel_rfl) (h.b0 (buf_bf hK))
  able w B Q sb mb v s t op a b c hK hp ha := by
    rw [buf_top hK]; exact bable_any w B Q sb mb v s t op a b c hK hp ha
  load w B Q sb mb v s t x hK hp hx := by
    rw [buf_top hK]; exact bload_any w B Q sb mb v s t x hK hp hx
  store w B Q sb mb v s t x y hK hp _ hw := by
    rw [buf_top hK]; exact bstore_any w B Q sb mb v s t x y hK hp hw
  unlockY w B Q sb mb v s t x hK hp hx hw ho ha := by
    rw [buf_top hK]
    exact (bunlock_any w B Q sb mb v s t x hK hp hx false ha true (decide_eq_true ho) (fun _ _ => hw)).mono fun e w' h => h.1 ⟨rfl, rfl⟩
  unlockN w B Q sb mb v s t x hK hp hx h := by
    rw [buf_top hK]
    refine (bunlock_any w B Q sb mb v s t x hK hp hx _ rfl _ rfl (fun h1 h2 => ?_)).mono fun e w' g => g.2 (h.imp decide_eq_false id)
    rcases h with h | h
    · exact absurd (of_decide_eq_true h1) h
    · rw [h] at h2; cases h2
  finish w B Q sb mb v s X t k hK hp hlo hk _ := by
    rw [buf_top hK]; exact bfinish_any w B Q sb mb v s X t k hK hp hlo hk
  waiting w B Q sb mb v s t fid caps I hK kF hp hI h0 hC := by
    rw [buf_top hK]; exact bwaiting_any w B Q sb mb v s t fid caps I hK kF (hp 0 w h0) hI h0 hC
end

section
open Go.RowKit

theorem made_nils (n : Nat) : madeCells #[nilV] n = (List.replicate n nilV).toArray := by
  apply Array.ext'
  simp [madeCells]
  apply List.ext_getElem?
  intro i
  simp only [List.getElem?_map, List.getElem?_replicate]
  by_cases h : i < n
  · simp [h, Nat.mod_one]
  · simp [h]
theorem nils_row {w : World} {B g k : Nat} {ty : TypeId} (hB : B ≤ g) (hk : k ≤ 1000) (h : w.heap[g]? = some (.cells (madeCells #[nilV] k) ty (0, 0))) : w.ownsRow B ty 1 (.slice (some ⟨g, 0, none⟩) k k) k (List.replicate k nilV) := by
  rw [made_nils] at h
  refine ⟨by simp, Or.inr ⟨g, k, _, rfl, hB, h, Nat.le_refl _, by unfold maxLen; omega, by simp, ?_⟩⟩
  rw [List.take_of_length_le (by simp)]
theorem Mem0.low {w W0 w3 W : World} {mb lk : Nat} {wv ov : Value} {words : List Int} (h : Mem0 W0 w3 mb wv ov words lk) (h0 : Below w.heap.size w W0) (h3 : Below w3.heap.size w3 W) : Mem0 w W mb wv ov words lk := by
  have hl : mb < w3.heap.size := by
    rcases Nat.lt_or_ge mb w3.heap.size with h1 | h1
    · exact h1
    · have := h.box; rw [Array.getElem?_eq_none h1] at this; cases this
  exact ⟨(h3.block _ hl).trans h.box, fam_keeps (own_low h.wrow h0.size) (fun g e => h3.block g (h.wrow.lt g e).2), fam_keeps (own_low h.orow h0.size) (fun g e => h3.block g (h.orow.lt g e).2), Nat.le_trans h0.size h.lo, h.a1, h.a2, h.a3, (h0.trans (h.below.mono h0.size)).trans (h3.mono (Nat.le_trans h0.size h.below.size))⟩
/-- The rows of a memory with buffers that has just been made. -/
def b0V (mb bb g n : Nat) (wv ov : Value) : Rp → Value
  | .mem => boxV mb
  | .words => wv
  | .own => ov
  | .box => boxV bb
  | .bufs => .slice (some ⟨g, 0, none⟩) n n
  | _ => nilV
theorem thOf_sB (words : List Int) (lk t : Nat) : (thOf (sB words lk) t).wait = [] := rfl
theorem Mem0.b {w W : World} {mb lk g n : Nat} {wv ov : Value} {words : List Int} (h : Mem0 w W mb wv ov words lk) (hn : n ≤ 4) (hg : W.heap[g]? = some (.cells (madeCells #[nilV] n) 251 (0, 0))) (hgl : w.heap.size ≤ g) (A : Nat → Option Addr) (L C : Nat → Nat) :
    MemQ ⟨A, L, C, bufK, W.heap.size, n⟩ w (W.alloc (.cells #[.pointer (some ⟨mb, 0, none⟩), .slice (some ⟨g, 0, none⟩) n n] 127)) mb (b0V mb W.heap.size g n wv ov) words lk := by
  have lt : ∀ k o, W.heap[k]? = some o → k < W.heap.size := fun k o hk => by
    rcases Nat.lt_or_ge k W.heap.size with h1 | h1
    · exact h1
    · rw [Array.getElem?_eq_none h1] at hk; cases hk
  have lm := lt _ _ h.box
  have lg := lt _ _ hg
  have c1 : g ≠ mb := fun e => by rw [e, h.box] at hg; simp at hg
  have c2 := own_type h.wrow hg (by decide)
  have c3 := own_type h.orow hg (by decide)
  have c4 : wv.ownBlock ≠ some W.heap.size := fun e => absurd (h.wrow.lt _ e).2 (by omega)
  have c5 : ov.ownBlock ≠ some W.heap.size := fun e => absurd (h.orow.lt _ e).2 (by omega)
  refine ⟨fun r hr => ?_, fun r q k hr hq => ?_, rfl, rfl, rfl, fun _ => rfl, rfl, fun _ => rfl, h.below.alloc h.below.size _⟩
  · cases r with
    | st => exact absurd rfl hr
    | mem => exact (fam_box (xs := [wv, ov]) h.lo h.box).alloc _
    | words => exact h.wrow.alloc _
    | own =>
      show World.ownsRow _ _ _ 1 ov (List.replicate lk (-1 : Int)).length _
      rw [List.length_replicate]
      exact h.orow.alloc _
    | thr => exact World.ownsRow_nil _ _ _ _
    | prints => exact World.ownsRow_nil _ _ _ _
    | regs t => exact World.ownsRow_nil _ _ _ _
    | box => exact fam_box (xs := [.pointer (some ⟨mb, 0, none⟩), .slice (some ⟨g, 0, none⟩) n n]) h.below.size (heap_alloc_new _ _)
    | bufs =>
      have e : pX ⟨A, L, C, bufK, W.heap.size, n⟩ mb (b0V mb W.heap.size g n wv ov) (sB words lk) .bufs = List.replicate n nilV := by
        show (List.range n).map (fun _ => nilV) = _
        exact List.eq_replicate_iff.2 ⟨by rw [List.length_map, List.length_range], fun b hb => by obtain ⟨_, _, e⟩ := List.mem_map.1 hb; exact e.symm⟩
      rw [e]
      exact (nils_row hgl (by omega) hg).alloc _
    | buf t => exact World.ownsRow_nil _ _ _ _
  · have s1 : ∀ b k, (boxV b).ownBlock = some k → k = b := fun b k e => by simpa [Value.ownBlock] using e.symm
    have s2 : ∀ b k, (Value.slice (some ⟨b, 0, none⟩) n n).ownBlock = some k → k = b := fun b k e => by simpa [Value.ownBlock] using e.symm
    have s3 : ∀ k, (nilV).ownBlock = some k → False := fun k e => by simp [Value.ownBlock] at e
    have a1 := h.a1
    have a2 := h.a2
    have a3 := h.a3
    have key : ∀ r k, (b0V mb W.heap.size g n wv ov r).ownBlock = some k → (r = .mem ∧ k = mb) ∨ (r = .words ∧ wv.ownBlock = some k) ∨ (r = .own ∧ ov.ownBlock = some k) ∨ (r = .box ∧ k = W.heap.size) ∨ (r = .bufs ∧ k = g) := fun r k e => by
      cases r with
      | mem => exact .inl ⟨rfl, s1 _ _ e⟩
      | words => exact .inr (.inl ⟨rfl, e⟩)
      | own => exact .inr (.inr (.inl ⟨rfl, e⟩))
      | box => exact .inr (.inr (.inr (.inl ⟨rfl, s1 _ _ e⟩)))
      | bufs => exact .inr (.inr (.inr (.inr ⟨rfl, s2 _ _ e⟩)))
      | st => exact (s3 _ e).elim
      | thr => exact (s3 _ e).elim
      | prints => exact (s3 _ e).elim
      | regs t => exact (s3 _ e).elim
      | buf t => exact (s3 _ e).elim
    rcases key r k hr with ⟨rfl, e1⟩ | ⟨rfl, e1⟩ | ⟨rfl, e1⟩ | ⟨rfl, e1⟩ | ⟨rfl, e1⟩ <;> rcases key q k hq with ⟨rfl, e2⟩ | ⟨rfl, e2⟩ | ⟨rfl, e2⟩ | ⟨rfl, e2⟩ | ⟨rfl, e2⟩ <;> first | rfl | (exfalso; omega) | (exfalso; subst e1; exact absurd e2 (by assumption)) | (exfalso; subst e2; exact absurd e1 (by assumption)) | (exact absurd e2 (a3 _ e1)) | (exact absurd e1 (a3 _ e2))

set_option maxRecDepth 100000 in
set_option maxHeartbeats 3200000 in
theorem newBuffered_any (w : World) (ca : Option Addr) (n cc : Nat) (wa : Option Addr) (wc lk rg : Nat) (words : List Int) (hw : SIs w wa words) (hnil : wa = none → words = [] ∧ wc = 0) (hm : words.length ≤ 64) (hlk : lk ≤ 4) (hn : n ≤ 4) :
    Calls Tryz.prog 31 #[prgV ca n cc wa words.length wc lk rg] w fun e w' => ∃ bb mb v, e = .returned (.pointer (some ⟨bb, 0, none⟩)) ∧ ∀ A L C, MemQ ⟨A, L, C, bufK, bb, n⟩ w w' mb v words lk := by
  have HNEW : Hid (∀ W, Below w.heap.size w W → Calls Tryz.prog 25 #[prgV ca n cc wa words.length wc lk rg] W fun e w' => ∃ mb wv ov, e = .returned (.pointer (some ⟨mb, 0, none⟩)) ∧ Mem0 W w' mb wv ov words lk) := fun W hb => newPlain_any W ca n cc wa wc lk rg words (hw.below hb) hnil hm hlk
  have hmk := fun W => run_make_row' (P := Tryz.prog) 125 251 nilV 24 Tryz.underlying125 (by kernel_rfl) rfl .i64 .i64 n (by omega) (by omega) W
  obtain ⟨m, hmm⟩ : ∃ m, words.length = m := ⟨_, rfl⟩
  rw [hmm] at HNEW ⊢
  clear hw hnil hm hmm
  have HN4 : Hid (n ≤ 4) := hn
  clear hn hlk
  go_enter Tryz.func31, Tryz.ntmps31
  go_wp2
  have q0 : (w.alloc (.cells #[.slice ca n cc, .slice wa m wc, .int .i64 (lk : Int), .int .i64 (rg : Int)] 25)).cell? ⟨w.heap.size, 0, none⟩ = some (.slice ca n cc) := by go_simp
  have q1 : (w.alloc (.cells #[.slice ca n cc, .slice wa m wc, .int .i64 (lk : Int), .int .i64 (rg : Int)] 25)).cell? ⟨w.heap.size, 1, none⟩ = some (.slice wa m wc) := by go_simp
  have q2 : (w.alloc (.cells #[.slice ca n cc, .slice wa m wc, .int .i64 (lk : Int), .int .i64 (rg : Int)] 25)).cell? ⟨w.heap.size, 2, none⟩ = some (.int .i64 (lk : Int)) := by go_simp
  have q3 : (w.alloc (.cells #[.slice ca n cc, .slice wa m wc, .int .i64 (lk : Int), .int .i64 (rg : Int)] 25)).cell? ⟨w.heap.size, 3, none⟩ = some (.int .i64 (rg : Int)) := by go_simp
  have HB1 : Hid (Below w.heap.size w (w.alloc (.cells #[.slice ca n cc, .slice wa m wc, .int .i64 (lk : Int), .int .i64 (rg : Int)] 25))) := (Below.refl _ _).alloc (Nat.le_refl _) _
  have hs1 : (w.alloc (.cells #[.slice ca n cc, .slice wa m wc, .int .i64 (lk : Int), .int .i64 (rg : Int)] 25)).heap.size = w.heap.size + 1 := by simp
  obtain ⟨W1, hW1⟩ : ∃ W1, w.alloc (.cells #[.slice ca n cc, .slice wa m wc, .int .i64 (lk : Int), .int .i64 (rg : Int)] 25) = W1 := ⟨_, rfl⟩
  rw [hW1] at q0 q1 q2 q3 HB1 hs1 ⊢
  clear hW1
  go_region_held3 (fun w' => w'.cell? ⟨w.heap.size, 0, none⟩ = some (.slice ca n cc) ∧ w'.cell? ⟨w.heap.size, 1, none⟩ = some (.slice wa m wc) ∧ w'.cell? ⟨w.heap.size, 2, none⟩ = some (.int .i64 (lk : Int)) ∧ w'.cell? ⟨w.heap.size, 3, none⟩ = some (.int .i64 (rg : Int))) (refine ⟨?_, ?_, ?_, ?_⟩ <;> (repeat (first | with_reducible assumption | with_reducible refine cell_drw ?_ | with_reducible refine cell_up ?_ _))) ((go_at_call 25; refine Calls.mono (HNEW.out _ (by repeat (first | exact HB1.out | refine Below.drew ?_ | refine Below.alloc ?_ (by have := HB1.out.size; simp; omega) _))) ?_; rintro e w3 ⟨mb, wv, ov, rfl, hm⟩; have z0 : w3.cell? ⟨w.heap.size, 0, none⟩ = some (.slice ca n cc) := (hm.below.cell (p := ⟨w.heap.size, 0, none⟩) (by show w.heap.size < _; simp; omega)).trans (by repeat (first | exact q0 | refine cell_drw ?_ | refine cell_up ?_ _)); have z1 : w3.cell? ⟨w.heap.size, 1, none⟩ = some (.slice wa m wc) := (hm.below.cell (p := ⟨w.heap.size, 1, none⟩) (by show w.heap.size < _; simp; omega)).trans (by repeat (first | exact q1 | refine cell_drw ?_ | refine cell_up ?_ _)); have z2 : w3.cell? ⟨w.heap.size, 2, none⟩ = some (.int .i64 (lk : Int)) := (hm.below.cell (p := ⟨w.heap.size, 2, none⟩) (by show w.heap.size < _; simp; omega)).trans (by repeat (first | exact q2 | refine cell_drw ?_ | refine cell_up ?_ _)); have z3 : w3.cell? ⟨w.heap.size, 3, none⟩ = some (.int .i64 (rg : Int)) := (hm.below.cell (p := ⟨w.heap.size, 3, none⟩) (by show w.heap.size < _; simp; omega)).trans (by repeat (first | exact q3 | refine cell_drw ?_ | refine cell_up ?_ _)); have HM := Hid.out (p := Hid _) hm; clear hm))
  all_goals go_wp2
  all_goals go_ret
  · refine ⟨w3.heap.size + 1, mb, b0V mb (w3.heap.size + 1) w3.heap.size n wv ov, rfl, fun A L C => ?_⟩
    have h := (HM.out.low HB1.out.drew ((Below.refl _ _).alloc (Nat.le_refl _) (.cells (madeCells #[nilV] n) 251))).b HN4.out (heap_alloc_new _ _) (Nat.le_trans HB1.out.drew.size HM.out.below.size) A L C
    rw [World.size_alloc] at h
    exact h
  · refine ⟨w3.heap.size, mb, b0V mb w3.heap.size (w.heap.size + 1) n wv ov, rfl, fun A L C => ?_⟩
    have hg : (W1.alloc (.cells (madeCells #[nilV] n) 251)).heap[w.heap.size + 1]? = some (.cells (madeCells #[nilV] n) 251 (0, 0)) := by
      have := heap_alloc_new W1 (.cells (madeCells #[nilV] n) 251)
      rwa [hs1] at this
    exact (HM.out.low (HB1.out.alloc HB1.out.size _).drew (Below.refl _ _)).b HN4.out ((HM.out.below.block _ (by simp [hs1])).trans hg) (Nat.le_succ _) A L C
end

end Go.Proofs.YtipdnfpomdcenabGreatDoor
