/-
  The program's plain memory ahead of the first step.
  The plain memory is a memory: its methods do what the program asks of one.
  The memory with buffers: its rows, what waits of a thread, whether it is able, what is put behind.
-/
import Derived.Test.YtgofbkgfonlceacGreatDoorRcP
import Derived.Test.YtgofbkgfonlceacGreatDoorRMay
import Derived.Test.YtgofbkgfonlceacGreatDoorPBegin
namespace Go.Proofs.YtgofbkgfonlceacGreatDoor
section
open Go.RowKit

/-- A plain memory that has just been made, in the block mb. -/
structure Mem0 (w w' : World) (mb : Nat) (wv ov : Value) (words : List Int) (lk : Nat) : Prop where
  box : w'.heap[mb]? = some (.cells #[wv, ov] 117 (0, 0))
  wrow : w'.ownsRow w.heap.size 3 1 wv words.length (intsV words)
  orow : w'.ownsRow w.heap.size 3 1 ov lk (intsV (List.replicate lk (-1)))
  lo : w.heap.size ≤ mb
  a1 : wv.ownBlock ≠ some mb
  a2 : ov.ownBlock ≠ some mb
  a3 : ∀ g, wv.ownBlock = some g → ov.ownBlock ≠ some g
  below : Below w.heap.size w w'

theorem cell_new1 (w : World) (x : Value) (e : TypeId) : (w.alloc (.cells #[x] e)).cell? ⟨w.heap.size, 0, none⟩ = some x := by go_simp
theorem row_of_block {w : World} {B g k : Nat} (hB : B ≤ g) (hk : k ≤ 1000) (h : w.heap[g]? = some (.cells (intsV (List.replicate k (-1))).toArray 3 (0, 0))) : w.ownsRow B 3 1 (.slice (some ⟨g, 0, none⟩) k k) k (intsV (List.replicate k (-1))) := by
  refine ⟨by simp [intsV_len], Or.inr ⟨g, k, _, rfl, hB, h, Nat.le_refl _, by unfold maxLen; omega, by simp [intsV_len], ?_⟩⟩
  rw [List.take_of_length_le (by simp [intsV_len])]

set_option maxRecDepth 100000 in
set_option maxHeartbeats 3200000 in
theorem newPlain_any (w : World) (ca : Option Addr) (n cc : Nat) (wa : Option Addr) (wc lk rg : Nat) (words : List Int) (hw : SIs w wa words) (hnil : wa = none → words = [] ∧ wc = 0) (hm : words.length ≤ 64) (hlk : lk ≤ 4) :
    Calls Tryz.prog 22 #[prgV ca n cc wa words.length wc lk rg] w fun e w' => ∃ mb wv ov, e = .returned (.pointer (some ⟨mb, 0, none⟩)) ∧ Mem0 w w' mb wv ov words lk := by
  have HCL : Hid (∀ W, Below w.heap.size w W → Calls Tryz.prog 50 #[.slice wa words.length wc] W fun e w' => ∃ a cap, e = .returned (.slice a words.length cap) ∧ w'.ownsRow W.heap.size 3 1 (.slice a words.length cap) words.length (intsV words) ∧ Below W.heap.size W w') := fun W hb => clone_any W wa words wc (hw.below hb) hnil (by omega)
  obtain ⟨m, hmm⟩ : ∃ m, words.length = m := ⟨_, rfl⟩
  rw [hmm] at HCL hm ⊢
  have HMM : Hid (words.length = m) := hmm
  clear hw hnil hmm
  have HFIN : Hid (∀ (W : World) (a : Option Addr) (cap g : Nat), W.ownsRow w.heap.size 3 1 (.slice a m cap) m (intsV words) → W.heap[g]? = some (.cells (intsV (List.replicate lk (-1))).toArray 3 (0, 0)) → w.heap.size ≤ g → (∀ k, (Value.slice a m cap).ownBlock = some k → k ≠ g) → Below w.heap.size w W → Mem0 w (W.alloc (.cells #[.slice a m cap, .slice (some ⟨g, 0, none⟩) lk lk] 117)) W.heap.size (.slice a m cap) (.slice (some ⟨g, 0, none⟩) lk lk) words lk) := fun W a cap g h1 h2 h3 h4 h5 => by
    have hg : g < W.heap.size := by
      rcases Nat.lt_or_ge g W.heap.size with h | h
      · exact h
      · rw [Array.getElem?_eq_none h] at h2; cases h2
    refine ⟨heap_alloc_new _ _, ?_, ?_, h5.size, fun e => ?_, fun e => ?_, fun k hk e => ?_, h5.alloc h5.size _⟩
    · rw [HMM.out]; exact h1.alloc _
    · exact (row_of_block h3 (by omega) h2).alloc _
    · have := (h1.lt _ e).2; omega
    · have : g = W.heap.size := by simpa [Value.ownBlock] using e
      omega
    · have : g = k := by simpa [Value.ownBlock] using e
      exact h4 k hk this.symm
  have p1 : (w.alloc (.cells #[.slice ca n cc, .slice wa m wc, .int .i64 (lk : Int), .int .i64 (rg : Int)] 25)).cell? ⟨w.heap.size, 1, none⟩ = some (.slice wa m wc) := by go_simp
  have p2 : (w.alloc (.cells #[.slice ca n cc, .slice wa m wc, .int .i64 (lk : Int), .int .i64 (rg : Int)] 25)).cell? ⟨w.heap.size, 2, none⟩ = some (.int .i64 (lk : Int)) := by go_simp
  go_enter Tryz.func22, Tryz.ntmps22
  go_wp2
  go_region_held3 (fun w' => w'.cell? ⟨w.heap.size, 1, none⟩ = some (.slice wa m wc) ∧ w'.cell? ⟨w.heap.size, 2, none⟩ = some (.int .i64 (lk : Int))) (refine ⟨?_, ?_⟩ <;> (repeat (first | assumption | refine cell_drw ?_ | refine cell_up ?_ _))) (first | (go_at_call 50; refine Calls.mono (HCL.out _ (by repeat (first | exact Below.refl _ _ | assumption | refine Below.drew ?_ | refine Below.alloc ?_ (by first | (simp; done) | (simp; omega) | omega) _))) ?_; rintro e w3 ⟨a3, cap3, rfl, hown3, hb3⟩; (try have zx : w3.cell? ⟨w.heap.size + 1, 0, none⟩ = some (.int .i64 (-1)) := (hb3.cell (p := ⟨w.heap.size + 1, 0, none⟩) (by simp)).trans (by have hn := cell_new1 (w.alloc (.cells #[.slice ca n cc, .slice wa m wc, .int .i64 (lk : Int), .int .i64 (rg : Int)] 25)) (.int .i64 (-1)) 3; rw [World.size_alloc] at hn; exact hn)); have hB3 : Below w.heap.size w w3 := Below.trans (by repeat (first | exact Below.refl _ _ | assumption | refine Below.drew ?_ | refine Below.alloc ?_ (by simp) _)) (hb3.mono (by first | (simp; done) | (simp; omega) | omega)); have s3 := hb3.size; have z1 : w3.cell? ⟨w.heap.size, 1, none⟩ = some (.slice wa m wc) := (hb3.cell (p := ⟨w.heap.size, 1, none⟩) (by first | (simp; done) | (show w.heap.size < _; simp; omega) | (show w.heap.size < _; omega))).trans (by repeat (first | assumption | refine cell_drw ?_ | refine cell_up ?_ _)); have z2 : w3.cell? ⟨w.heap.size, 2, none⟩ = some (.int .i64 (lk : Int)) := (hb3.cell (p := ⟨w.heap.size, 2, none⟩) (by first | (simp; done) | (show w.heap.size < _; simp; omega) | (show w.heap.size < _; omega))).trans (by repeat (first | assumption | refine cell_drw ?_ | refine cell_up ?_ _)); have lz : w.heap.size < w3.heap.size := lt_of_cell z1) | (go_at_call 51; refine (repeat_any _ _ lk (by first | assumption | exact cell_new1 _ _ _ | exact cell_drw (cell_new1 _ _ _) | (refine cell_drw ?_; exact cell_new1 _ _ _)) hlk).mono ?_; rintro e w4 ⟨rfl, hh4, hb4⟩; have s4 := hb4.size; have y1 : w4.cell? ⟨w.heap.size, 1, none⟩ = some (.slice wa m wc) := (hb4.cell (p := ⟨w.heap.size, 1, none⟩) (by first | (simp; done) | (show w.heap.size < _; simp; omega) | (show w.heap.size < _; omega))).trans (by repeat (first | assumption | refine cell_drw ?_ | refine cell_up ?_ _)); have y2 : w4.cell? ⟨w.heap.size, 2, none⟩ = some (.int .i64 (lk : Int)) := (hb4.cell (p := ⟨w.heap.size, 2, none⟩) (by first | (simp; done) | (show w.heap.size < _; simp; omega) | (show w.heap.size < _; omega))).trans (by repeat (first | assumption | refine cell_drw ?_ | refine cell_up ?_ _)); have hB4 : Below w.heap.size w w4 := Below.trans (by repeat (first | exact Below.refl _ _ | assumption | refine Below.drew ?_ | refine Below.alloc ?_ (by first | (simp; done) | (simp; omega) | omega) _)) (hb4.mono (by first | (simp; done) | (simp; omega) | omega)); have ly : w.heap.size < w4.heap.size := lt_of_cell y1))
  all_goals go_wp2
  all_goals go_ret
  · refine ⟨w4.heap.size, .slice a3 m cap3, .slice (some ⟨w3.heap.size + 1, 0, none⟩) lk lk, rfl, HFIN.out w4 a3 cap3 (w3.heap.size + 1) ?_ (by simpa using hh4) (by omega) (fun k hk => ?_) hB4⟩
    · exact fam_keeps (own_low hown3 (by simp)) (fun g hg => (hb4.block g (by have := (hown3.lt g hg).2; simp; omega)).trans (Below.heap_alloc _ _ _ (hown3.lt g hg).2))
    · have := (hown3.lt k hk).2; omega
  · refine ⟨w4.heap.size, .slice a3 m cap3, .slice (some ⟨w3.heap.size, 0, none⟩) lk lk, rfl, HFIN.out w4 a3 cap3 w3.heap.size ?_ (by simpa using hh4) (by omega) (fun k hk => ?_) hB4⟩
    · exact fam_keeps (own_low hown3 (by simp; omega)) (fun g hg => hb4.block g (hown3.lt g hg).2)
    · have := (hown3.lt k hk).2; omega
end

section
open Go.RowKit

def plainK : Mk where
  bf := false
  mode := 0
  tid := 61
  bty := 3
  lty := 3
  sty := 3
  able := 177
  load := 181
  store := 183
  unlock := 186
  waiting := 187
  finish := 179
theorem plain_top {Q : Cd} (h : Q.K = plainK) (mb : Nat) : Q.top mb = mb := by
  unfold Cd.top; rw [h]; rfl
theorem plain_law : MLaw plainK where
  notTr := by decide
  mode0 _ := rfl
  mode1 h := by cases h
  mHas w B Q sb mb v s hK _ := by rw [plain_top hK]; kernel_rfl
  mAble a w := by kernel_rfl
  cAble xs w := by kernel_rfl
  mLoad a w := by kernel_rfl
  cLoad xs w := by kernel_rfl
  mStore a w := by kernel_rfl
  cStore xs w := by kernel_rfl
  mSwap w B Q sb mb v s hK _ := by rw [plain_top hK]; kernel_rfl
  mLock w B Q sb mb v s hK _ := by rw [plain_top hK]; kernel_rfl
  mUnlock a w := by kernel_rfl
  cUnlock xs w := by kernel_rfl
  mWaiting a w := by kernel_rfl
  cWaiting xs w := by kernel_rfl
  mFinish a w := by kernel_rfl
  cFinish xs w := by kernel_rfl
  mWords w B Q sb mb v s hK _ := by rw [plain_top hK]; kernel_rfl
  able w B Q sb mb v s t op a b c hK hp ha := by
    rw [plain_top hK, hp.bare (by rw [hK]; rfl)]
    exact pable_any w B Q sb mb v s t op a b c hp.hs hp.hl ha
  load w B Q sb mb v s t x hK hp hx := by
    rw [plain_top hK, finds_bare (hp.bare (by rw [hK]; rfl))]
    exact (pload_any w B Q sb mb v s t x hp.hs hp.hm hx).mono fun e w' h => ⟨h.1, by rw [h.2]; exact Below.refl _ _⟩
  store w B Q sb mb v s t x y hK hp hx _ := by
    rw [plain_top hK]
    refine (pstore_any w B Q sb mb v s t y x hp.hs hp.hm hx).mono fun e w' h => ⟨h.1, v, ?_, h.2.2, rfl, rfl, rfl, fun _ => rfl⟩
    have e1 : storeW plainK.mode s t ⟨false, x, y⟩ = { s with words := s.words.set x y } := by
      show storeW 0 s t _ = _
      simp [storeW, doneW]
    rw [e1]; exact h.2.1
  unlockY w B Q sb mb v s t x hK hp hx _ ht _ := by
    rw [plain_top hK]
    refine (punlock_yes w B Q sb mb v s t x hp.hs hp.hl hx ht).mono fun e w' h => ⟨h.1, v, ?_, h.2.2, rfl, rfl, rfl, fun _ => rfl⟩
    have e1 : storeW plainK.mode s t ⟨true, x, 0⟩ = { s with own := s.own.set x (-1) } := by
      show storeW 0 s t _ = _
      simp [storeW, doneW]
    rw [e1]; exact h.2.1
  unlockN w B Q sb mb v s t x hK hp hx ht := by
    rw [plain_top hK]
    rw [hp.bare (by rw [hK]; rfl)] at ht
    refine (punlock_no w B Q sb mb v s t x hp.hs hp.hl hx (ht.resolve_right (by simp))).mono fun e w' h => ⟨h.1, by rw [h.2]; exact Below.refl _ _⟩
  finish w B Q sb mb v s X t k hK hp _ hk _ := by
    rw [hp.bare (by rw [hK]; rfl)] at hk
    exact absurd hk (Nat.not_lt_zero _)
  waiting w B Q sb mb v s t fid caps I hK _ hp _ h0 _ := by
    have hb := (hp 0 w h0).bare (by rw [hK]; rfl)
    rw [plain_top hK, hb]
    refine (waiting_any mb _ _ w).mono fun e w' h => ⟨h.1, ?_⟩
    rw [← h.2]; exact h0

/-- The rows of a plain memory that has just been made. -/
def m0V (mb : Nat) (wv ov : Value) : Rp → Value
  | .mem => boxV mb
  | .words => wv
  | .own => ov
  | _ => nilV
theorem Mem0.q {w w' : World} {mb lk : Nat} {wv ov : Value} {words : List Int} {Q : Cd} (h : Mem0 w w' mb wv ov words lk) (hb : Q.K.bf = false) : MemQ Q w w' mb (m0V mb wv ov) words lk := by
  refine ⟨fun r hr => ?_, fun r q g hr hq => ?_, rfl, rfl, rfl, fun _ => rfl, rfl, fun h1 => absurd h1 (by rw [hb]; decide), h.below⟩
  · cases r with
    | st => exact absurd rfl hr
    | mem => exact fam_box (xs := [wv, ov]) h.lo h.box
    | words => exact h.wrow
    | own =>
      show w'.ownsRow _ _ 1 ov (List.replicate lk (-1 : Int)).length _
      rw [List.length_replicate]
      exact h.orow
    | thr => exact World.ownsRow_nil _ _ _ _
    | prints => exact World.ownsRow_nil _ _ _ _
    | regs t => exact World.ownsRow_nil _ _ _ _
    | box => simp only [pN, pX, hb]; exact World.ownsRow_nil _ _ _ _
    | bufs => simp only [pN, pX, hb]; exact World.ownsRow_nil _ _ _ _
    | buf t => simp only [pN, pX, hb]; exact World.ownsRow_nil _ _ _ _
  · have s2 : ∀ g, (boxV mb).ownBlock = some g → g = mb := fun g e => by simpa [Value.ownBlock] using e.symm
    have s3 : ∀ g, (nilV).ownBlock = some g → False := fun g e => by simp [Value.ownBlock] at e
    cases r <;> cases q <;> simp only [m0V] at hr hq <;> first | rfl | exact (s3 _ hr).elim | exact (s3 _ hq).elim | skip
    · have e := s2 _ hr; rw [e] at hq; exact absurd hq h.a1
    · have e := s2 _ hr; rw [e] at hq; exact absurd hq h.a2
    · have e := s2 _ hq; rw [e] at hr; exact absurd hr h.a1
    · exact absurd hq (h.a3 _ hr)
    · have e := s2 _ hq; rw [e] at hr; exact absurd hr h.a2
    · exact absurd hr (h.a3 _ hq)
end

section
open Go.RowKit

def bufK : Mk where
  bf := true
  mode := 1
  tid := 134
  bty := 187
  lty := 262
  sty := 267
  able := 191
  load := 194
  store := 195
  unlock := 197
  waiting := 198
  finish := 193
section
variable {w w1 : World} {B : Nat} {Q : Cd} {sb mb : Nat} {v : Rp → Value} {s : Sx}
theorem buf_top (h : Q.K = bufK) (mb : Nat) : Q.top mb = Q.bb := by unfold Cd.top; rw [h]; rfl
theorem buf_bf (h : Q.K = bufK) : Q.K.bf = true := by rw [h]; rfl
theorem QSt.bbox (h : QSt w B Q sb mb v s) (hb : Q.K.bf = true) : (v .box).ownBlock = some Q.bb := by rw [h.box hb]; rfl
theorem QSt.b0 (h : QSt w B Q sb mb v s) (hb : Q.K.bf = true) : w.cell? ⟨Q.bb, 0, none⟩ = some (.pointer (some ⟨mb, 0, none⟩)) := h.fam.cell (h.bbox hb) (by simp only [pX, hb]; rfl)
theorem QSt.b1 (h : QSt w B Q sb mb v s) (hb : Q.K.bf = true) : w.cell? ⟨Q.bb, 1, none⟩ = some (v .bufs) := h.fam.cell (h.bbox hb) (by simp only [pX, hb]; rfl)
theorem QSt.bufsB (h : QSt w B Q sb mb v s) (hb : Q.K.bf = true) (hn : 0 < Q.nt) : ∃ lb lc, v .bufs = .slice (some ⟨lb, 0, none⟩) Q.nt lc ∧ (v .bufs).ownBlock = some lb ∧ lb < w.heap.size := by
  have e : pN Q s .bufs = Q.nt := by simp only [pN, hb]; rfl
  obtain ⟨g, c, h1, h2, h3⟩ := h.blk .bufs (by rw [e]; exact hn)
  rw [e] at h1
  exact ⟨g, c, h1, h2, h3⟩
theorem QSt.bufc (h : QSt w B Q sb mb v s) (hb : Q.K.bf = true) {lb t : Nat} (e : (v .bufs).ownBlock = some lb) (ht : t < Q.nt) : w.cell? ⟨lb, t, none⟩ = some (v (.buf t)) := h.fam.cell e (by simp [pX, hb, ht])
theorem QSt.bufO (h : QSt w B Q sb mb v s) (hb : Q.K.bf = true) (t : Nat) : w.ownsRow B Q.K.sty 3 (v (.buf t)) (thOf s t).wait.length (waitV (thOf s t).wait) := by
  have := h.fam.own (.buf t)
  simp only [pN, pX, hb, if_true] at this
  exact this
theorem QSt.bufV (h : QSt w B Q sb mb v s) (hb : Q.K.bf = true) (t : Nat) : ∃ a c, v (.buf t) = .slice a (thOf s t).wait.length c := fam_form (h.bufO hb t)
/-- What waits of a thread is another list. -/
theorem QSt.newBuf (h : QSt w B Q sb mb v s) (hb : Q.K.bf = true) {lb t : Nat} (e : (v .bufs).ownBlock = some lb) (ht : t < s.ths.length) (htn : t < Q.nt) {g c H : Nat} {l : List Wt} (hown : w1.ownsRow B Q.K.sty 3 (.slice (some ⟨g, 0, none⟩) l.length c) l.length (waitV l)) (hgrow : w.grownBy w1 (v (.buf t)).ownBlock) (hat : (v (.buf t)).ownBlock = some g ∨ g = H) (hH : w.heap.size ≤ H) :
    QSt (w1.setCell ⟨lb, t, none⟩ (.slice (some ⟨g, 0, none⟩) l.length c)) B Q sb mb (upd v (.buf t) (.slice (some ⟨g, 0, none⟩) l.length c)) (setTh s t { thOf s t with wait := l }) := by
  obtain ⟨x, hx⟩ : ∃ x : Value, x = .slice (some ⟨g, 0, none⟩) l.length c := ⟨_, rfl⟩
  have hnn : ∀ q, q ≠ .buf t → pN Q (setTh s t { thOf s t with wait := l }) q = pN Q s q := fun q hq => by
    cases q with
    | thr => exact ths_set _ _ _
    | regs u =>
      show (thOf (setTh s t _) u).regs.length = (thOf s u).regs.length
      rw [thOf_set ht]
      split
      · rename_i h; rw [h]
      · rfl
    | buf u =>
      show (if Q.K.bf then (thOf (setTh s t _) u).wait.length else 0) = if Q.K.bf then (thOf s u).wait.length else 0
      have hu : ¬ u = t := fun e => hq (by rw [e])
      rw [thOf_set ht, if_neg hu]
    | st => rfl
    | words => rfl
    | own => rfl
    | prints => rfl
    | mem => rfl
    | box => rfl
    | bufs => rfl
  have h1 := h.fam.grow (r := .buf t) (n1 := pN Q (setTh s t { thOf s t with wait := l })) (xs1 := fun q => if q = .buf t then waitV l else pX Q mb v s q) hown hgrow hat hH (by show (if Q.K.bf then (thOf (setTh s t _) t).wait.length else 0) = _; rw [thOf_set ht, if_pos rfl, hb]; rfl) hnn (if_pos rfl) (fun q hq => if_neg hq)
  rw [← hx] at h1 ⊢
  refine ⟨h1.put (r := .bufs) (by rw [upd_ne _ _ (by simp)]; exact e) t _ (fun q => rfl) ?_ (fun q hq => ?_), by rw [upd_ne _ _ (by simp)]; exact h.st, by rw [upd_ne _ _ (by simp)]; exact h.mem, fun hbf => by rw [upd_ne _ _ (by simp)]; exact h.box hbf⟩
  · rw [if_neg (by simp)]
    simp only [pX, hb, if_true]
    refine List.ext_getElem? fun i => ?_
    rw [List.getElem?_set]
    by_cases hi : i < Q.nt
    · by_cases hit : t = i
      · subst hit; simp [htn, upd_self]
      · simp [hi, hit]
        rw [upd_ne _ _ (by simp; exact fun e => hit e.symm)]
    · have : ¬ t = i := by omega
      simp [hi, this]
  · cases q with
    | bufs => exact absurd rfl hq
    | buf u =>
      show (if Q.K.bf then waitV (thOf (setTh s t _) u).wait else []) = _
      rw [hb, if_pos rfl, thOf_set ht]
      by_cases hu : u = t
      · rw [if_pos hu, if_pos (by rw [hu])]
      · rw [if_neg hu, if_neg (by simpa using hu)]
        simp only [pX, hb, if_true]
    | st =>
      rw [if_neg (by simp)]
      simp only [pX]
      rw [upd_ne _ _ (by simp), upd_ne _ _ (by simp)]
    | thr =>
      rw [if_neg (by simp)]
      show rows3 (setTh s t _).ths.length (pthC Q _ (setTh s t _)) = rows3 s.ths.length (pthC Q v s)
      rw [ths_set]
      refine rows3_congr fun a b _ => ?_
      unfold pthC
      rw [thOf_set ht, upd_ne _ _ (by simp)]
      by_cases h1 : a = t
      · subst h1; rw [if_pos rfl]
      · rw [if_neg h1]
    | regs u =>
      rw [if_neg (by simp)]
      show intsV (thOf (setTh s t _) u).regs = intsV (thOf s u).regs
      rw [thOf_set ht]
      split
      · rename_i e; subst e; rfl
      · rfl
    | mem =>
      rw [if_neg (by simp)]
      simp only [pX]
      rw [upd_ne _ _ (by simp), upd_ne _ _ (by simp)]
    | box =>
      rw [if_neg (by simp)]
      simp only [pX]
      rw [upd_ne _ _ (by simp)]
    | words => rw [if_neg (by simp)]; rfl
    | own => rw [if_neg (by simp)]; rfl
    | prints => rw [if_neg (by simp)]; rfl
end

set_option maxRecDepth 100000 in
set_option maxHeartbeats 1600000 in
theorem bable_any (w : World) (B : Nat) (Q : Cd) (sb mb : Nat) (v : Rp → Value) (s : Sx) (t : Nat) (op a b c : Int) (hK : Q.K = bufK) (hp : MPre w B Q sb mb v s t) (ha : op = 17 → 0 ≤ a ∧ a < (s.own.length : Int)) :
    Calls Tryz.prog 191 #[.pointer (some ⟨Q.bb, 0, none⟩), .int .i64 t, ints4 op a b c] w fun e w' => e = .returned (.bool (ableO s.own (thOf s t).wait.length op a)) ∧ Below w.heap.size w w' := by
  have hb := buf_bf hK
  have hs := hp.hs
  have hnt := hp.hn
  have htl := hp.ht
  have hw3 := hp.hw
  have hn4 := hp.h4
  obtain ⟨lb, lc, hlv, hlb, _⟩ := hs.bufsB hb (by omega)
  obtain ⟨qa, qc, hq⟩ := hs.bufV hb t
  have b0 := cell_up (hs.b0 hb)
  have b1 := cell_up (hs.b1 hb)
  rw [hlv] at b1
  have bq := cell_up (hs.bufc hb hlb (t := t) (by omega))
  rw [hq] at bq
  have HPA : Hid (∀ o W, W.heap = (w.alloc o).heap → W.os = w.os → W.tape = w.tape → W.output = w.output → Calls Tryz.prog 177 #[.pointer (some ⟨mb, 0, none⟩), .int .i64 t, ints4 op a b c] W fun e w' => e = .returned (.bool (ableO s.own 0 op a)) ∧ Below w.heap.size w w' ∧ Below W.heap.size W w') := fun o W e e1 e2 e3 =>
    (pable_any W B Q sb mb v s t op a b c ((hs.alloc o).same e) hp.hl ha).mono fun en w' h => ⟨h.1, by
      have hb0 : Below w.heap.size w W := ⟨e1, e2, e3, by rw [e]; simp, fun k hk => by rw [e]; exact Below.heap_alloc _ _ _ hk⟩
      exact hb0.trans (h.2.mono hb0.size), h.2⟩
  obtain ⟨k, hk⟩ : ∃ k, (thOf s t).wait.length = k := ⟨_, rfl⟩
  rw [hk] at bq hw3 ⊢
  obtain ⟨n, hn⟩ : ∃ n, Q.nt = n := ⟨_, rfl⟩
  rw [hn] at b1 hnt
  have htn : t < n := by omega
  have hn44 : n ≤ 4 := by omega
  obtain ⟨r, hr0⟩ : ∃ r, ableO s.own k op a = r := ⟨_, rfl⟩
  have HR : Hid (ableO s.own k op a = r) := hr0
  rw [hr0]
  have fin : ∀ o, Below w.heap.size w (w.alloc o) := fun o => (Below.refl _ _).alloc (Nat.le_refl _) o
  clear hr0 hp hs hlv hlb hq hk hn hnt htl hn4 ha
  by_cases h1 : op = 9 ∨ op = 11 ∨ op = 18
  · have hr : ableO s.own k op a = decide (k < 3) := by unfold ableO; rw [if_pos h1]
    have hr' := HR.out.symm.trans hr
    clear hr HR
    rcases h1 with rfl | rfl | rfl
    all_goals
      go_enter Tryz.func191, Tryz.ntmps191
      go_wp2
      go_ret
      exact ⟨ret_bool (by rw [hr']; exact decide_eq_decide.2 (by omega)), fin _⟩
  · by_cases h2 : op = 12 ∨ op = 13 ∨ op = 17
    · by_cases hk0 : k = 0
      · subst hk0
        have HRR : Hid (r = ableO s.own 0 op a) := HR.out.symm
        clear HR
        rcases h2 with rfl | rfl | rfl
        · have hO : ∀ i u, (#[Value.int .i64 12, .int .i64 a, .int .i64 b, .int .i64 c] : Array Value)[i]? = some u → (w.alloc (.cells #[.int .i64 12, .int .i64 a, .int .i64 b, .int .i64 c] 34)).cell? ⟨w.heap.size, i, none⟩ = some u := fun i u h => by rw [World.cell?_alloc_new, h]
          have o0 := hO 0 _ rfl
          have o1 := hO 1 _ rfl
          have o2 := hO 2 _ rfl
          have o3 := hO 3 _ rfl
          have d0 := b0 (.cells #[.int .i64 12, .int .i64 a, .int .i64 b, .int .i64 c] 34)
          clear hO
          go_enter Tryz.func191, Tryz.ntmps191
          go_wp2_with (fail)
          go_region_held3 (fun w' => w'.cell? ⟨Q.bb, 0, none⟩ = some (.pointer (some ⟨mb, 0, none⟩)) ∧ w'.cell? ⟨w.heap.size, 0, none⟩ = some (.int .i64 12) ∧ w'.cell? ⟨w.heap.size, 1, none⟩ = some (.int .i64 a) ∧ w'.cell? ⟨w.heap.size, 2, none⟩ = some (.int .i64 b) ∧ w'.cell? ⟨w.heap.size, 3, none⟩ = some (.int .i64 c)) (refine ⟨?_, ?_, ?_, ?_, ?_⟩ <;> (first | assumption | (refine cell_drew ?_; assumption))) ((go_at_call 177; refine Calls.mono (HPA.out _ _ rfl rfl rfl rfl) ?_; rintro e w1 ⟨rfl, hb1, hb2⟩; have z0 := (hb2.cell (p := ⟨Q.bb, 0, none⟩) (lt_of_cell d0)).trans d0; have z1 := (hb2.cell (p := ⟨w.heap.size, 0, none⟩) (lt_of_cell o0)).trans o0; have z2 := (hb2.cell (p := ⟨w.heap.size, 1, none⟩) (lt_of_cell o1)).trans o1; have z3 := (hb2.cell (p := ⟨w.heap.size, 2, none⟩) (lt_of_cell o2)).trans o2; have z4 := (hb2.cell (p := ⟨w.heap.size, 3, none⟩) (lt_of_cell o3)).trans o3))
          all_goals go_wp2
          all_goals go_ret
          all_goals exact ⟨by rw [HRR.out]; rfl, hb1⟩
        · have hO : ∀ i u, (#[Value.int .i64 13, .int .i64 a, .int .i64 b, .int .i64 c] : Array Value)[i]? = some u → (w.alloc (.cells #[.int .i64 13, .int .i64 a, .int .i64 b, .int .i64 c] 34)).cell? ⟨w.heap.size, i, none⟩ = some u := fun i u h => by rw [World.cell?_alloc_new, h]
          have o0 := hO 0 _ rfl
          have o1 := hO 1 _ rfl
          have o2 := hO 2 _ rfl
          have o3 := hO 3 _ rfl
          have d0 := b0 (.cells #[.int .i64 13, .int .i64 a, .int .i64 b, .int .i64 c] 34)
          clear hO
          go_enter Tryz.func191, Tryz.ntmps191
          go_wp2_with (fail)
          go_region_held3 (fun w' => w'.cell? ⟨Q.bb, 0, none⟩ = some (.pointer (some ⟨mb, 0, none⟩)) ∧ w'.cell? ⟨w.heap.size, 0, none⟩ = some (.int .i64 13) ∧ w'.cell? ⟨w.heap.size, 1, none⟩ = some (.int .i64 a) ∧ w'.cell? ⟨w.heap.size, 2, none⟩ = some (.int .i64 b) ∧ w'.cell? ⟨w.heap.size, 3, none⟩ = some (.int .i64 c)) (refine ⟨?_, ?_, ?_, ?_, ?_⟩ <;> (first | assumption | (refine cell_drew ?_; assumption))) ((go_at_call 177; refine Calls.mono (HPA.out _ _ rfl rfl rfl rfl) ?_; rintro e w1 ⟨rfl, hb1, hb2⟩; have z0 := (hb2.cell (p := ⟨Q.bb, 0, none⟩) (lt_of_cell d0)).trans d0; have z1 := (hb2.cell (p := ⟨w.heap.size, 0, none⟩) (lt_of_cell o0)).trans o0; have z2 := (hb2.cell (p := ⟨w.heap.size, 1, none⟩) (lt_of_cell o1)).trans o1; have z3 := (hb2.cell (p := ⟨w.heap.size, 2, none⟩) (lt_of_cell o2)).trans o2; have z4 := (hb2.cell (p := ⟨w.heap.size, 3, none⟩) (lt_of_cell o3)).trans o3))
          all_goals go_wp2
          all_goals go_ret
          all_goals exact ⟨by rw [HRR.out]; rfl, hb1⟩
        · have hO : ∀ i u, (#[Value.int .i64 17, .int .i64 a, .int .i64 b, .int .i64 c] : Array Value)[i]? = some u → (w.alloc (.cells #[.int .i64 17, .int .i64 a, .int .i64 b, .int .i64 c] 34)).cell? ⟨w.heap.size, i, none⟩ = some u := fun i u h => by rw [World.cell?_alloc_new, h]
          have o0 := hO 0 _ rfl
          have o1 := hO 1 _ rfl
          have o2 := hO 2 _ rfl
          have o3 := hO 3 _ rfl
          have d0 := b0 (.cells #[.int .i64 17, .int .i64 a, .int .i64 b, .int .i64 c] 34)
          clear hO
          go_enter Tryz.func191, Tryz.ntmps191
          go_wp2_with (fail)
          go_region_held3 (fun w' => w'.cell? ⟨Q.bb, 0, none⟩ = some (.pointer (some ⟨mb, 0, none⟩)) ∧ w'.cell? ⟨w.heap.size, 0, none⟩ = some (.int .i64 17) ∧ w'.cell? ⟨w.heap.size, 1, none⟩ = some (.int .i64 a) ∧ w'.cell? ⟨w.heap.size, 2, none⟩ = some (.int .i64 b) ∧ w'.cell? ⟨w.heap.size, 3, none⟩ = some (.int .i64 c)) (refine ⟨?_, ?_, ?_, ?_, ?_⟩ <;> (first | assumption | (refine cell_drew ?_; assumption))) ((go_at_call 177; refine Calls.mono (HPA.out _ _ rfl rfl rfl rfl) ?_; rintro e w1 ⟨rfl, hb1, hb2⟩; have z0 := (hb2.cell (p := ⟨Q.bb, 0, none⟩) (lt_of_cell d0)).trans d0; have z1 := (hb2.cell (p := ⟨w.heap.size, 0, none⟩) (lt_of_cell o0)).trans o0; have z2 := (hb2.cell (p := ⟨w.heap.size, 1, none⟩) (lt_of_cell o1)).trans o1; have z3 := (hb2.cell (p := ⟨w.heap.size, 2, none⟩) (lt_of_cell o2)).trans o2; have z4 := (hb2.cell (p := ⟨w.heap.size, 3, none⟩) (lt_of_cell o3)).trans o3))
          all_goals go_wp2
          all_goals go_ret
          all_goals exact ⟨by rw [HRR.out]; rfl, hb1⟩
      · have hr : ableO s.own k op a = false := by
          unfold ableO
          rw [if_neg h1]
          rcases h2 with h | h | h
          · rw [if_pos (Or.inl h)]; simpa using hk0
          · rw [if_pos (Or.inr h)]; simpa using hk0
          · rw [if_neg (by omega), if_pos h]; simp [hk0]
        have hr' := HR.out.symm.trans hr
        clear hr HR
        subst hr'
        have hd : decide (k = 0) = false := by simpa using hk0
        rcases h2 with rfl | rfl | rfl
        all_goals
          go_enter Tryz.func191, Tryz.ntmps191
          go_wp2
          go_quiet (fail)
          go_wp2
          go_ret
          exact ⟨rfl, below_drewN (fin _)⟩
    · have hr : ableO s.own k op a = true := by unfold ableO; rw [if_neg h1, if_neg (fun h => h2 (by rcases h with h | h <;> simp [h])), if_neg (fun h => h2 (Or.inr (Or.inr h)))]
      have hr' := HR.out.symm.trans hr
      clear hr HR
      subst hr'
      have n9 : ¬ op = 9 := fun e => h1 (Or.inl e)
      have n11 : ¬ op = 11 := fun e => h1 (Or.inr (Or.inl e))
      have n18 : ¬ op = 18 := fun e => h1 (Or.inr (Or.inr e))
      have n12 : ¬ op = 12 := fun e => h2 (Or.inl e)
      have n13 : ¬ op = 13 := fun e => h2 (Or.inr (Or.inl e))
      have n17 : ¬ op = 17 := fun e => h2 (Or.inr (Or.inr e))
      go_enter Tryz.func191, Tryz.ntmps191
      go_wp2
      go_ret
      exact ⟨rfl, fin _⟩
end

end Go.Proofs.YtgofbkgfonlceacGreatDoor
