/-
  The plain memory is a memory: its methods do what the program asks of one.
-/
import Derived.Test.YtipdnfpomdcenabGreatDoorPNew
import Derived.Test.YtipdnfpomdcenabGreatDoorPStep
namespace Go.Proofs.YtipdnfpomdcenabGreatDoor
open Go.RowKit

def plainK : Mk where
  bf := false
  mode := 0
  tid := 62
  bty := 3
  lty := 3
  sty := 3
  able := 169
  load := 173
  store := 175
  unlock := 178
  waiting := 179
  finish := 171
theorem plain_top {Q : Cd} (h : Q.K = plainK) (mb : Nat) : Q.top mb = mb := by
  unfold Cd.top; rw [h]; rfl
theorem plain_law : MLaw plainK where
  notTr := by decide
  mode0 _ := rfl
  mode1 h := by cases h
  mHas w B Q sb mb v s hK _ := by rw [plain_top hK]; kernel_rfl
  mAble a w := by kernel_rfl
  cAble xs w := by kernel_rfl
  mLoad a w := by kernel_rfl
  cLoad xs w := by kernel_rfl
  mStore a w := by kernel_rfl
  cStore xs w := by kernel_rfl
  mSwap w B Q sb mb v s hK _ := by rw [plain_top hK]; kernel_rfl
  mLock w B Q sb mb v s hK _ := by rw [plain_top hK]; kernel_rfl
  mUnlock a w := by kernel_rfl
  cUnlock xs w := by kernel_rfl
  mWaiting a w := by kernel_rfl
  cWaiting xs w := by kernel_rfl
  mFinish a w := by kernel_rfl
  cFinish xs w := by kernel_rfl
  mWords w B Q sb mb v s hK _ := by rw [plain_top hK]; kernel_rfl
  able w B Q sb mb v s t op a b c hK hp ha := by
    rw [plain_top hK, hp.bare (by rw [hK]; rfl)]
    exact pable_any w B Q sb mb v s t op a b c hp.hs hp.hl ha
  load w B Q sb mb v s t x hK hp hx := by
    rw [plain_top hK, finds_bare (hp.bare (by rw [hK]; rfl))]
    exact (pload_any w B Q sb mb v s t x hp.hs hp.hm hx).mono fun e w' h => ⟨h.1, by rw [h.2]; exact Below.refl _ _⟩
  store w B Q sb mb v s t x y hK hp hx _ := by
    rw [plain_top hK]
    refine (pstore_any w B Q sb mb v s t y x hp.hs hp.hm hx).mono fun e w' h => ⟨h.1, v, ?_, h.2.2, rfl, rfl, rfl, fun _ => rfl⟩
    have e1 : storeW plainK.mode s t ⟨false, x, y⟩ = { s with words := s.words.set x y } := by
      show storeW 0 s t _ = _
      simp [storeW, doneW]
    rw [e1]; exact h.2.1
  unlockY w B Q sb mb v s t x hK hp hx _ ht _ := by
    rw [plain_top hK]
    refine (punlock_yes w B Q sb mb v s t x hp.hs hp.hl hx ht).mono fun e w' h => ⟨h.1, v, ?_, h.2.2, rfl, rfl, rfl, fun _ => rfl⟩
    have e1 : storeW plainK.mode s t ⟨true, x, 0⟩ = { s with own := s.own.set x (-1) } := by
      show storeW 0 s t _ = _
      simp [storeW, doneW]
    rw [e1]; exact h.2.1
  unlockN w B Q sb mb v s t x hK hp hx ht := by
    rw [plain_top hK]
    rw [hp.bare (by rw [hK]; rfl)] at ht
    refine (punlock_no w B Q sb mb v s t x hp.hs hp.hl hx (ht.resolve_right (by simp))).mono fun e w' h => ⟨h.1, by rw [h.2]; exact Below.refl _ _⟩
  finish w B Q sb mb v s X t k hK hp _ hk _ := by
    rw [hp.bare (by rw [hK]; rfl)] at hk
    exact absurd hk (Nat.not_lt_zero _)
  waiting w B Q sb mb v s t fid caps I hK _ hp _ h0 _ := by
    have hb := (hp 0 w h0).bare (by rw [hK]; rfl)
    rw [plain_top hK, hb]
    refine (waiting_any mb _ _ w).mono fun e w' h => ⟨h.1, ?_⟩
    rw [← h.2]; exact h0

/-- The rows of a plain memory that has just been made. -/
def m0V (mb : Nat) (wv ov : Value) : Rp → Value
  | .mem => boxV mb
  | .words => wv
  | .own => ov
  | _ => nilV
theorem Mem0.q {w w' : World} {mb lk : Nat} {wv ov : Value} {words : List Int} {Q : Cd} (h : Mem0 w w' mb wv ov words lk) (hb : Q.K.bf = false) : MemQ Q w w' mb (m0V mb wv ov) words lk := by
  refine ⟨fun r hr => ?_, fun r q g hr hq => ?_, rfl, rfl, rfl, fun _ => rfl, rfl, fun h1 => absurd h1 (by rw [hb]; decide), h.below⟩
  · cases r with
    | st => exact absurd rfl hr
    | mem => exact fam_box (xs := [wv, ov]) h.lo h.box
    | words => exact h.wrow
    | own =>
      show w'.ownsRow _ _ 1 ov (List.replicate lk (-1 : Int)).length _
      rw [List.length_replicate]
      exact h.orow
    | thr => exact World.ownsRow_nil _ _ _ _
    | prints => exact World.ownsRow_nil _ _ _ _
    | regs t => exact World.ownsRow_nil _ _ _ _
    | box => simp only [pN, pX, hb]; exact World.ownsRow_nil _ _ _ _
    | bufs => simp only [pN, pX, hb]; exact World.ownsRow_nil _ _ _ _
    | buf t => simp only [pN, pX, hb]; exact World.ownsRow_nil _ _ _ _
  · have s2 : ∀ g, (boxV mb).ownBlock = some g → g = mb := fun g e => by simpa [Value.ownBlock] using e.symm
    have s3 : ∀ g, (nilV).ownBlock = some g → False := fun g e => by simp [Value.ownBlock] at e
    cases r <;> cases q <;> simp only [m0V] at hr hq <;> first | rfl | exact (s3 _ hr).elim | exact (s3 _ hq).elim | skip
    · have e := s2 _ hr; rw [e] at hq; exact absurd hq h.a1
    · have e := s2 _ hr; rw [e] at hq; exact absurd hq h.a2
    · have e := s2 _ hq; rw [e] at hr; exact absurd hr h.a1
    · exact absurd hq (h.a3 _ hr)
    · have e := s2 _ hq; rw [e] at hr; exact absurd hr h.a2
    · exact absurd hr (h.a3 _ hq)

end Go.Proofs.YtipdnfpomdcenabGreatDoor
