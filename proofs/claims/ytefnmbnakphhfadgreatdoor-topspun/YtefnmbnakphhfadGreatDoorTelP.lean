/-
  The memory with buffers is a memory: its methods do what the program asks of one.
  A text of numbers tells them; numbers of a run fit: plain functions.
  What the program tells of a state, a number at a time.
  Copies of lists, whatever they hold.
-/
import Derived.Test.YtefnmbnakphhfadGreatDoorPBuf6
import Derived.Test.YtefnmbnakphhfadGreatDoorPBuf4
import Derived.Test.YtefnmbnakphhfadGreatDoorTruth
import Derived.Lib.ItoaNum
import Derived.Lib.ItoaLen
import Derived.Test.YtefnmbnakphhfadGreatDoorPNew
namespace Go.Proofs.YtefnmbnakphhfadGreatDoor
section
open Go.RowKit

/-- A method of the memory within. -/
theorem meth_in {w : World} {bb mb fid : Nat} {name : String} (h : (method 325 64 (.pointer (some ⟨bb, 0, none⟩)) name).run Tryz.prog w = ((loadVar 74 ⟨bb, 0, none⟩) >>= fun r => pure (fid, r)).run Tryz.prog w) (b0 : w.cell? ⟨bb, 0, none⟩ = some (.pointer (some ⟨mb, 0, none⟩))) :
    (method 325 64 (.pointer (some ⟨bb, 0, none⟩)) name).run Tryz.prog w = .ok (fid, .pointer (some ⟨mb, 0, none⟩)) w := by
  rw [h]
  simp [go_sem, b0]

theorem buf_law : MLaw bufK where
  notTr := by decide
  mode0 h := by cases h
  mode1 _ := by decide
  mHas w B Q sb mb v s hK h := by rw [buf_top hK]; exact meth_in (by kernel_rfl) (h.b0 (buf_bf hK))
  mAble a w := by kernel_rfl
  cAble xs w := by kernel_rfl
  mLoad a w := by kernel_rfl
  cLoad xs w := by kernel_rfl
  mStore a w := by kernel_rfl
  cStore xs w := by kernel_rfl
  mSwap w B Q sb mb v s hK h := by rw [buf_top hK]; exact meth_in (by kernel_rfl) (h.b0 (buf_bf hK))
  mLock w B Q sb mb v s hK h := by rw [buf_top hK]; exact meth_in (by kernel_rfl) (h.b0 (buf_bf hK))
  mUnlock a w := by kernel_rfl
  cUnlock xs w := by kernel_rfl
  mWaiting a w := by kernel_rfl
  cWaiting xs w := by kernel_rfl
  mFinish a w := by kernel_rfl
  cFinish xs w := by kernel_rfl
  mWords w B Q sb mb v s hK h := by rw [buf_top hK]; exact meth_in (by kernel_rfl) (h.b0 (buf_bf hK))
  able w B Q sb mb v s t op a b c hK hp ha := by
    rw [buf_top hK]; exact bable_any w B Q sb mb v s t op a b c hK hp ha
  load w B Q sb mb v s t x hK hp hx := by
    rw [buf_top hK]; exact bload_any w B Q sb mb v s t x hK hp hx
  store w B Q sb mb v s t x y hK hp _ hw := by
    rw [buf_top hK]; exact bstore_any w B Q sb mb v s t x y hK hp hw
  unlockY w B Q sb mb v s t x hK hp hx hw ho ha := by
    rw [buf_top hK]
    exact (bunlock_any w B Q sb mb v s t x hK hp hx false ha true (decide_eq_true ho) (fun _ _ => hw)).mono fun e w' h => h.1 ⟨rfl, rfl⟩
  unlockN w B Q sb mb v s t x hK hp hx h := by
    rw [buf_top hK]
    refine (bunlock_any w B Q sb mb v s t x hK hp hx _ rfl _ rfl (fun h1 h2 => ?_)).mono fun e w' g => g.2 (h.imp decide_eq_false id)
    rcases h with h | h
    · exact absurd (of_decide_eq_true h1) h
    · rw [h] at h2; cases h2
  finish w B Q sb mb v s X t k hK hp hlo hk _ := by
    rw [buf_top hK]; exact bfinish_any w B Q sb mb v s X t k hK hp hlo hk
  waiting w B Q sb mb v s t fid caps I hK kF hp hI h0 hC := by
    rw [buf_top hK]; exact bwaiting_any w B Q sb mb v s t fid caps I hK kF (hp 0 w h0) hI h0 hC
end

section
open Go.RowKit

/-! A text of numbers. -/
def valD (l : List UInt8) : Nat := l.foldl (fun a c => a * 10 + (c.toNat - 48)) 0
theorem valD_snoc (l : List UInt8) (c : UInt8) : valD (l ++ [c]) = valD l * 10 + (c.toNat - 48) := by simp [valD, List.foldl_append]
theorem decD_ok : ∀ (n u : Nat), u ≤ n → (∀ c, c ∈ Lib.decDigits u → 48 ≤ c.toNat ∧ c.toNat ≤ 57) ∧ valD (Lib.decDigits u) = u := by
  intro n
  have hd : ∀ d : Nat, d < 10 → (UInt8.ofNat (48 + d)).toNat = 48 + d := by decide
  induction n with
  | zero =>
    intro u h
    obtain rfl : u = 0 := by omega
    rw [Lib.decDigits, dif_pos (by omega)]
    exact ⟨fun c hc => by rw [List.mem_singleton.mp hc, hd 0 (by omega)]; omega, rfl⟩
  | succ n ih =>
    intro u h
    rw [Lib.decDigits]
    split
    · rename_i h1
      refine ⟨fun c hc => by rw [List.mem_singleton.mp hc, hd u h1]; omega, ?_⟩
      show 0 * 10 + ((UInt8.ofNat (48 + u)).toNat - 48) = u
      rw [hd u h1]; omega
    · rename_i h1
      obtain ⟨a1, a2⟩ := ih (u / 10) (by omega)
      refine ⟨fun c hc => ?_, ?_⟩
      · rcases List.mem_append.mp hc with hc | hc
        · exact a1 c hc
        · rw [List.mem_singleton.mp hc, hd (u % 10) (by omega)]; omega
      · rw [valD_snoc, a2, hd (u % 10) (by omega)]; omega
theorem decD_inj {u v : Nat} (h : Lib.decDigits u = Lib.decDigits v) : u = v := by
  rw [← (decD_ok _ u (Nat.le_refl _)).2, ← (decD_ok _ v (Nat.le_refl _)).2, h]
theorem itoa_mem {n : Int} {c : UInt8} (h : c ∈ Lib.itoa n) : c ≠ 32 := by
  have key : ∀ u, c ∈ Lib.decDigits u → c ≠ 32 := fun u hc e => by
    have := (decD_ok _ u (Nat.le_refl _)).1 c hc
    rw [e] at this
    exact absurd this.1 (by decide)
  unfold Lib.itoa at h
  split at h
  · rcases List.mem_cons.mp h with e | h
    · rw [e]; decide
    · exact key _ h
  · exact key _ h
theorem dec_not_neg {u : Nat} {r : List UInt8} (h : Lib.decDigits u = 45 :: r) : False := by
  have := (decD_ok _ u (Nat.le_refl _)).1 45 (by rw [h]; simp)
  exact absurd this.1 (by decide)
theorem itoa_inj {a b : Int} (h : Lib.itoa a = Lib.itoa b) : a = b := by
  unfold Lib.itoa at h
  split at h
  · split at h
    · have := decD_inj (List.cons.inj h).2
      omega
    · exact (dec_not_neg h.symm).elim
  · split at h
    · exact (dec_not_neg h).elim
    · have := decD_inj h
      omega
/-- Numbers as text: each with a blank behind it. -/
def textT (xs : List Int) : List UInt8 := xs.flatMap fun n => Lib.itoa n ++ [32]
theorem textT_snoc (xs : List Int) (n : Int) : textT (xs ++ [n]) = textT xs ++ (Lib.itoa n ++ [32]) := by simp [textT]
theorem cut_blank : ∀ {l l' r r' : List UInt8}, (∀ c, c ∈ l → c ≠ 32) → (∀ c, c ∈ l' → c ≠ 32) → l ++ 32 :: r = l' ++ 32 :: r' → l = l' ∧ r = r'
  | [], [], _, _, _, _, h => ⟨rfl, (List.cons.inj h).2⟩
  | [], b :: l', _, _, _, h2, h => absurd (List.cons.inj h).1.symm (h2 b (by simp))
  | a :: l, [], _, _, h1, _, h => absurd (List.cons.inj h).1 (h1 a (by simp))
  | a :: l, b :: l', r, r', h1, h2, h => by
    have h3 := List.cons.inj h
    obtain ⟨h4, h5⟩ := cut_blank (fun c hc => h1 c (by simp [hc])) (fun c hc => h2 c (by simp [hc])) h3.2
    exact ⟨by rw [h3.1, h4], h5⟩
theorem textT_inj : ∀ {xs ys : List Int}, textT xs = textT ys → xs = ys
  | [], [], _ => rfl
  | [], b :: ys, h => by
    have : (textT (b :: ys)).length = 0 := by rw [← h]; rfl
    simp [textT] at this
  | a :: xs, [], h => by
    have : (textT (a :: xs)).length = 0 := by rw [h]; rfl
    simp [textT] at this
  | a :: xs, b :: ys, h => by
    have e : ∀ (n : Int) (l : List Int), textT (n :: l) = Lib.itoa n ++ 32 :: textT l := fun n l => by simp [textT]
    rw [e, e] at h
    obtain ⟨h1, h2⟩ := cut_blank (fun c hc => itoa_mem hc) (fun c hc => itoa_mem hc) h
    rw [itoa_inj h1, textT_inj h2]
/-- A number that an int can hold. -/
def I64n (x : Int) : Prop := -9223372036854775808 ≤ x ∧ x ≤ 9223372036854775807
theorem textT_len : ∀ {xs : List Int}, (∀ x, x ∈ xs → I64n x) → (textT xs).length ≤ 22 * xs.length
  | [], _ => Nat.zero_le _
  | a :: xs, h => by
    have h1 := Lib.itoa_length_le a (h a (by simp)).1 (h a (by simp)).2
    have h2 := textT_len (xs := xs) (fun x hx => h x (by simp [hx]))
    have e : textT (a :: xs) = Lib.itoa a ++ 32 :: textT xs := by simp [textT]
    rw [e]
    simp only [List.length_append, List.length_cons]
    omega

/-! Numbers of a run fit. -/
structure VOk (s : Sx) : Prop where
  regs : ∀ h, h ∈ s.ths → ∀ x, x ∈ h.regs → I64n x
  wait : ∀ h, h ∈ s.ths → ∀ x, x ∈ h.wait → I64n x.what
  words : ∀ x, x ∈ s.words → I64n x
  own : ∀ x, x ∈ s.own → I64n x
  prints : ∀ x, x ∈ s.prints → I64n x
theorem i64_wrap (x : Int) : I64n (IntKind.i64.wrap x) := by
  rw [IntKind.wrap_i64]
  unfold I64n
  omega
theorem i64_getD {l : List Int} (h : ∀ x, x ∈ l → I64n x) (k : Nat) : I64n (l.getD k 0) := by
  rw [List.getD_eq_getElem?_getD]
  cases e : l[k]? with
  | none => exact ⟨by decide, by decide⟩
  | some y => exact h y (List.mem_of_getElem? e)
theorem i64_set {l : List Int} (h : ∀ x, x ∈ l → I64n x) {k : Nat} {v : Int} (hv : I64n v) : ∀ x, x ∈ l.set k v → I64n x := fun x hx => by
  rcases List.mem_or_eq_of_mem_set hx with hx | rfl
  · exact h x hx
  · exact hv
section
variable {s : Sx} {t : Nat}
theorem VOk.th (h : VOk s) {x : Th} (hr : ∀ y, y ∈ x.regs → I64n y) (hw : ∀ y, y ∈ x.wait → I64n y.what) : VOk (setTh s t x) := by
  refine ⟨fun g hg => ?_, fun g hg => ?_, h.words, h.own, h.prints⟩
  · rcases List.mem_or_eq_of_mem_set hg with hg | rfl
    · exact h.regs g hg
    · exact hr
  · rcases List.mem_or_eq_of_mem_set hg with hg | rfl
    · exact h.wait g hg
    · exact hw
theorem thOf_mem (ht : t < s.ths.length) : thOf s t ∈ s.ths := by
  unfold thOf
  rw [List.getD_eq_getElem?_getD, List.getElem?_eq_getElem ht]
  exact List.getElem_mem ht
theorem VOk.getR (h : VOk s) (ht : t < s.ths.length) (r : Int) : I64n (getR s t r) := i64_getD (h.regs _ (thOf_mem ht)) _
theorem VOk.setR (h : VOk s) (ht : t < s.ths.length) (r : Int) {v : Int} (hv : I64n v) : VOk (setR s t r v) := h.th (i64_set (h.regs _ (thOf_mem ht)) hv) (fun y hy => h.wait (thOf s t) (thOf_mem ht) y hy)
theorem VOk.pc (h : VOk s) (ht : t < s.ths.length) (k : Nat) : VOk (setTh s t { thOf s t with pc := k }) := h.th (fun y hy => h.regs (thOf s t) (thOf_mem ht) y hy) (fun y hy => h.wait (thOf s t) (thOf_mem ht) y hy)
theorem VOk.done (h : VOk s) {x : Wt} (hx : I64n x.what) : VOk (doneW s x) := by
  unfold doneW
  split
  · exact ⟨h.regs, h.wait, h.words, i64_set h.own ⟨by decide, by decide⟩, h.prints⟩
  · exact ⟨h.regs, h.wait, i64_set h.words hx, h.own, h.prints⟩
theorem VOk.store (h : VOk s) (ht : t < s.ths.length) (mode : Int) {x : Wt} (hx : I64n x.what) : VOk (storeW mode s t x) := by
  unfold storeW
  split
  · refine h.th (fun y hy => h.regs (thOf s t) (thOf_mem ht) y hy) (fun y hy => ?_)
    rcases List.mem_append.mp hy with hy | hy
    · exact h.wait _ (thOf_mem ht) y hy
    · rw [List.mem_singleton.mp hy]; exact hx
  · exact h.done hx
theorem VOk.finds (h : VOk s) (ht : t < s.ths.length) (wd : Int) : I64n (findsW s t wd) := by
  unfold findsW
  split
  · rename_i x hx
    exact h.wait _ (thOf_mem ht) x (by simpa using List.mem_of_find?_eq_some hx)
  · exact i64_getD h.words _
theorem i64_bit (b : Bool) : I64n (bitI b) := by cases b <;> exact ⟨by decide, by decide⟩
theorem VOk.order (h : VOk s) (ht : t < s.ths.length) (h4 : t < 4) (mode op a b c : Int) (hb : I64n b) : VOk (orderX mode s t op a b c) := by
  unfold orderX
  by_cases e : op = 1
  · rw [if_pos e]
    exact h.setR ht a hb
  rw [if_neg e]
  clear e
  by_cases e : op = 2
  · rw [if_pos e]
    exact h.setR ht a (h.getR ht b)
  rw [if_neg e]
  clear e
  by_cases e : op = 3
  · rw [if_pos e]
    exact h.setR ht a (i64_wrap _)
  rw [if_neg e]
  clear e
  by_cases e : op = 4
  · rw [if_pos e]
    exact h.setR ht a (i64_wrap _)
  rw [if_neg e]
  clear e
  by_cases e : op = 5
  · rw [if_pos e]
    exact h.setR ht a (i64_wrap _)
  rw [if_neg e]
  clear e
  by_cases e : op = 6
  · rw [if_pos e]
    exact h.setR ht a (i64_bit _)
  rw [if_neg e]
  clear e
  by_cases e : op = 7
  · rw [if_pos e]
    exact h.setR ht a (i64_bit _)
  rw [if_neg e]
  clear e
  by_cases e : op = 8
  · rw [if_pos e]
    exact h.setR ht a (h.finds ht b)
  rw [if_neg e]
  clear e
  by_cases e : op = 9
  · rw [if_pos e]
    exact h.store ht mode (h.getR ht b)
  rw [if_neg e]
  clear e
  by_cases e : op = 10
  · rw [if_pos e]
    by_cases e2 : Go.Proofs.YtefnmbnakphhfadGreatDoor.getR s t b < 0 ∨ (s.words.length : Int) ≤ Go.Proofs.YtefnmbnakphhfadGreatDoor.getR s t b
    · rw [if_pos e2]; exact ⟨h.regs, h.wait, h.words, h.own, h.prints⟩
    · rw [if_neg e2]; exact h.setR ht a (h.finds ht _)
  rw [if_neg e]
  clear e
  by_cases e : op = 11
  · rw [if_pos e]
    by_cases e2 : Go.Proofs.YtefnmbnakphhfadGreatDoor.getR s t a < 0 ∨ (s.words.length : Int) ≤ Go.Proofs.YtefnmbnakphhfadGreatDoor.getR s t a
    · rw [if_pos e2]; exact ⟨h.regs, h.wait, h.words, h.own, h.prints⟩
    · rw [if_neg e2]; exact h.store ht mode (h.getR ht b)
  rw [if_neg e]
  clear e
  by_cases e : op = 13
  · rw [if_pos e]
    by_cases e2 : s.words.getD a.toNat 0 = Go.Proofs.YtefnmbnakphhfadGreatDoor.getR s t b
    · rw [if_pos e2]
      have h1 : VOk { s with words := s.words.set a.toNat (Go.Proofs.YtefnmbnakphhfadGreatDoor.getR s t c) } := ⟨h.regs, h.wait, i64_set h.words (h.getR ht c), h.own, h.prints⟩
      exact h1.setR ht b ⟨by decide, by decide⟩
    · rw [if_neg e2]; exact h.setR ht b ⟨by decide, by decide⟩
  rw [if_neg e]
  clear e
  by_cases e : op = 14
  · rw [if_pos e]
    exact h.pc ht _
  rw [if_neg e]
  clear e
  by_cases e : op = 15
  · rw [if_pos e]
    by_cases e2 : Go.Proofs.YtefnmbnakphhfadGreatDoor.getR s t a = 0
    · rw [if_pos e2]; exact h.pc ht _
    · rw [if_neg e2]; exact h
  rw [if_neg e]
  clear e
  by_cases e : op = 16
  · rw [if_pos e]
    refine ⟨h.regs, h.wait, h.words, h.own, fun x hx => ?_⟩
    rcases List.mem_append.mp hx with hx | hx
    · exact h.prints x hx
    · rcases List.mem_cons.mp hx with rfl | hx
      · exact ⟨by omega, by omega⟩
      · rw [List.mem_singleton.mp hx]; exact h.getR ht a
  rw [if_neg e]
  clear e
  by_cases e : op = 17
  · rw [if_pos e]
    exact ⟨h.regs, h.wait, h.words, i64_set h.own ⟨by omega, by omega⟩, h.prints⟩
  rw [if_neg e]
  clear e
  by_cases e : op = 18
  · rw [if_pos e]
    by_cases e2 : s.own.getD a.toNat 0 ≠ t ∨ ((thOf s t).wait.any fun x => x.lk && decide (x.wh = a)) = true
    · rw [if_pos e2]; exact ⟨h.regs, h.wait, h.words, h.own, h.prints⟩
    · rw [if_neg e2]; exact h.store ht mode (x := ⟨true, a, 0⟩) (show I64n 0 from ⟨by decide, by decide⟩)
  rw [if_neg e]
  clear e
  exact h
end
/-- A move keeps all numbers such that an int can hold them. -/
theorem VOk.move {n : Nat} {L : Nat → Nat} {X : Nat → Nat → Nat → Int} {m lk rg : Nat} {mode : Int} {s : Sx} (h : VOk s) (ho : SOk n L m lk rg mode s) (hn : n ≤ 4) (hX : ∀ t i, t < n → i < L t → I64n (X t i 2)) {mv : Int} (hmv : mv ∈ movesX L X mode s) : VOk (doX X mode s mv.toNat) := by
  rcases movesX_mem hmv with ⟨t, ht, rfl, ha⟩ | ⟨t, k, ht, hk, rfl, _⟩
  · rw [show (8 * (t : Int)).toNat = 8 * t by omega]
    unfold doX
    simp only [show 8 * t / 8 = t by omega, show 8 * t % 8 = 0 by omega]
    rw [if_neg (by omega)]
    have htn : t < n := by rw [← ho.ths]; exact ht
    exact (h.pc ht _).order (by rw [ths_set]; exact ht) (by omega) mode _ _ _ _ (hX t _ htn (able_lt ha))
  · have h3 := ho.wlen t (by rw [← ho.ths]; exact ht)
    rw [show (8 * (t : Int) + (k : Int) + 1).toNat = 8 * t + k + 1 by omega, doX_wait (by omega)]
    have hx : (thOf s t).wait.getD k default ∈ (thOf s t).wait := by
      rw [List.getD_eq_getElem?_getD, List.getElem?_eq_getElem hk]; exact List.getElem_mem hk
    exact (h.done (h.wait _ (thOf_mem ht) _ hx)).th (fun y hy => h.regs (thOf s t) (thOf_mem ht) y hy) (fun y hy => h.wait (thOf s t) (thOf_mem ht) y (List.mem_of_mem_eraseIdx hy))
theorem VOk.begin {n : Nat} {words : List Int} {lk rg : Nat} (hw : ∀ x, x ∈ words → I64n x) : VOk (beginX n words lk rg) := by
  refine ⟨fun g hg x hx => ?_, fun g hg x hx => ?_, hw, fun x hx => ?_, fun x hx => (by cases hx)⟩
  · rw [(List.mem_replicate.mp hg).2] at hx
    rw [(List.mem_replicate.mp hx).2]
    exact ⟨by decide, by decide⟩
  · rw [(List.mem_replicate.mp hg).2] at hx
    cases hx
  · rw [(List.mem_replicate.mp hx).2]
    exact ⟨by decide, by decide⟩
/-- What a state tells fits. -/
theorem tel_fits {n : Nat} {L : Nat → Nat} {m lk rg : Nat} {mode : Int} {s : Sx} (h : VOk s) (ho : SOk n L m lk rg mode s) (hL : ∀ t, t < n → L t ≤ 1000) (hm : m ≤ 64) (hlk : lk ≤ 4) : ∀ x, x ∈ telX mode s → I64n x := by
  intro x hx
  unfold telX telM at hx
  rcases List.mem_append.mp hx with hx | hx
  · rcases List.mem_append.mp hx with hx | hx
    · obtain ⟨g, hg, hx⟩ := List.mem_flatMap.mp hx
      unfold telT at hx
      rcases List.mem_append.mp hx with hx | hx
      · obtain ⟨t, ht, rfl⟩ := ho.mem hg
        rw [List.mem_singleton.mp hx]
        have h1 := ho.pc t ht
        have h2 := hL t ht
        exact ⟨by omega, by omega⟩
      · exact h.regs g hg x hx
    · rcases List.mem_append.mp hx with hx | hx
      · rcases List.mem_append.mp hx with hx | hx
        · exact h.words x hx
        · exact h.own x hx
      · split at hx
        · obtain ⟨g, hg, hx⟩ := List.mem_flatMap.mp hx
          unfold telB at hx
          obtain ⟨t, ht, rfl⟩ := ho.mem hg
          rcases List.mem_append.mp hx with hx | hx
          · rw [List.mem_singleton.mp hx]
            have h1 := ho.wlen t ht
            exact ⟨by omega, by omega⟩
          · obtain ⟨y, hy, hx⟩ := List.mem_flatMap.mp hx
            have h1 := (ho.wok t ht y hy).1
            unfold telW at hx
            rcases List.mem_cons.mp hx with rfl | hx
            · cases hk : y.lk <;> rw [hk] at h1 <;> simp only [if_true, Bool.false_eq_true, if_false] at h1 ⊢ <;> exact ⟨by omega, by omega⟩
            · rw [List.mem_singleton.mp hx]
              exact h.wait _ hg y hy
        · cases hx
  · exact h.prints x hx
end

section
open Go.RowKit

/-- Nothing has turned but bytes, and where they are told. -/
def Txt (W W' : World) : Prop := ∀ (k : Nat) (c : Array Value) (t : TypeId), t ≠ 5 → t ≠ 126 → W.heap[k]? = some (.cells c t) → W'.heap[k]? = some (.cells c t)
/-- Who is told numbers: I xs W: xs were told so far. -/
structure Ear (fid : Nat) (caps : Array Value) (B : Nat) (Q : Cd) (sb mb : Nat) (v : Rp → Value) (s : Sx) (I : List Int → World → Prop) : Prop where
  fn : ∀ (xs : Array Value) (w : World), (callFunc fid xs).run Tryz.prog w = .ok (.enter fid xs) w
  st : ∀ xs W, I xs W → QSt W B Q sb mb v s
  more : ∀ xs W W', I xs W → Below W.heap.size W W' → I xs W'
  tell : ∀ xs W n, I64n n → xs.length ≤ 20000 → I xs W → Calls Tryz.prog fid (#[.int .i64 n] ++ caps) W fun e W' => e = .returned (.tuple #[]) ∧ I (xs ++ [n]) W' ∧ Txt W W'
/-- A list that lies at its block's start. -/
def RowI (w : World) (a : Option Addr) (l : List Int) : Prop := ∀ i, i < l.length → ∃ b, a = some ⟨b, 0, none⟩ ∧ w.cell? ⟨b, i, none⟩ = some (.int .i64 (l.getD i 0))
theorem own_rowI {w : World} {B : Nat} {t : TypeId} {a : Option Addr} {n c : Nat} {l : List Int} (h : w.ownsRow B t 1 (.slice a n c) n (intsV l)) (hn : n = l.length) : RowI w a l := fun i hi => by
  obtain ⟨g, cap, h1, h2, _, _⟩ := fam_block h (by omega)
  simp only [Value.slice.injEq] at h1
  exact ⟨g, h1.1, fam_cell h h2 (intsV_at hi)⟩
section
variable {w : World} {B : Nat} {Q : Cd} {sb mb : Nat} {v : Rp → Value} {s : Sx}
theorem QSt.rowW (h : QSt w B Q sb mb v s) : ∃ a c, v .words = .slice a s.words.length c ∧ RowI w a s.words := by
  obtain ⟨a, c, e⟩ := h.form .words
  have := h.fam.own .words
  rw [e] at this
  exact ⟨a, c, e, own_rowI this rfl⟩
theorem QSt.rowO (h : QSt w B Q sb mb v s) : ∃ a c, v .own = .slice a s.own.length c ∧ RowI w a s.own := by
  obtain ⟨a, c, e⟩ := h.form .own
  have := h.fam.own .own
  rw [e] at this
  exact ⟨a, c, e, own_rowI this rfl⟩
theorem QSt.rowP (h : QSt w B Q sb mb v s) : ∃ a c, v .prints = .slice a s.prints.length c ∧ RowI w a s.prints := by
  obtain ⟨a, c, e⟩ := h.form .prints
  have := h.fam.own .prints
  rw [e] at this
  exact ⟨a, c, e, own_rowI this rfl⟩
theorem QSt.rowR (h : QSt w B Q sb mb v s) (t : Nat) : ∃ a c, v (.regs t) = .slice a (thOf s t).regs.length c ∧ RowI w a (thOf s t).regs := by
  obtain ⟨a, c, e⟩ := h.form (.regs t)
  have := h.fam.own (.regs t)
  rw [e] at this
  exact ⟨a, c, e, own_rowI this rfl⟩
end

set_option maxRecDepth 100000 in
set_option maxHeartbeats 1600000 in
/-- All of a list is told. -/
theorem tellAll_any (w : World) (fid : Nat) (caps : Array Value) (B : Nat) (Q : Cd) (sb mb : Nat) (v : Rp → Value) (s : Sx) (I : List Int → World → Prop) (hE : Ear fid caps B Q sb mb v s I) (a : Option Addr) (c : Nat) (l xs : List Int) (hl : ∀ ys W, I ys W → RowI W a l) (hfit : ∀ x, x ∈ l → I64n x) (hlen : xs.length + l.length ≤ 20000) (h0 : I xs w) :
    Calls Tryz.prog 95 #[.slice a l.length c, .func (.func fid) #[] caps] w fun e w' => e = .returned (.tuple #[]) ∧ I (xs ++ l) w' := by
  obtain ⟨n, hn⟩ : ∃ n, l.length = n := ⟨_, rfl⟩
  have HN : Hid (l.length = n) := hn
  have hn2 : n ≤ 20000 := by omega
  have kF := hE.fn
  have HROW : Hid (∀ k W, k < n → I (xs ++ l.take k) W → ∃ b, a = some ⟨b, 0, none⟩ ∧ W.cell? ⟨b, k, none⟩ = some (.int .i64 (l.getD k 0)) ∧ Hid (Calls Tryz.prog fid (#[.int .i64 (l.getD k 0)] ++ caps) W fun e W' => e = .returned (.tuple #[]) ∧ I (xs ++ l.take (k + 1)) W')) := fun k W hk hI => by
    have hk' : k < l.length := by rw [hn]; exact hk
    obtain ⟨b, h1, h2⟩ := hl _ W hI k hk'
    have hm : l.getD k 0 ∈ l := by rw [List.getD_eq_getElem?_getD, List.getElem?_eq_getElem hk']; exact List.getElem_mem hk'
    refine ⟨b, h1, h2, ?_⟩
    have h3 := hE.tell (xs ++ l.take k) W (l.getD k 0) (hfit _ hm) (by rw [List.length_append, List.length_take]; omega) hI
    have e : l.take (k + 1) = l.take k ++ [l.getD k 0] := by rw [List.take_add_one, List.getElem?_eq_getElem hk', List.getD_eq_getElem?_getD, List.getElem?_eq_getElem hk']; rfl
    rw [List.append_assoc, ← e] at h3
    exact h3.mono fun e W' h => ⟨h.1, h.2.1⟩
  have HI0 : Hid (I (xs ++ l.take 0) w) := by show I _ _; rw [List.take_zero, List.append_nil]; exact h0
  have HEND : Hid (∀ W, I (xs ++ l.take n) W → I (xs ++ l) W) := fun W h => by rw [← hn, List.take_length] at h; exact h
  rw [hn]
  clear hn hlen hE hl hfit h0
  go_enter Tryz.func95, Tryz.ntmps95
  go_wp2
  go_loopw [8] (fun i wr => ∃ k : Nat, k ≤ n ∧ i = .int .i64 k ∧ Hid (I (xs ++ l.take k) wr)) (fun i _ => n - (intOf i).toNat)
  case atStart => exact ⟨0, Nat.zero_le _, rfl, HI0⟩
  case round =>
    obtain ⟨k, hk, rfl, HI⟩ := hrel
    by_cases hlt : k < n
    · obtain ⟨b, rfl, hc, HC⟩ := HROW.out k wr hlt HI.out
      obtain ⟨y, hy⟩ : ∃ y, l.getD k 0 = y := ⟨_, rfl⟩
      rw [hy] at hc HC
      clear hy HI
      go_wp2_with fail
      refine Calls.mono HC.out ?_
      rintro e w1 ⟨rfl, h1⟩
      have H1 := Hid.out (p := Hid _) h1
      clear HC h1
      go_wp2_with fail
      go_roundw
      case rel => exact ⟨k + 1, by omega, by go_num, H1⟩
      case measure => simp [intOf]; omega
    · obtain rfl : k = n := by omega
      go_wp2
      go_end0
      exact ⟨rfl, HEND.out _ HI.out⟩
end

section
open Go.RowKit

/-- 'append([]T{}, l...)' of a row. -/
theorem app_srcG {T e : TypeId} {z : Value} {size bytes : Nat} (ht : Tryz.prog.underlying T = some (.slice e)) (hinfo : (Tryz.prog.info? e).map (fun i => (i.zero, i.size, i.bytes)) = some (some z, size, bytes)) (hzs : z.cells.size = size) (hsz : 0 < size) (W : World) {B' : Nat} {g0 c0 n : Nat} {xs : List Value} (hown : W.ownsRow B' e size (.slice (some ⟨g0, 0, none⟩) n c0) n xs) (h1 : ∀ u ∈ xs, u.oneCell' = true) (hn : n ≤ 1000000) (hby : bytes ≤ 1000) :
    ∃ g cap w3, (AppS #[T, T] T #[.slice (some ⟨W.heap.size, 0, none⟩) 0 0, .slice (some ⟨g0, 0, none⟩) n c0]).run Tryz.prog (W.alloc (.cells #[] e)) = .ok (.slice (some ⟨g, 0, none⟩) n cap) w3 ∧ w3.ownsRow W.heap.size e size (.slice (some ⟨g, 0, none⟩) n cap) n xs ∧ Below W.heap.size W w3 := by
  obtain ⟨i, hi, hz0, hz1, hz2⟩ := info_is hinfo
  have hmade := World.ownsRow_made (base := W.heap.size) (e := e) (size := size) W #[] 0 (Nat.le_refl _) (by decide) (by simp)
  have hbl : Below W.heap.size W (W.alloc (.cells #[] e)) := (Below.refl _ _).alloc (Nat.le_refl _) _
  have hcell : ∀ j u, xs[j]? = some u → (W.alloc (.cells #[] e)).cell? ((⟨g0, 0, none⟩ : Addr).add j) = some u := fun j u hu => by
    have := fam_cell hown (g := g0) rfl hu
    have hadd : (⟨g0, 0, none⟩ : Addr).add j = ⟨g0, j, none⟩ := by unfold Addr.add; split <;> simp_all
    rw [hadd]
    exact cell_up this _
  rcases Nat.eq_zero_or_pos n with h0 | h0
  · subst h0
    have hxs : xs = [] := List.eq_nil_of_length_eq_zero (by have := hown.1; simpa using this)
    subst hxs
    refine ⟨W.heap.size, 0, W.alloc (.cells #[] e), ?_, hmade, hbl⟩
    have hs : Src Tryz.prog i.size T (.slice (some ⟨g0, 0, none⟩) 0 c0) 0 [] (W.alloc (.cells #[] e)) := Src.ofSlice _ ht ⟨g0, 0, none⟩ 0 c0 [] (by simp) (fun j u h => by simp at h) (fun u h => by cases h)
    exact run_append_room_src (P := Tryz.prog) (W.alloc (.cells #[] e)) T T T e i ht hi W.heap.size 0 0 0 (.slice (some ⟨g0, 0, none⟩) 0 c0) 0 [] hs (Nat.le_refl _) (fun j h => by simp at h) (fun j h => by simp at h)
  · obtain ⟨g, cap, w3, r1, r2, r3, r4, r5⟩ := run_append_lies (P := Tryz.prog) (W.alloc (.cells #[] e)) T T W.heap.size e i z size bytes ht hi hz0 hz1 hz2 hzs hsz _ 0 [] hmade ⟨g0, 0, none⟩ n c0 xs hown.1 hcell h1 h0 (by unfold maxLen; omega) (by
      have : (0 + n) * bytes ≤ 1000000 * 1000 := Nat.mul_le_mul (by omega) hby
      omega) (by simp) (W.heap.size + 1) (by simp)
    rw [Nat.zero_add] at r1 r2
    refine ⟨g, cap, w3, r1, r2, hbl.grown r3 (by simp) (fun k hk => ?_)⟩
    have : W.heap.size = k := by simpa [Value.ownBlock] using hk
    omega
theorem infoSThr : (Tryz.prog.info? 122).map (fun i => (i.zero, i.size, i.bytes)) = some (some (.agg #[nilV, .int .i64 0, nilV]), 3, 56) := by kernel_rfl
theorem infoSto : (Tryz.prog.info? 212).map (fun i => (i.zero, i.size, i.bytes)) = some (some (.agg #[.bool false, .int .i64 0, .int .i64 0]), 3, 24) := by kernel_rfl
theorem infoLSto : (Tryz.prog.info? 207).map (fun i => (i.zero, i.size, i.bytes)) = some (some nilV, 1, 24) := by kernel_rfl

attribute [local go_sem ↓] appS_eq in
set_option maxRecDepth 100000 in
set_option maxHeartbeats 1600000 in
theorem cloneT_any (w : World) (B : Nat) (v : Value) (n : Nat) (xs : List Value) (hown : w.ownsRow B 122 3 v n xs) (h1 : ∀ u ∈ xs, u.oneCell' = true) (hn : n ≤ 1000000) :
    Calls Tryz.prog 97 #[v] w fun e w' => ∃ u, e = .returned u ∧ w'.ownsRow w.heap.size 122 3 u n xs ∧ Below w.heap.size w w' := by
  rcases hown.2 with ⟨h0, h2⟩ | ⟨g, cap, cur, hv, _⟩
  · subst h0 h2
    have hxs : xs = [] := List.eq_nil_of_length_eq_zero (by have := hown.1; simpa using this)
    subst hxs
    have hne := fun W => Lib.run_eql_slice_nil (P := Tryz.prog) W 90 122 none 0 0 0 0 Tryz.underlying90
    clear hown h1
    go_enter Tryz.func97, Tryz.ntmps97
    go_wp2
    go_ret
    exact ⟨nilV, rfl, World.ownsRow_nil _ _ _ _, Below.refl _ _⟩
  · subst hv
    obtain ⟨g2, cap2, w3, r1, r2, r3⟩ := app_srcG Tryz.underlying90 infoSThr rfl (by omega) w hown h1 hn (by omega)
    have hne := fun W => Lib.run_eql_slice_nil (P := Tryz.prog) W 90 122 (some ⟨g, 0, none⟩) n cap 0 0 Tryz.underlying90
    have HR := Hid.out (p := Hid _) (And.intro r2 r3)
    clear hown h1 r2 r3
    go_enter Tryz.func97, Tryz.ntmps97
    go_wp2
    go_ret
    exact ⟨_, rfl, HR.out⟩

attribute [local go_sem ↓] appS_eq in
set_option maxRecDepth 100000 in
set_option maxHeartbeats 1600000 in
theorem cloneS_any (w : World) (B : Nat) (v : Value) (n : Nat) (xs : List Value) (hown : w.ownsRow B 212 3 v n xs) (h1 : ∀ u ∈ xs, u.oneCell' = true) (hn : n ≤ 1000000) :
    Calls Tryz.prog 160 #[v] w fun e w' => ∃ u, e = .returned u ∧ w'.ownsRow w.heap.size 212 3 u n xs ∧ Below w.heap.size w w' := by
  rcases hown.2 with ⟨h0, h2⟩ | ⟨g, cap, cur, hv, _⟩
  · subst h0 h2
    have hxs : xs = [] := List.eq_nil_of_length_eq_zero (by have := hown.1; simpa using this)
    subst hxs
    have hne := fun W => Lib.run_eql_slice_nil (P := Tryz.prog) W 207 212 none 0 0 0 0 Tryz.underlying207
    clear hown h1
    go_enter Tryz.func160, Tryz.ntmps160
    go_wp2
    go_ret
    exact ⟨nilV, rfl, World.ownsRow_nil _ _ _ _, Below.refl _ _⟩
  · subst hv
    obtain ⟨g2, cap2, w3, r1, r2, r3⟩ := app_srcG Tryz.underlying207 infoSto rfl (by omega) w hown h1 hn (by omega)
    have hne := fun W => Lib.run_eql_slice_nil (P := Tryz.prog) W 207 212 (some ⟨g, 0, none⟩) n cap 0 0 Tryz.underlying207
    have HR := Hid.out (p := Hid _) (And.intro r2 r3)
    clear hown h1 r2 r3
    go_enter Tryz.func160, Tryz.ntmps160
    go_wp2
    go_ret
    exact ⟨_, rfl, HR.out⟩

attribute [local go_sem ↓] appS_eq in
set_option maxRecDepth 100000 in
set_option maxHeartbeats 1600000 in
theorem cloneL_any (w : World) (B : Nat) (v : Value) (n : Nat) (xs : List Value) (hown : w.ownsRow B 207 1 v n xs) (h1 : ∀ u ∈ xs, u.oneCell' = true) (hn : n ≤ 1000000) :
    Calls Tryz.prog 159 #[v] w fun e w' => ∃ u, e = .returned u ∧ w'.ownsRow w.heap.size 207 1 u n xs ∧ Below w.heap.size w w' := by
  rcases hown.2 with ⟨h0, h2⟩ | ⟨g, cap, cur, hv, _⟩
  · subst h0 h2
    have hxs : xs = [] := List.eq_nil_of_length_eq_zero (by have := hown.1; simpa using this)
    subst hxs
    have hne := fun W => Lib.run_eql_slice_nil (P := Tryz.prog) W 99 207 none 0 0 0 0 Tryz.underlying99
    clear hown h1
    go_enter Tryz.func159, Tryz.ntmps159
    go_wp2
    go_ret
    exact ⟨nilV, rfl, World.ownsRow_nil _ _ _ _, Below.refl _ _⟩
  · subst hv
    obtain ⟨g2, cap2, w3, r1, r2, r3⟩ := app_srcG Tryz.underlying99 infoLSto rfl (by omega) w hown h1 hn (by omega)
    have hne := fun W => Lib.run_eql_slice_nil (P := Tryz.prog) W 99 207 (some ⟨g, 0, none⟩) n cap 0 0 Tryz.underlying99
    have HR := Hid.out (p := Hid _) (And.intro r2 r3)
    clear hown h1 r2 r3
    go_enter Tryz.func159, Tryz.ntmps159
    go_wp2
    go_ret
    exact ⟨_, rfl, HR.out⟩

attribute [local go_sem ↓] appS_eq in
set_option maxRecDepth 100000 in
set_option maxHeartbeats 1600000 in
theorem cloneI_any (w : World) (B : Nat) (v : Value) (n : Nat) (xs : List Value) (hown : w.ownsRow B 3 1 v n xs) (h1 : ∀ u ∈ xs, u.oneCell' = true) (hn : n ≤ 1000000) :
    Calls Tryz.prog 46 #[v] w fun e w' => ∃ u, e = .returned u ∧ w'.ownsRow w.heap.size 3 1 u n xs ∧ Below w.heap.size w w' := by
  rcases hown.2 with ⟨h0, h2⟩ | ⟨g, cap, cur, hv, _⟩
  · subst h0 h2
    have hxs : xs = [] := List.eq_nil_of_length_eq_zero (by have := hown.1; simpa using this)
    subst hxs
    have hne := fun W => Lib.run_eql_slice_nil (P := Tryz.prog) W 23 3 none 0 0 0 0 Tryz.underlying23
    clear hown h1
    go_enter Tryz.func46, Tryz.ntmps46
    go_wp2
    go_ret
    exact ⟨nilV, rfl, World.ownsRow_nil _ _ _ _, Below.refl _ _⟩
  · subst hv
    obtain ⟨g2, cap2, w3, r1, r2, r3⟩ := app_srcG Tryz.underlying23 infoI rfl (by omega) w hown h1 hn (by omega)
    have hne := fun W => Lib.run_eql_slice_nil (P := Tryz.prog) W 23 3 (some ⟨g, 0, none⟩) n cap 0 0 Tryz.underlying23
    have HR := Hid.out (p := Hid _) (And.intro r2 r3)
    clear hown h1 r2 r3
    go_enter Tryz.func46, Tryz.ntmps46
    go_wp2
    go_ret
    exact ⟨_, rfl, HR.out⟩
end

end Go.Proofs.YtefnmbnakphhfadGreatDoor
