/-
  States that are gone through one behind the other: plain functions.
  A text of numbers tells them; numbers of a run fit: plain functions.
  States that are gone through by the program, the last one first: plain functions.
  An outcome is put into its place, by the document.
  All states that were come to, as the document holds them in memory; what stays as it was while its lists grow.
  A space that is being begun: its heads, one behind the other.
  All that can be come to, as the document goes through it: what holds between two steps, and what put and Put make of it.
  What is told of a program with a fence behind each store, and of one without fences that do nothing: plain functions.
-/
import Derived.Test.YtelckcpjmekgcadGreatDoorRDoW
import Derived.Lib.ItoaNum
import Derived.Lib.ItoaLen
import Derived.Test.YtelckcpjmekgcadGreatDoorRMay
import Derived.Test.YtelckcpjmekgcadGreatDoorWorkP
import Derived.BigRegion
import Derived.Test.YtelckcpjmekgcadGreatDoorPChk
namespace Go.Proofs.YtelckcpjmekgcadGreatDoor
section
open Go.RowKit

section
variable {S : Type} {nx : S → List S} {outs : S → List Oc} {s0 : S} {K : List S} {P P' : S → Prop} {E E' : Oc → Prop}
end
section
variable {L : Nat → Nat} {X : Nat → Nat → Nat → Int} {mode : Int} {s : Sx}
theorem outs_none (h : movesX L X mode s = []) : outsX L X mode s = [⟨if endedX L s then 0 else 2, s.words, s.prints⟩] := by
  unfold outsX
  rw [h]
  rfl
theorem mv_getD {l : List Int} {mv : Int} (h : mv ∈ l) : ∃ j, j < l.length ∧ l.getD j 0 = mv := by
  obtain ⟨j, hj, e⟩ := List.getElem_of_mem h
  exact ⟨j, hj, by rw [List.getD_eq_getElem?_getD, List.getElem?_eq_getElem hj]; exact e⟩
theorem getD_mv {l : List Int} {j : Nat} (h : j < l.length) : l.getD j 0 ∈ l := by
  rw [List.getD_eq_getElem?_getD, List.getElem?_eq_getElem h]
  exact List.getElem_mem h
theorem fell_out {mv : Int} (h : mv ∈ movesX L X mode s) (hf : (doX X mode s mv.toNat).fell = true) : (⟨1, [], (doX X mode s mv.toNat).prints⟩ : Oc) ∈ outsX L X mode s := by
  unfold outsX
  refine List.mem_append_right _ (List.mem_filterMap.mpr ⟨mv, h, ?_⟩)
  rw [hf]
  rfl
end
end

section
open Go.RowKit

/-! A text of numbers. -/
def valD (l : List UInt8) : Nat := l.foldl (fun a c => a * 10 + (c.toNat - 48)) 0
theorem valD_snoc (l : List UInt8) (c : UInt8) : valD (l ++ [c]) = valD l * 10 + (c.toNat - 48) := by simp [valD, List.foldl_append]
theorem decD_ok : ∀ (n u : Nat), u ≤ n → (∀ c, c ∈ Lib.decDigits u → 48 ≤ c.toNat ∧ c.toNat ≤ 57) ∧ valD (Lib.decDigits u) = u := by
  intro n
  have hd : ∀ d : Nat, d < 10 → (UInt8.ofNat (48 + d)).toNat = 48 + d := by decide
  induction n with
  | zero =>
    intro u h
    obtain rfl : u = 0 := by omega
    rw [Lib.decDigits, dif_pos (by omega)]
    exact ⟨fun c hc => by rw [List.mem_singleton.mp hc, hd 0 (by omega)]; omega, rfl⟩
  | succ n ih =>
    intro u h
    rw [Lib.decDigits]
    split
    · rename_i h1
      refine ⟨fun c hc => by rw [List.mem_singleton.mp hc, hd u h1]; omega, ?_⟩
      show 0 * 10 + ((UInt8.ofNat (48 + u)).toNat - 48) = u
      rw [hd u h1]; omega
    · rename_i h1
      obtain ⟨a1, a2⟩ := ih (u / 10) (by omega)
      refine ⟨fun c hc => ?_, ?_⟩
      · rcases List.mem_append.mp hc with hc | hc
        · exact a1 c hc
        · rw [List.mem_singleton.mp hc, hd (u % 10) (by omega)]; omega
      · rw [valD_snoc, a2, hd (u % 10) (by omega)]; omega
theorem decD_inj {u v : Nat} (h : Lib.decDigits u = Lib.decDigits v) : u = v := by
  rw [← (decD_ok _ u (Nat.le_refl _)).2, ← (decD_ok _ v (Nat.le_refl _)).2, h]
theorem itoa_mem {n : Int} {c : UInt8} (h : c ∈ Lib.itoa n) : c ≠ 32 := by
  have key : ∀ u, c ∈ Lib.decDigits u → c ≠ 32 := fun u hc e => by
    have := (decD_ok _ u (Nat.le_refl _)).1 c hc
    rw [e] at this
    exact absurd this.1 (by decide)
  unfold Lib.itoa at h
  split at h
  · rcases List.mem_cons.mp h with e | h
    · rw [e]; decide
    · exact key _ h
  · exact key _ h
theorem dec_not_neg {u : Nat} {r : List UInt8} (h : Lib.decDigits u = 45 :: r) : False := by
  have := (decD_ok _ u (Nat.le_refl _)).1 45 (by rw [h]; simp)
  exact absurd this.1 (by decide)
theorem itoa_inj {a b : Int} (h : Lib.itoa a = Lib.itoa b) : a = b := by
  unfold Lib.itoa at h
  split at h
  · split at h
    · have := decD_inj (List.cons.inj h).2
      omega
    · exact (dec_not_neg h.symm).elim
  · split at h
    · exact (dec_not_neg h).elim
    · have := decD_inj h
      omega
/-- Numbers as text: each with a blank behind it. -/
def textT (xs : List Int) : List UInt8 := xs.flatMap fun n => Lib.itoa n ++ [32]
theorem textT_snoc (xs : List Int) (n : Int) : textT (xs ++ [n]) = textT xs ++ (Lib.itoa n ++ [32]) := by simp [textT]
theorem cut_blank : ∀ {l l' r r' : List UInt8}, (∀ c, c ∈ l → c ≠ 32) → (∀ c, c ∈ l' → c ≠ 32) → l ++ 32 :: r = l' ++ 32 :: r' → l = l' ∧ r = r'
  | [], [], _, _, _, _, h => ⟨rfl, (List.cons.inj h).2⟩
  | [], b :: l', _, _, _, h2, h => absurd (List.cons.inj h).1.symm (h2 b (by simp))
  | a :: l, [], _, _, h1, _, h => absurd (List.cons.inj h).1 (h1 a (by simp))
  | a :: l, b :: l', r, r', h1, h2, h => by
    have h3 := List.cons.inj h
    obtain ⟨h4, h5⟩ := cut_blank (fun c hc => h1 c (by simp [hc])) (fun c hc => h2 c (by simp [hc])) h3.2
    exact ⟨by rw [h3.1, h4], h5⟩
theorem textT_inj : ∀ {xs ys : List Int}, textT xs = textT ys → xs = ys
  | [], [], _ => rfl
  | [], b :: ys, h => by
    have : (textT (b :: ys)).length = 0 := by rw [← h]; rfl
    simp [textT] at this
  | a :: xs, [], h => by
    have : (textT (a :: xs)).length = 0 := by rw [h]; rfl
    simp [textT] at this
  | a :: xs, b :: ys, h => by
    have e : ∀ (n : Int) (l : List Int), textT (n :: l) = Lib.itoa n ++ 32 :: textT l := fun n l => by simp [textT]
    rw [e, e] at h
    obtain ⟨h1, h2⟩ := cut_blank (fun c hc => itoa_mem hc) (fun c hc => itoa_mem hc) h
    rw [itoa_inj h1, textT_inj h2]
/-- A number that an int can hold. -/
def I64n (x : Int) : Prop := -9223372036854775808 ≤ x ∧ x ≤ 9223372036854775807
theorem textT_len : ∀ {xs : List Int}, (∀ x, x ∈ xs → I64n x) → (textT xs).length ≤ 22 * xs.length
  | [], _ => Nat.zero_le _
  | a :: xs, h => by
    have h1 := Lib.itoa_length_le a (h a (by simp)).1 (h a (by simp)).2
    have h2 := textT_len (xs := xs) (fun x hx => h x (by simp [hx]))
    have e : textT (a :: xs) = Lib.itoa a ++ 32 :: textT xs := by simp [textT]
    rw [e]
    simp only [List.length_append, List.length_cons]
    omega

/-! Numbers of a run fit. -/
structure VOk (s : Sx) : Prop where
  regs : ∀ h, h ∈ s.ths → ∀ x, x ∈ h.regs → I64n x
  wait : ∀ h, h ∈ s.ths → ∀ x, x ∈ h.wait → I64n x.what
  words : ∀ x, x ∈ s.words → I64n x
  own : ∀ x, x ∈ s.own → I64n x
  prints : ∀ x, x ∈ s.prints → I64n x
theorem i64_wrap (x : Int) : I64n (IntKind.i64.wrap x) := by
  rw [IntKind.wrap_i64]
  unfold I64n
  omega
theorem i64_getD {l : List Int} (h : ∀ x, x ∈ l → I64n x) (k : Nat) : I64n (l.getD k 0) := by
  rw [List.getD_eq_getElem?_getD]
  cases e : l[k]? with
  | none => exact ⟨by decide, by decide⟩
  | some y => exact h y (List.mem_of_getElem? e)
theorem i64_set {l : List Int} (h : ∀ x, x ∈ l → I64n x) {k : Nat} {v : Int} (hv : I64n v) : ∀ x, x ∈ l.set k v → I64n x := fun x hx => by
  rcases List.mem_or_eq_of_mem_set hx with hx | rfl
  · exact h x hx
  · exact hv
section
variable {s : Sx} {t : Nat}
theorem VOk.th (h : VOk s) {x : Th} (hr : ∀ y, y ∈ x.regs → I64n y) (hw : ∀ y, y ∈ x.wait → I64n y.what) : VOk (setTh s t x) := by
  refine ⟨fun g hg => ?_, fun g hg => ?_, h.words, h.own, h.prints⟩
  · rcases List.mem_or_eq_of_mem_set hg with hg | rfl
    · exact h.regs g hg
    · exact hr
  · rcases List.mem_or_eq_of_mem_set hg with hg | rfl
    · exact h.wait g hg
    · exact hw
theorem thOf_mem (ht : t < s.ths.length) : thOf s t ∈ s.ths := by
  unfold thOf
  rw [List.getD_eq_getElem?_getD, List.getElem?_eq_getElem ht]
  exact List.getElem_mem ht
theorem VOk.getR (h : VOk s) (ht : t < s.ths.length) (r : Int) : I64n (getR s t r) := i64_getD (h.regs _ (thOf_mem ht)) _
theorem VOk.setR (h : VOk s) (ht : t < s.ths.length) (r : Int) {v : Int} (hv : I64n v) : VOk (setR s t r v) := h.th (i64_set (h.regs _ (thOf_mem ht)) hv) (fun y hy => h.wait (thOf s t) (thOf_mem ht) y hy)
theorem VOk.pc (h : VOk s) (ht : t < s.ths.length) (k : Nat) : VOk (setTh s t { thOf s t with pc := k }) := h.th (fun y hy => h.regs (thOf s t) (thOf_mem ht) y hy) (fun y hy => h.wait (thOf s t) (thOf_mem ht) y hy)
theorem VOk.done (h : VOk s) {x : Wt} (hx : I64n x.what) : VOk (doneW s x) := by
  unfold doneW
  split
  · exact ⟨h.regs, h.wait, h.words, i64_set h.own ⟨by decide, by decide⟩, h.prints⟩
  · exact ⟨h.regs, h.wait, i64_set h.words hx, h.own, h.prints⟩
theorem VOk.store (h : VOk s) (ht : t < s.ths.length) (mode : Int) {x : Wt} (hx : I64n x.what) : VOk (storeW mode s t x) := by
  unfold storeW
  split
  · refine h.th (fun y hy => h.regs (thOf s t) (thOf_mem ht) y hy) (fun y hy => ?_)
    rcases List.mem_append.mp hy with hy | hy
    · exact h.wait _ (thOf_mem ht) y hy
    · rw [List.mem_singleton.mp hy]; exact hx
  · exact h.done hx
theorem VOk.finds (h : VOk s) (ht : t < s.ths.length) (wd : Int) : I64n (findsW s t wd) := by
  unfold findsW
  split
  · rename_i x hx
    exact h.wait _ (thOf_mem ht) x (by simpa using List.mem_of_find?_eq_some hx)
  · exact i64_getD h.words _
theorem i64_bit (b : Bool) : I64n (bitI b) := by cases b <;> exact ⟨by decide, by decide⟩
theorem VOk.order (h : VOk s) (ht : t < s.ths.length) (h4 : t < 4) (mode op a b c : Int) (hb : I64n b) : VOk (orderX mode s t op a b c) := by
  unfold orderX
  by_cases e : op = 1
  · rw [if_pos e]
    exact h.setR ht a hb
  rw [if_neg e]
  clear e
  by_cases e : op = 2
  · rw [if_pos e]
    exact h.setR ht a (h.getR ht b)
  rw [if_neg e]
  clear e
  by_cases e : op = 3
  · rw [if_pos e]
    exact h.setR ht a (i64_wrap _)
  rw [if_neg e]
  clear e
  by_cases e : op = 4
  · rw [if_pos e]
    exact h.setR ht a (i64_wrap _)
  rw [if_neg e]
  clear e
  by_cases e : op = 5
  · rw [if_pos e]
    exact h.setR ht a (i64_wrap _)
  rw [if_neg e]
  clear e
  by_cases e : op = 6
  · rw [if_pos e]
    exact h.setR ht a (i64_bit _)
  rw [if_neg e]
  clear e
  by_cases e : op = 7
  · rw [if_pos e]
    exact h.setR ht a (i64_bit _)
  rw [if_neg e]
  clear e
  by_cases e : op = 8
  · rw [if_pos e]
    exact h.setR ht a (h.finds ht b)
  rw [if_neg e]
  clear e
  by_cases e : op = 9
  · rw [if_pos e]
    exact h.store ht mode (h.getR ht b)
  rw [if_neg e]
  clear e
  by_cases e : op = 10
  · rw [if_pos e]
    by_cases e2 : Go.Proofs.YtelckcpjmekgcadGreatDoor.getR s t b < 0 ∨ (s.words.length : Int) ≤ Go.Proofs.YtelckcpjmekgcadGreatDoor.getR s t b
    · rw [if_pos e2]; exact ⟨h.regs, h.wait, h.words, h.own, h.prints⟩
    · rw [if_neg e2]; exact h.setR ht a (h.finds ht _)
  rw [if_neg e]
  clear e
  by_cases e : op = 11
  · rw [if_pos e]
    by_cases e2 : Go.Proofs.YtelckcpjmekgcadGreatDoor.getR s t a < 0 ∨ (s.words.length : Int) ≤ Go.Proofs.YtelckcpjmekgcadGreatDoor.getR s t a
    · rw [if_pos e2]; exact ⟨h.regs, h.wait, h.words, h.own, h.prints⟩
    · rw [if_neg e2]; exact h.store ht mode (h.getR ht b)
  rw [if_neg e]
  clear e
  by_cases e : op = 13
  · rw [if_pos e]
    by_cases e2 : s.words.getD a.toNat 0 = Go.Proofs.YtelckcpjmekgcadGreatDoor.getR s t b
    · rw [if_pos e2]
      have h1 : VOk { s with words := s.words.set a.toNat (Go.Proofs.YtelckcpjmekgcadGreatDoor.getR s t c) } := ⟨h.regs, h.wait, i64_set h.words (h.getR ht c), h.own, h.prints⟩
      exact h1.setR ht b ⟨by decide, by decide⟩
    · rw [if_neg e2]; exact h.setR ht b ⟨by decide, by decide⟩
  rw [if_neg e]
  clear e
  by_cases e : op = 14
  · rw [if_pos e]
    exact h.pc ht _
  rw [if_neg e]
  clear e
  by_cases e : op = 15
  · rw [if_pos e]
    by_cases e2 : Go.Proofs.YtelckcpjmekgcadGreatDoor.getR s t a = 0
    · rw [if_pos e2]; exact h.pc ht _
    · rw [if_neg e2]; exact h
  rw [if_neg e]
  clear e
  by_cases e : op = 16
  · rw [if_pos e]
    refine ⟨h.regs, h.wait, h.words, h.own, fun x hx => ?_⟩
    rcases List.mem_append.mp hx with hx | hx
    · exact h.prints x hx
    · rcases List.mem_cons.mp hx with rfl | hx
      · exact ⟨by omega, by omega⟩
      · rw [List.mem_singleton.mp hx]; exact h.getR ht a
  rw [if_neg e]
  clear e
  by_cases e : op = 17
  · rw [if_pos e]
    exact ⟨h.regs, h.wait, h.words, i64_set h.own ⟨by omega, by omega⟩, h.prints⟩
  rw [if_neg e]
  clear e
  by_cases e : op = 18
  · rw [if_pos e]
    by_cases e2 : s.own.getD a.toNat 0 ≠ t ∨ ((thOf s t).wait.any fun x => x.lk && decide (x.wh = a)) = true
    · rw [if_pos e2]; exact ⟨h.regs, h.wait, h.words, h.own, h.prints⟩
    · rw [if_neg e2]; exact h.store ht mode (x := ⟨true, a, 0⟩) (show I64n 0 from ⟨by decide, by decide⟩)
  rw [if_neg e]
  clear e
  exact h
end
/-- A move keeps all numbers such that an int can hold them. -/
theorem VOk.move {n : Nat} {L : Nat → Nat} {X : Nat → Nat → Nat → Int} {m lk rg : Nat} {mode : Int} {s : Sx} (h : VOk s) (ho : SOk n L m lk rg mode s) (hn : n ≤ 4) (hX : ∀ t i, t < n → i < L t → I64n (X t i 2)) {mv : Int} (hmv : mv ∈ movesX L X mode s) : VOk (doX X mode s mv.toNat) := by
  rcases movesX_mem hmv with ⟨t, ht, rfl, ha⟩ | ⟨t, k, ht, hk, rfl, _⟩
  · rw [show (8 * (t : Int)).toNat = 8 * t by omega]
    unfold doX
    simp only [show 8 * t / 8 = t by omega, show 8 * t % 8 = 0 by omega]
    rw [if_neg (by omega)]
    have htn : t < n := by rw [← ho.ths]; exact ht
    exact (h.pc ht _).order (by rw [ths_set]; exact ht) (by omega) mode _ _ _ _ (hX t _ htn (able_lt ha))
  · have h3 := ho.wlen t (by rw [← ho.ths]; exact ht)
    rw [show (8 * (t : Int) + (k : Int) + 1).toNat = 8 * t + k + 1 by omega, doX_wait (by omega)]
    have hx : (thOf s t).wait.getD k default ∈ (thOf s t).wait := by
      rw [List.getD_eq_getElem?_getD, List.getElem?_eq_getElem hk]; exact List.getElem_mem hk
    exact (h.done (h.wait _ (thOf_mem ht) _ hx)).th (fun y hy => h.regs (thOf s t) (thOf_mem ht) y hy) (fun y hy => h.wait (thOf s t) (thOf_mem ht) y (List.mem_of_mem_eraseIdx hy))
theorem VOk.begin {n : Nat} {words : List Int} {lk rg : Nat} (hw : ∀ x, x ∈ words → I64n x) : VOk (beginX n words lk rg) := by
  refine ⟨fun g hg x hx => ?_, fun g hg x hx => ?_, hw, fun x hx => ?_, fun x hx => (by cases hx)⟩
  · rw [(List.mem_replicate.mp hg).2] at hx
    rw [(List.mem_replicate.mp hx).2]
    exact ⟨by decide, by decide⟩
  · rw [(List.mem_replicate.mp hg).2] at hx
    cases hx
  · rw [(List.mem_replicate.mp hx).2]
    exact ⟨by decide, by decide⟩
/-- What a state tells fits. -/
theorem tel_fits {n : Nat} {L : Nat → Nat} {m lk rg : Nat} {mode : Int} {s : Sx} (h : VOk s) (ho : SOk n L m lk rg mode s) (hL : ∀ t, t < n → L t ≤ 1000) (hm : m ≤ 64) (hlk : lk ≤ 4) : ∀ x, x ∈ telX mode s → I64n x := by
  intro x hx
  unfold telX telM at hx
  rcases List.mem_append.mp hx with hx | hx
  · rcases List.mem_append.mp hx with hx | hx
    · obtain ⟨g, hg, hx⟩ := List.mem_flatMap.mp hx
      unfold telT at hx
      rcases List.mem_append.mp hx with hx | hx
      · obtain ⟨t, ht, rfl⟩ := ho.mem hg
        rw [List.mem_singleton.mp hx]
        have h1 := ho.pc t ht
        have h2 := hL t ht
        exact ⟨by omega, by omega⟩
      · exact h.regs g hg x hx
    · rcases List.mem_append.mp hx with hx | hx
      · rcases List.mem_append.mp hx with hx | hx
        · exact h.words x hx
        · exact h.own x hx
      · split at hx
        · obtain ⟨g, hg, hx⟩ := List.mem_flatMap.mp hx
          unfold telB at hx
          obtain ⟨t, ht, rfl⟩ := ho.mem hg
          rcases List.mem_append.mp hx with hx | hx
          · rw [List.mem_singleton.mp hx]
            have h1 := ho.wlen t ht
            exact ⟨by omega, by omega⟩
          · obtain ⟨y, hy, hx⟩ := List.mem_flatMap.mp hx
            have h1 := (ho.wok t ht y hy).1
            unfold telW at hx
            rcases List.mem_cons.mp hx with rfl | hx
            · cases hk : y.lk <;> rw [hk] at h1 <;> simp only [if_true, Bool.false_eq_true, if_false] at h1 ⊢ <;> exact ⟨by omega, by omega⟩
            · rw [List.mem_singleton.mp hx]
              exact h.wait _ hg y hy
        · cases hx
  · exact h.prints x hx
end

section
open Go.RowKit

/-- What holds while the program goes through states: K known, P gone through, Z begun, O still open, F those that fell. -/
structure Df (L : Nat → Nat) (X : Nat → Nat → Nat → Int) (mode : Int) (s0 : Sx) (K P Z O F : List Sx) : Prop where
  nodup : K.Nodup
  first : s0 ∈ K
  reach : ∀ s, s ∈ K → Rch (nxX L X mode) s0 s
  split : ∀ s, s ∈ K ↔ s ∈ Z ∨ s ∈ O
  zo : (Z ++ O).Nodup
  next : ∀ s, s ∈ P → ∀ t, t ∈ nxX L X mode s → t ∈ K
  fin : ∀ f, f ∈ F → ∃ s mv, s ∈ Z ∧ mv ∈ movesX L X mode s ∧ doX X mode s mv.toNat = f ∧ f.fell = true
  fall : ∀ s, s ∈ P → ∀ mv, mv ∈ movesX L X mode s → (doX X mode s mv.toNat).fell = true → doX X mode s mv.toNat ∈ F
section
variable {L : Nat → Nat} {X : Nat → Nat → Nat → Int} {mode : Int} {s0 : Sx} {K P Z O F : List Sx}
theorem Df.begin : Df L X mode s0 [s0] [] [] [s0] [] :=
  ⟨by simp, by simp, fun s h => by rw [List.mem_singleton.mp h]; exact .base, fun s => by simp, by simp, fun _ h => absurd h List.not_mem_nil, fun _ h => absurd h List.not_mem_nil, fun _ h => absurd h List.not_mem_nil⟩
theorem Df.len (h : Df L X mode s0 K P Z O F) : Z.length + O.length = K.length := by
  have h1 := nodup_len h.zo (r := K) (fun x hx => (h.split x).2 (List.mem_append.mp hx))
  have h2 := nodup_len h.nodup (r := Z ++ O) (fun x hx => List.mem_append.mpr ((h.split x).1 hx))
  rw [List.length_append] at h1 h2
  omega
/-- The last one that is open is begun. -/
theorem Df.pop {s : Sx} (h : Df L X mode s0 K Z Z (O ++ [s]) F) : Df L X mode s0 K Z (Z ++ [s]) O F :=
  ⟨h.nodup, h.first, h.reach, fun x => by
    rw [h.split x, List.mem_append, List.mem_append]
    constructor
    · rintro (h1 | h1 | h1)
      · exact Or.inl (Or.inl h1)
      · exact Or.inr h1
      · exact Or.inl (Or.inr h1)
    · rintro ((h1 | h1) | h1)
      · exact Or.inl h1
      · exact Or.inr (Or.inr h1)
      · exact Or.inr (Or.inl h1), by
    refine h.zo.perm ?_
    rw [List.append_assoc]
    exact List.Perm.append_left _ List.perm_append_comm, h.next, fun f hf => by
    obtain ⟨x, mv, h1, h2⟩ := h.fin f hf
    exact ⟨x, mv, List.mem_append_left _ h1, h2⟩, h.fall⟩
/-- One that was not known is come to. -/
theorem Df.come {s t : Sx} (h : Df L X mode s0 K P Z O F) (hs : s ∈ K) (ht : t ∈ nxX L X mode s) (hn : t ∉ K) : Df L X mode s0 (K ++ [t]) P Z (O ++ [t]) F :=
  ⟨by
    rw [List.nodup_append]
    refine ⟨h.nodup, by simp, fun a ha b hb e => ?_⟩
    rw [List.mem_singleton.mp hb] at e
    exact hn (e ▸ ha), List.mem_append_left _ h.first, fun x hx => by
    rcases List.mem_append.mp hx with hx | hx
    · exact h.reach x hx
    · rw [List.mem_singleton.mp hx]; exact .step (h.reach s hs) ht, fun x => by
    rw [List.mem_append, List.mem_append, h.split x, or_assoc], by
    rw [← List.append_assoc, List.nodup_append]
    refine ⟨h.zo, by simp, fun a ha b hb e => ?_⟩
    rw [List.mem_singleton.mp hb] at e
    exact hn (e ▸ (h.split a).2 (List.mem_append.mp ha)), fun x hx y hy => List.mem_append_left _ (h.next x hx y hy), h.fin, h.fall⟩
/-- One fell. -/
theorem Df.fell {s : Sx} {mv : Int} (h : Df L X mode s0 K P Z O F) (hs : s ∈ Z) (hm : mv ∈ movesX L X mode s) (hf : (doX X mode s mv.toNat).fell = true) : Df L X mode s0 K P Z O (F ++ [doX X mode s mv.toNat]) :=
  ⟨h.nodup, h.first, h.reach, h.split, h.zo, h.next, fun f hf' => by
    rcases List.mem_append.mp hf' with hf' | hf'
    · exact h.fin f hf'
    · rw [List.mem_singleton.mp hf']; exact ⟨s, mv, hs, hm, rfl, hf⟩, fun x hx mv' h1 h2 => List.mem_append_left _ (h.fall x hx mv' h1 h2)⟩
/-- What was made of the first k moves. -/
def Fwd (L : Nat → Nat) (X : Nat → Nat → Nat → Int) (mode : Int) (s : Sx) (K F : List Sx) (k : Nat) : Prop :=
  ∀ j, j < k → ((doX X mode s ((movesX L X mode s).getD j 0).toNat).fell = true → doX X mode s ((movesX L X mode s).getD j 0).toNat ∈ F) ∧ ((doX X mode s ((movesX L X mode s).getD j 0).toNat).fell = false → doX X mode s ((movesX L X mode s).getD j 0).toNat ∈ K)
theorem Fwd.next {s : Sx} {K' F' : List Sx} {k : Nat} (h : Fwd L X mode s K F k) (hK : ∀ t, t ∈ K → t ∈ K') (hF : ∀ t, t ∈ F → t ∈ F') (h1 : (doX X mode s ((movesX L X mode s).getD k 0).toNat).fell = true → doX X mode s ((movesX L X mode s).getD k 0).toNat ∈ F') (h2 : (doX X mode s ((movesX L X mode s).getD k 0).toNat).fell = false → doX X mode s ((movesX L X mode s).getD k 0).toNat ∈ K') : Fwd L X mode s K' F' (k + 1) := fun j hj => by
  rcases Nat.lt_or_ge j k with h3 | h3
  · exact ⟨fun hf => hF _ ((h j h3).1 hf), fun hf => hK _ ((h j h3).2 hf)⟩
  · obtain rfl : j = k := by omega
    exact ⟨h1, h2⟩
/-- One has been gone through. -/
theorem Df.gone {s : Sx} (h : Df L X mode s0 K Z (Z ++ [s]) O F) (hw : Fwd L X mode s K F (movesX L X mode s).length) : Df L X mode s0 K (Z ++ [s]) (Z ++ [s]) O F :=
  ⟨h.nodup, h.first, h.reach, h.split, h.zo, fun x hx t ht => by
    rcases List.mem_append.mp hx with hx | hx
    · exact h.next x hx t ht
    · rw [List.mem_singleton.mp hx] at ht
      obtain ⟨mv, h1, h2, h3⟩ := mem_nx.mp ht
      obtain ⟨j, hj, rfl⟩ := mv_getD h1
      rw [← h2] at h3 ⊢
      exact (hw j hj).2 h3, h.fin, fun x hx mv h1 h2 => by
    rcases List.mem_append.mp hx with hx | hx
    · exact h.fall x hx mv h1 h2
    · rw [List.mem_singleton.mp hx] at h1 h2 ⊢
      obtain ⟨j, hj, rfl⟩ := mv_getD h1
      exact (hw j hj).1 h2⟩
/-- Nothing is open: all that can be come to has been gone through. -/
theorem Df.whole (h : Df L X mode s0 K Z Z [] F) : ∀ s, s ∈ Z ↔ Rch (nxX L X mode) s0 s := by
  have hz : ∀ s, s ∈ K ↔ s ∈ Z := fun s => by rw [h.split s]; simp
  refine fun s => ⟨fun hs => h.reach s ((hz s).2 hs), fun hs => ?_⟩
  induction hs with
  | base => exact (hz _).1 h.first
  | step _ ht ih => exact (hz _).1 (h.next _ ih _ ht)
/-- The outcomes that are come to are those of what was begun and of what fell. -/
def outcX (L : Nat → Nat) (X : Nat → Nat → Nat → Int) (mode : Int) (Z F : List Sx) (o : Oc) : Prop :=
  (∃ s, s ∈ Z ∧ movesX L X mode s = [] ∧ o = ⟨if endedX L s then 0 else 2, s.words, s.prints⟩) ∨ ∃ f, f ∈ F ∧ o = ⟨1, [], f.prints⟩
theorem Df.outs (h : Df L X mode s0 K Z Z [] F) (o : Oc) : outcX L X mode Z F o ↔ ∃ s, Rch (nxX L X mode) s0 s ∧ o ∈ outsX L X mode s := by
  constructor
  · rintro (⟨s, hs, hm, rfl⟩ | ⟨f, hf, rfl⟩)
    · refine ⟨s, (h.whole s).1 hs, ?_⟩
      rw [outs_none hm]
      simp
    · obtain ⟨s, mv, h1, h2, h3, h4⟩ := h.fin f hf
      refine ⟨s, (h.whole s).1 h1, ?_⟩
      rw [← h3] at h4 ⊢
      exact fell_out h2 h4
  · rintro ⟨s, hs, ho⟩
    have hz := (h.whole s).2 hs
    by_cases hm : movesX L X mode s = []
    · rw [outs_none hm] at ho
      exact Or.inl ⟨s, hz, hm, List.mem_singleton.mp ho⟩
    · unfold outsX at ho
      rw [if_neg hm, List.nil_append] at ho
      obtain ⟨mv, h1, h2⟩ := List.mem_filterMap.mp ho
      cases hf : (doX X mode s mv.toNat).fell with
      | false => rw [hf] at h2; cases h2
      | true =>
        rw [hf] at h2
        rw [← Option.some.inj h2]
        exact Or.inr ⟨_, h.fall s hz mv h1 hf, rfl⟩
theorem Df.told (h : Df L X mode s0 K Z Z [] F) {l : List Oc} {mx : Nat} (hs : SortedO l) (hl : ∀ o, o ∈ l ↔ outcX L X mode Z F o) (hk : K.length ≤ mx) : Told (nxX L X mode) (outsX L X mode) s0 mx false l := by
  refine Or.inr ⟨rfl, hs, fun o => (hl o).trans (h.outs o), K, h.nodup, fun s => ⟨h.reach s, fun hr => ?_⟩, hk⟩
  rw [h.split s]
  exact Or.inl ((h.whole s).2 hr)
theorem Df.full (h : Df L X mode s0 K P Z O F) {mx : Nat} (l : List Oc) (hk : mx < K.length) : Told (nxX L X mode) (outsX L X mode) s0 mx true l := Or.inl ⟨rfl, K, h.nodup, h.reach, hk⟩
end
end

section
open Go.RowKit

/-- An outcome, and where its lists lie. -/
structure En where
  o : Oc
  wa : Option Addr
  wc : Nat
  pa : Option Addr
  pc : Nat
deriving Inhabited
abbrev enV (e : En) : Value := ocV e.o.st e.wa e.o.ws.length e.wc e.pa e.o.pr.length e.pc
def enC (e : En) (j : Nat) : Value := if j = 0 then .int .i64 e.o.st else if j = 1 then .slice e.wa e.o.ws.length e.wc else .slice e.pa e.o.pr.length e.pc
def ensV (es : List En) : List Value := rows3 es.length fun i j => enC (es.getD i default) j
structure EnOk (w : World) (e : En) : Prop where
  ws : LI w e.wa e.o.ws
  pr : LI w e.pa e.o.pr
  wl : e.o.ws.length ≤ 100000
  pl : e.o.pr.length ≤ 100000
theorem EnOk.below {w w' : World} {e : En} (h : EnOk w e) (hb : Below w.heap.size w w') : EnOk w' e := ⟨IIn.below h.ws hb, IIn.below h.pr hb, h.wl, h.pl⟩
/-- Outcomes lie in w, one behind the other. -/
def EIn (w : World) (a : Option Addr) (es : List En) : Prop := ∀ i, i < es.length → ∃ b o, a = some ⟨b, o, none⟩ ∧ w.cell? ⟨b, o + i * 3, none⟩ = some (.int .i64 (es.getD i default).o.st) ∧ w.cell? ⟨b, o + i * 3 + 1, none⟩ = some (.slice (es.getD i default).wa (es.getD i default).o.ws.length (es.getD i default).wc) ∧ w.cell? ⟨b, o + i * 3 + 2, none⟩ = some (.slice (es.getD i default).pa (es.getD i default).o.pr.length (es.getD i default).pc)
theorem EIn.below {w w' : World} {a : Option Addr} {es : List En} (h : EIn w a es) (hb : Below w.heap.size w w') : EIn w' a es := fun i hi => by
  obtain ⟨b, o, h1, h2, h3, h4⟩ := h i hi
  exact ⟨b, o, h1, (hb.cell (lt_of_cell h2)).trans h2, (hb.cell (lt_of_cell h3)).trans h3, (hb.cell (lt_of_cell h4)).trans h4⟩
/-- Outcomes that are being written. -/
structure IsO (w : World) (B : Nat) (a : Option Addr) (len c : Nat) (es : List En) : Prop where
  is : es.length = len
  own : w.ownsRow B 73 3 (.slice a len c) len (ensV es)
theorem IsO.nil (w : World) (B : Nat) : IsO w B none 0 0 [] := ⟨rfl, World.ownsRow_nil _ _ _ _⟩
theorem IsO.below {w w1 : World} {B : Nat} {a : Option Addr} {len c : Nat} {es : List En} (h : IsO w B a len c es) (hb : Below w.heap.size w w1) : IsO w1 B a len c es := ⟨h.is, fam_keeps h.own (fun g hg => hb.block g (h.own.lt g hg).2)⟩
theorem ensV_snoc (es : List En) (e : En) : ensV (es ++ [e]) = ensV es ++ [.int .i64 e.o.st, .slice e.wa e.o.ws.length e.wc, .slice e.pa e.o.pr.length e.pc] := by
  unfold ensV
  rw [List.length_append, List.length_singleton, rows3_snoc]
  congr 1
  · refine rows3_congr fun t j ht => ?_
    congr 1
    simp [List.getD, List.getElem?_append_left ht]
  · simp [enC, List.getD]
theorem infoOutcome : (Tryz.prog.info? 73).map (fun i => (i.zero, i.size, i.bytes)) = some (some (.agg #[.int .i64 0, nilV, nilV]), 3, 56) := by kernel_rfl
theorem map_getD {es : List En} {k : Nat} (hk : k < es.length) : (es.map En.o).getD k default = (es.getD k default).o := by
  simp [List.getD, List.getElem?_eq_getElem hk]

attribute [local go_sem ↓] appS_eq
end

section
open Go.RowKit

section
variable {ι : Type} {w w' : World} {vf vf' : ι → Value}
end

/-- The rows of a space. -/
inductive Sr where
  | box
  | st
  | ks
  | hd
  | bf
deriving DecidableEq
/-- What a space holds: where its states lie, the states, where their numbers lie, the outcomes, whether there are too many. -/
structure Sd where
  sbs : List Nat
  ss : List Sx
  ks : List (Option Addr × Nat)
  ends : Value
  full : Bool
section
variable {w w1 : World} {B : Nat} {P : Pg} {pb : Nat} {v : Sr → Value} {d : Sd}
end
end

section
open Go.RowKit

/-- A space of nothing. -/
def d0 : Sd := ⟨[], [], [], nilV, false⟩
end

section
open Go.RowKit

section
variable {ι : Type} {w w' : World} {vf vf' : ι → Value}
end
/-- A program, and the state ahead of its first step. -/
structure Bc where
  P : Pg
  A : Nat → Option Addr
  L : Nat → Nat
  C : Nat → Nat
  X : Nat → Nat → Nat → Int
  m : Nat
  lk : Nat
  rg : Nat
  s0 : Sx
section
variable {c : Bc} {w0 W w' : World} {pb : Nat} {v : Sr → Value} {d : Sd} {ea : Option Addr} {ec : Nat} {es : List En} {i N : Nat}
end
end

section
open Go.RowKit

theorem begin_bare (n : Nat) (words : List Int) (lk rg : Int) (t : Nat) (ht : t < n) : (thOf (beginX n words lk rg) t).wait = [] ∧ (thOf (beginX n words lk rg) t).pc = 0 := by
  unfold thOf beginX
  simp [List.getD, ht]
/-- The outcomes of the fenced program with stores that wait are those of the plain one without. -/
theorem full_same {n : Nat} {L : Nat → Nat} {X : Nat → Nat → Nat → Int} {words : List Int} {lk rg : Nat} {a b : List Oc} {mx : Nat} (hc : COk n L X words.length lk rg) (ha : Told (nxX L X 0) (outsX L X 0) (beginX n words lk rg) mx false a) (hb : Told (nxX (lenR (bFull X) L) (numR (bFull X) L) 1) (outsX (lenR (bFull X) L) (numR (bFull X) L) 1) (beginX n words lk rg) mx false b) : a = b := by
  rcases ha with ⟨e, _⟩ | ⟨_, sa, ma, _⟩
  · cases e
  rcases hb with ⟨e, _⟩ | ⟨_, sb, mb, _⟩
  · cases e
  refine sorted_same sa sb fun o => ?_
  rw [ma, mb]
  constructor
  · rintro ⟨s, h1, h2⟩
    exact full_back (full_rel n L X) (by decide) hc begin_ok rfl (begin_bare n words lk rg) h1 h2
  · rintro ⟨s, h1, h2⟩
    exact full_out (full_rel n L X) (by decide) hc begin_ok rfl (begin_bare n words lk rg) h1 h2
end

end Go.Proofs.YtelckcpjmekgcadGreatDoor
