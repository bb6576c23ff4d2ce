/-
  States that are gone through one behind the other: plain functions.
  A text of numbers tells them; numbers of a run fit: plain functions.
  An outcome is put into its place, by the document.
  Those of a sorted list that are not as the one ahead: plain functions.
  All states that were come to, as the document holds them in memory; what stays as it was while its lists grow.
  A space that is being begun: its heads, one behind the other.
  All that can be come to, as the document goes through it: what holds between two steps, and what put and Put make of it.
-/
import Derived.Test.YtgofbkgfonlceacGreatDoorReachP
import Derived.Lib.ItoaNum
import Derived.Lib.ItoaLen
import Derived.Test.YtgofbkgfonlceacGreatDoorRMay
import Derived.Test.YtgofbkgfonlceacGreatDoorWorkP
import Derived.BigRegion
namespace Go.Proofs.YtgofbkgfonlceacGreatDoor
section
open Go.RowKit

section
variable {S : Type} {nx : S → List S} {outs : S → List Oc} {s0 : S} {K : List S} {P P' : S → Prop} {E E' : Oc → Prop}
end
section
variable {L : Nat → Nat} {X : Nat → Nat → Nat → Int} {mode : Int} {s : Sx}
theorem outs_none (h : movesX L X mode s = []) : outsX L X mode s = [⟨if endedX L s then 0 else 2, s.words, s.prints⟩] := by
  unfold outsX
  rw [h]
  rfl
theorem mv_getD {l : List Int} {mv : Int} (h : mv ∈ l) : ∃ j, j < l.length ∧ l.getD j 0 = mv := by
  obtain ⟨j, hj, e⟩ := List.getElem_of_mem h
  exact ⟨j, hj, by rw [List.getD_eq_getElem?_getD, List.getElem?_eq_getElem hj]; exact e⟩
theorem getD_mv {l : List Int} {j : Nat} (h : j < l.length) : l.getD j 0 ∈ l := by
  rw [List.getD_eq_getElem?_getD, List.getElem?_eq_getElem h]
  exact List.getElem_mem h
theorem fell_out {mv : Int} (h : mv ∈ movesX L X mode s) (hf : (doX X mode s mv.toNat).fell = true) : (⟨1, [], (doX X mode s mv.toNat).prints⟩ : Oc) ∈ outsX L X mode s := by
  unfold outsX
  refine List.mem_append_right _ (List.mem_filterMap.mpr ⟨mv, h, ?_⟩)
  rw [hf]
  rfl
end
end

section
open Go.RowKit

/-! A text of numbers. -/
def valD (l : List UInt8) : Nat := l.foldl (fun a c => a * 10 + (c.toNat - 48)) 0
theorem valD_snoc (l : List UInt8) (c : UInt8) : valD (l ++ [c]) = valD l * 10 + (c.toNat - 48) := by simp [valD, List.foldl_append]
theorem decD_ok : ∀ (n u : Nat), u ≤ n → (∀ c, c ∈ Lib.decDigits u → 48 ≤ c.toNat ∧ c.toNat ≤ 57) ∧ valD (Lib.decDigits u) = u := by
  intro n
  have hd : ∀ d : Nat, d < 10 → (UInt8.ofNat (48 + d)).toNat = 48 + d := by decide
  induction n with
  | zero =>
    intro u h
    obtain rfl : u = 0 := by omega
    rw [Lib.decDigits, dif_pos (by omega)]
    exact ⟨fun c hc => by rw [List.mem_singleton.mp hc, hd 0 (by omega)]; omega, rfl⟩
  | succ n ih =>
    intro u h
    rw [Lib.decDigits]
    split
    · rename_i h1
      refine ⟨fun c hc => by rw [List.mem_singleton.mp hc, hd u h1]; omega, ?_⟩
      show 0 * 10 + ((UInt8.ofNat (48 + u)).toNat - 48) = u
      rw [hd u h1]; omega
    · rename_i h1
      obtain ⟨a1, a2⟩ := ih (u / 10) (by omega)
      refine ⟨fun c hc => ?_, ?_⟩
      · rcases List.mem_append.mp hc with hc | hc
        · exact a1 c hc
        · rw [List.mem_singleton.mp hc, hd (u % 10) (by omega)]; omega
      · rw [valD_snoc, a2, hd (u % 10) (by omega)]; omega
theorem decD_inj {u v : Nat} (h : Lib.decDigits u = Lib.decDigits v) : u = v := by
  rw [← (decD_ok _ u (Nat.le_refl _)).2, ← (decD_ok _ v (Nat.le_refl _)).2, h]
theorem itoa_mem {n : Int} {c : UInt8} (h : c ∈ Lib.itoa n) : c ≠ 32 := by
  have key : ∀ u, c ∈ Lib.decDigits u → c ≠ 32 := fun u hc e => by
    have := (decD_ok _ u (Nat.le_refl _)).1 c hc
    rw [e] at this
    exact absurd this.1 (by decide)
  unfold Lib.itoa at h
  split at h
  · rcases List.mem_cons.mp h with e | h
    · rw [e]; decide
    · exact key _ h
  · exact key _ h
theorem dec_not_neg {u : Nat} {r : List UInt8} (h : Lib.decDigits u = 45 :: r) : False := by
  have := (decD_ok _ u (Nat.le_refl _)).1 45 (by rw [h]; simp)
  exact absurd this.1 (by decide)
theorem itoa_inj {a b : Int} (h : Lib.itoa a = Lib.itoa b) : a = b := by
  unfold Lib.itoa at h
  split at h
  · split at h
    · have := decD_inj (List.cons.inj h).2
      omega
    · exact (dec_not_neg h.symm).elim
  · split at h
    · exact (dec_not_neg h).elim
    · have := decD_inj h
      omega
/-- Numbers as text: each with a blank behind it. -/
def textT (xs : List Int) : List UInt8 := xs.flatMap fun n => Lib.itoa n ++ [32]
theorem textT_snoc (xs : List Int) (n : Int) : textT (xs ++ [n]) = textT xs ++ (Lib.itoa n ++ [32]) := by simp [textT]
theorem cut_blank : ∀ {l l' r r' : List UInt8}, (∀ c, c ∈ l → c ≠ 32) → (∀ c, c ∈ l' → c ≠ 32) → l ++ 32 :: r = l' ++ 32 :: r' → l = l' ∧ r = r'
  | [], [], _, _, _, _, h => ⟨rfl, (List.cons.inj h).2⟩
  | [], b :: l', _, _, _, h2, h => absurd (List.cons.inj h).1.symm (h2 b (by simp))
  | a :: l, [], _, _, h1, _, h => absurd (List.cons.inj h).1 (h1 a (by simp))
  | a :: l, b :: l', r, r', h1, h2, h => by
    have h3 := List.cons.inj h
    obtain ⟨h4, h5⟩ := cut_blank (fun c hc => h1 c (by simp [hc])) (fun c hc => h2 c (by simp [hc])) h3.2
    exact ⟨by rw [h3.1, h4], h5⟩
theorem textT_inj : ∀ {xs ys : List Int}, textT xs = textT ys → xs = ys
  | [], [], _ => rfl
  | [], b :: ys, h => by
    have : (textT (b :: ys)).length = 0 := by rw [← h]; rfl
    simp [textT] at this
  | a :: xs, [], h => by
    have : (textT (a :: xs)).length = 0 := by rw [h]; rfl
    simp [textT] at this
  | a :: xs, b :: ys, h => by
    have e : ∀ (n : Int) (l : List Int), textT (n :: l) = Lib.itoa n ++ 32 :: textT l := fun n l => by simp [textT]
    rw [e, e] at h
    obtain ⟨h1, h2⟩ := cut_blank (fun c hc => itoa_mem hc) (fun c hc => itoa_mem hc) h
    rw [itoa_inj h1, textT_inj h2]
/-- A number that an int can hold. -/
def I64n (x : Int) : Prop := -9223372036854775808 ≤ x ∧ x ≤ 9223372036854775807
theorem textT_len : ∀ {xs : List Int}, (∀ x, x ∈ xs → I64n x) → (textT xs).length ≤ 22 * xs.length
  | [], _ => Nat.zero_le _
  | a :: xs, h => by
    have h1 := Lib.itoa_length_le a (h a (by simp)).1 (h a (by simp)).2
    have h2 := textT_len (xs := xs) (fun x hx => h x (by simp [hx]))
    have e : textT (a :: xs) = Lib.itoa a ++ 32 :: textT xs := by simp [textT]
    rw [e]
    simp only [List.length_append, List.length_cons]
    omega

/-! Numbers of a run fit. -/
structure VOk (s : Sx) : Prop where
  regs : ∀ h, h ∈ s.ths → ∀ x, x ∈ h.regs → I64n x
  wait : ∀ h, h ∈ s.ths → ∀ x, x ∈ h.wait → I64n x.what
  words : ∀ x, x ∈ s.words → I64n x
  own : ∀ x, x ∈ s.own → I64n x
  prints : ∀ x, x ∈ s.prints → I64n x
theorem i64_wrap (x : Int) : I64n (IntKind.i64.wrap x) := by
  rw [IntKind.wrap_i64]
  unfold I64n
  omega
theorem i64_getD {l : List Int} (h : ∀ x, x ∈ l → I64n x) (k : Nat) : I64n (l.getD k 0) := by
  rw [List.getD_eq_getElem?_getD]
  cases e : l[k]? with
  | none => exact ⟨by decide, by decide⟩
  | some y => exact h y (List.mem_of_getElem? e)
theorem i64_set {l : List Int} (h : ∀ x, x ∈ l → I64n x) {k : Nat} {v : Int} (hv : I64n v) : ∀ x, x ∈ l.set k v → I64n x := fun x hx => by
  rcases List.mem_or_eq_of_mem_set hx with hx | rfl
  · exact h x hx
  · exact hv
section
variable {s : Sx} {t : Nat}
theorem VOk.th (h : VOk s) {x : Th} (hr : ∀ y, y ∈ x.regs → I64n y) (hw : ∀ y, y ∈ x.wait → I64n y.what) : VOk (setTh s t x) := by
  refine ⟨fun g hg => ?_, fun g hg => ?_, h.words, h.own, h.prints⟩
  · rcases List.mem_or_eq_of_mem_set hg with hg | rfl
    · exact h.regs g hg
    · exact hr
  · rcases List.mem_or_eq_of_mem_set hg with hg | rfl
    · exact h.wait g hg
    · exact hw
theorem thOf_mem (ht : t < s.ths.length) : thOf s t ∈ s.ths := by
  unfold thOf
  rw [List.getD_eq_getElem?_getD, List.getElem?_eq_getElem ht]
  exact List.getElem_mem ht
theorem VOk.getR (h : VOk s) (ht : t < s.ths.length) (r : Int) : I64n (getR s t r) := i64_getD (h.regs _ (thOf_mem ht)) _
theorem VOk.setR (h : VOk s) (ht : t < s.ths.length) (r : Int) {v : Int} (hv : I64n v) : VOk (setR s t r v) := h.th (i64_set (h.regs _ (thOf_mem ht)) hv) (fun y hy => h.wait (thOf s t) (thOf_mem ht) y hy)
theorem VOk.pc (h : VOk s) (ht : t < s.ths.length) (k : Nat) : VOk (setTh s t { thOf s t with pc := k }) := h.th (fun y hy => h.regs (thOf s t) (thOf_mem ht) y hy) (fun y hy => h.wait (thOf s t) (thOf_mem ht) y hy)
theorem VOk.done (h : VOk s) {x : Wt} (hx : I64n x.what) : VOk (doneW s x) := by
  unfold doneW
  split
  · exact ⟨h.regs, h.wait, h.words, i64_set h.own ⟨by decide, by decide⟩, h.prints⟩
  · exact ⟨h.regs, h.wait, i64_set h.words hx, h.own, h.prints⟩
theorem VOk.store (h : VOk s) (ht : t < s.ths.length) (mode : Int) {x : Wt} (hx : I64n x.what) : VOk (storeW mode s t x) := by
  unfold storeW
  split
  · refine h.th (fun y hy => h.regs (thOf s t) (thOf_mem ht) y hy) (fun y hy => ?_)
    rcases List.mem_append.mp hy with hy | hy
    · exact h.wait _ (thOf_mem ht) y hy
    · rw [List.mem_singleton.mp hy]; exact hx
  · exact h.done hx
theorem VOk.finds (h : VOk s) (ht : t < s.ths.length) (wd : Int) : I64n (findsW s t wd) := by
  unfold findsW
  split
  · rename_i x hx
    exact h.wait _ (thOf_mem ht) x (by simpa using List.mem_of_find?_eq_some hx)
  · exact i64_getD h.words _
theorem i64_bit (b : Bool) : I64n (bitI b) := by cases b <;> exact ⟨by decide, by decide⟩
theorem VOk.order (h : VOk s) (ht : t < s.ths.length) (h4 : t < 4) (mode op a b c : Int) (hb : I64n b) : VOk (orderX mode s t op a b c) := by
  unfold orderX
  by_cases e : op = 1
  · rw [if_pos e]
    exact h.setR ht a hb
  rw [if_neg e]
  clear e
  by_cases e : op = 2
  · rw [if_pos e]
    exact h.setR ht a (h.getR ht b)
  rw [if_neg e]
  clear e
  by_cases e : op = 3
  · rw [if_pos e]
    exact h.setR ht a (i64_wrap _)
  rw [if_neg e]
  clear e
  by_cases e : op = 4
  · rw [if_pos e]
    exact h.setR ht a (i64_wrap _)
  rw [if_neg e]
  clear e
  by_cases e : op = 5
  · rw [if_pos e]
    exact h.setR ht a (i64_wrap _)
  rw [if_neg e]
  clear e
  by_cases e : op = 6
  · rw [if_pos e]
    exact h.setR ht a (i64_bit _)
  rw [if_neg e]
  clear e
  by_cases e : op = 7
  · rw [if_pos e]
    exact h.setR ht a (i64_bit _)
  rw [if_neg e]
  clear e
  by_cases e : op = 8
  · rw [if_pos e]
    exact h.setR ht a (h.finds ht b)
  rw [if_neg e]
  clear e
  by_cases e : op = 9
  · rw [if_pos e]
    exact h.store ht mode (h.getR ht b)
  rw [if_neg e]
  clear e
  by_cases e : op = 10
  · rw [if_pos e]
    by_cases e2 : Go.Proofs.YtgofbkgfonlceacGreatDoor.getR s t b < 0 ∨ (s.words.length : Int) ≤ Go.Proofs.YtgofbkgfonlceacGreatDoor.getR s t b
    · rw [if_pos e2]; exact ⟨h.regs, h.wait, h.words, h.own, h.prints⟩
    · rw [if_neg e2]; exact h.setR ht a (h.finds ht _)
  rw [if_neg e]
  clear e
  by_cases e : op = 11
  · rw [if_pos e]
    by_cases e2 : Go.Proofs.YtgofbkgfonlceacGreatDoor.getR s t a < 0 ∨ (s.words.length : Int) ≤ Go.Proofs.YtgofbkgfonlceacGreatDoor.getR s t a
    · rw [if_pos e2]; exact ⟨h.regs, h.wait, h.words, h.own, h.prints⟩
    · rw [if_neg e2]; exact h.store ht mode (h.getR ht b)
  rw [if_neg e]
  clear e
  by_cases e : op = 13
  · rw [if_pos e]
    by_cases e2 : s.words.getD a.toNat 0 = Go.Proofs.YtgofbkgfonlceacGreatDoor.getR s t b
    · rw [if_pos e2]
      have h1 : VOk { s with words := s.words.set a.toNat (Go.Proofs.YtgofbkgfonlceacGreatDoor.getR s t c) } := ⟨h.regs, h.wait, i64_set h.words (h.getR ht c), h.own, h.prints⟩
      exact h1.setR ht b ⟨by decide, by decide⟩
    · rw [if_neg e2]; exact h.setR ht b ⟨by decide, by decide⟩
  rw [if_neg e]
  clear e
  by_cases e : op = 14
  · rw [if_pos e]
    exact h.pc ht _
  rw [if_neg e]
  clear e
  by_cases e : op = 15
  · rw [if_pos e]
    by_cases e2 : Go.Proofs.YtgofbkgfonlceacGreatDoor.getR s t a = 0
    · rw [if_pos e2]; exact h.pc ht _
    · rw [if_neg e2]; exact h
  rw [if_neg e]
  clear e
  by_cases e : op = 16
  · rw [if_pos e]
    refine ⟨h.regs, h.wait, h.words, h.own, fun x hx => ?_⟩
    rcases List.mem_append.mp hx with hx | hx
    · exact h.prints x hx
    · rcases List.mem_cons.mp hx with rfl | hx
      · exact ⟨by omega, by omega⟩
      · rw [List.mem_singleton.mp hx]; exact h.getR ht a
  rw [if_neg e]
  clear e
  by_cases e : op = 17
  · rw [if_pos e]
    exact ⟨h.regs, h.wait, h.words, i64_set h.own ⟨by omega, by omega⟩, h.prints⟩
  rw [if_neg e]
  clear e
  by_cases e : op = 18
  · rw [if_pos e]
    by_cases e2 : s.own.getD a.toNat 0 ≠ t ∨ ((thOf s t).wait.any fun x => x.lk && decide (x.wh = a)) = true
    · rw [if_pos e2]; exact ⟨h.regs, h.wait, h.words, h.own, h.prints⟩
    · rw [if_neg e2]; exact h.store ht mode (x := ⟨true, a, 0⟩) (show I64n 0 from ⟨by decide, by decide⟩)
  rw [if_neg e]
  clear e
  exact h
end
/-- A move keeps all numbers such that an int can hold them. -/
theorem VOk.move {n : Nat} {L : Nat → Nat} {X : Nat → Nat → Nat → Int} {m lk rg : Nat} {mode : Int} {s : Sx} (h : VOk s) (ho : SOk n L m lk rg mode s) (hn : n ≤ 4) (hX : ∀ t i, t < n → i < L t → I64n (X t i 2)) {mv : Int} (hmv : mv ∈ movesX L X mode s) : VOk (doX X mode s mv.toNat) := by
  rcases movesX_mem hmv with ⟨t, ht, rfl, ha⟩ | ⟨t, k, ht, hk, rfl, _⟩
  · rw [show (8 * (t : Int)).toNat = 8 * t by omega]
    unfold doX
    simp only [show 8 * t / 8 = t by omega, show 8 * t % 8 = 0 by omega]
    rw [if_neg (by omega)]
    have htn : t < n := by rw [← ho.ths]; exact ht
    exact (h.pc ht _).order (by rw [ths_set]; exact ht) (by omega) mode _ _ _ _ (hX t _ htn (able_lt ha))
  · have h3 := ho.wlen t (by rw [← ho.ths]; exact ht)
    rw [show (8 * (t : Int) + (k : Int) + 1).toNat = 8 * t + k + 1 by omega, doX_wait (by omega)]
    have hx : (thOf s t).wait.getD k default ∈ (thOf s t).wait := by
      rw [List.getD_eq_getElem?_getD, List.getElem?_eq_getElem hk]; exact List.getElem_mem hk
    exact (h.done (h.wait _ (thOf_mem ht) _ hx)).th (fun y hy => h.regs (thOf s t) (thOf_mem ht) y hy) (fun y hy => h.wait (thOf s t) (thOf_mem ht) y (List.mem_of_mem_eraseIdx hy))
theorem VOk.begin {n : Nat} {words : List Int} {lk rg : Nat} (hw : ∀ x, x ∈ words → I64n x) : VOk (beginX n words lk rg) := by
  refine ⟨fun g hg x hx => ?_, fun g hg x hx => ?_, hw, fun x hx => ?_, fun x hx => (by cases hx)⟩
  · rw [(List.mem_replicate.mp hg).2] at hx
    rw [(List.mem_replicate.mp hx).2]
    exact ⟨by decide, by decide⟩
  · rw [(List.mem_replicate.mp hg).2] at hx
    cases hx
  · rw [(List.mem_replicate.mp hx).2]
    exact ⟨by decide, by decide⟩
/-- What a state tells fits. -/
theorem tel_fits {n : Nat} {L : Nat → Nat} {m lk rg : Nat} {mode : Int} {s : Sx} (h : VOk s) (ho : SOk n L m lk rg mode s) (hL : ∀ t, t < n → L t ≤ 400) (hm : m ≤ 64) (hlk : lk ≤ 4) : ∀ x, x ∈ telX mode s → I64n x := by
  intro x hx
  unfold telX telM at hx
  rcases List.mem_append.mp hx with hx | hx
  · rcases List.mem_append.mp hx with hx | hx
    · obtain ⟨g, hg, hx⟩ := List.mem_flatMap.mp hx
      unfold telT at hx
      rcases List.mem_append.mp hx with hx | hx
      · obtain ⟨t, ht, rfl⟩ := ho.mem hg
        rw [List.mem_singleton.mp hx]
        have h1 := ho.pc t ht
        have h2 := hL t ht
        exact ⟨by omega, by omega⟩
      · exact h.regs g hg x hx
    · rcases List.mem_append.mp hx with hx | hx
      · rcases List.mem_append.mp hx with hx | hx
        · exact h.words x hx
        · exact h.own x hx
      · split at hx
        · obtain ⟨g, hg, hx⟩ := List.mem_flatMap.mp hx
          unfold telB at hx
          obtain ⟨t, ht, rfl⟩ := ho.mem hg
          rcases List.mem_append.mp hx with hx | hx
          · rw [List.mem_singleton.mp hx]
            have h1 := ho.wlen t ht
            exact ⟨by omega, by omega⟩
          · obtain ⟨y, hy, hx⟩ := List.mem_flatMap.mp hx
            have h1 := (ho.wok t ht y hy).1
            unfold telW at hx
            rcases List.mem_cons.mp hx with rfl | hx
            · cases hk : y.lk <;> rw [hk] at h1 <;> simp only [if_true, Bool.false_eq_true, if_false] at h1 ⊢ <;> exact ⟨by omega, by omega⟩
            · rw [List.mem_singleton.mp hx]
              exact h.wait _ hg y hy
        · cases hx
  · exact h.prints x hx
end

section
open Go.RowKit

/-- An outcome, and where its lists lie. -/
structure En where
  o : Oc
  wa : Option Addr
  wc : Nat
  pa : Option Addr
  pc : Nat
deriving Inhabited
abbrev enV (e : En) : Value := ocV e.o.st e.wa e.o.ws.length e.wc e.pa e.o.pr.length e.pc
def enC (e : En) (j : Nat) : Value := if j = 0 then .int .i64 e.o.st else if j = 1 then .slice e.wa e.o.ws.length e.wc else .slice e.pa e.o.pr.length e.pc
def ensV (es : List En) : List Value := rows3 es.length fun i j => enC (es.getD i default) j
structure EnOk (w : World) (e : En) : Prop where
  ws : LI w e.wa e.o.ws
  pr : LI w e.pa e.o.pr
  wl : e.o.ws.length ≤ 100000
  pl : e.o.pr.length ≤ 100000
theorem EnOk.below {w w' : World} {e : En} (h : EnOk w e) (hb : Below w.heap.size w w') : EnOk w' e := ⟨IIn.below h.ws hb, IIn.below h.pr hb, h.wl, h.pl⟩
/-- Outcomes lie in w, one behind the other. -/
def EIn (w : World) (a : Option Addr) (es : List En) : Prop := ∀ i, i < es.length → ∃ b o, a = some ⟨b, o, none⟩ ∧ w.cell? ⟨b, o + i * 3, none⟩ = some (.int .i64 (es.getD i default).o.st) ∧ w.cell? ⟨b, o + i * 3 + 1, none⟩ = some (.slice (es.getD i default).wa (es.getD i default).o.ws.length (es.getD i default).wc) ∧ w.cell? ⟨b, o + i * 3 + 2, none⟩ = some (.slice (es.getD i default).pa (es.getD i default).o.pr.length (es.getD i default).pc)
theorem EIn.below {w w' : World} {a : Option Addr} {es : List En} (h : EIn w a es) (hb : Below w.heap.size w w') : EIn w' a es := fun i hi => by
  obtain ⟨b, o, h1, h2, h3, h4⟩ := h i hi
  exact ⟨b, o, h1, (hb.cell (lt_of_cell h2)).trans h2, (hb.cell (lt_of_cell h3)).trans h3, (hb.cell (lt_of_cell h4)).trans h4⟩
/-- Outcomes that are being written. -/
structure IsO (w : World) (B : Nat) (a : Option Addr) (len c : Nat) (es : List En) : Prop where
  is : es.length = len
  own : w.ownsRow B 67 3 (.slice a len c) len (ensV es)
theorem IsO.nil (w : World) (B : Nat) : IsO w B none 0 0 [] := ⟨rfl, World.ownsRow_nil _ _ _ _⟩
theorem IsO.below {w w1 : World} {B : Nat} {a : Option Addr} {len c : Nat} {es : List En} (h : IsO w B a len c es) (hb : Below w.heap.size w w1) : IsO w1 B a len c es := ⟨h.is, fam_keeps h.own (fun g hg => hb.block g (h.own.lt g hg).2)⟩
theorem ensV_snoc (es : List En) (e : En) : ensV (es ++ [e]) = ensV es ++ [.int .i64 e.o.st, .slice e.wa e.o.ws.length e.wc, .slice e.pa e.o.pr.length e.pc] := by
  unfold ensV
  rw [List.length_append, List.length_singleton, rows3_snoc]
  congr 1
  · refine rows3_congr fun t j ht => ?_
    congr 1
    simp [List.getD, List.getElem?_append_left ht]
  · simp [enC, List.getD]
theorem infoOutcome : (Tryz.prog.info? 67).map (fun i => (i.zero, i.size, i.bytes)) = some (some (.agg #[.int .i64 0, nilV, nilV]), 3, 56) := by kernel_rfl
theorem map_getD {es : List En} {k : Nat} (hk : k < es.length) : (es.map En.o).getD k default = (es.getD k default).o := by
  simp [List.getD, List.getElem?_eq_getElem hk]

attribute [local go_sem ↓] appS_eq
end

section
open Go.RowKit

/-- Of the first k those that are not as the one ahead. -/
def compE (es : List En) : Nat → List En
  | 0 => []
  | k + 1 => compE es k ++ (if k = 0 ∨ (es.getD k default).o ≠ (es.getD (k - 1) default).o then [es.getD k default] else [])
section
variable {es : List En} {k : Nat}
theorem compE_same (h0 : 0 < k) (h : (es.getD k default).o = (es.getD (k - 1) default).o) : compE es (k + 1) = compE es k := by
  rw [compE, if_neg (fun e => by rcases e with e | e; omega; exact e h), List.append_nil]
theorem compE_new (h : k = 0 ∨ (es.getD k default).o ≠ (es.getD (k - 1) default).o) : compE es (k + 1) = compE es k ++ [es.getD k default] := by
  rw [compE, if_pos h]
theorem take_snoc (hk : k < es.length) : es.take (k + 1) = es.take k ++ [es.getD k default] := by
  rw [List.take_add_one, List.getElem?_eq_getElem hk, List.getD_eq_getElem?_getD, List.getElem?_eq_getElem hk]
  rfl
theorem compE_take (hk : k ≤ es.length) (h : ∀ j, 0 < j → j < k → (es.getD j default).o ≠ (es.getD (j - 1) default).o) : compE es k = es.take k := by
  induction k with
  | zero => rfl
  | succ k ih =>
    rw [compE_new, ih (by omega) (fun j h1 h2 => h j h1 (by omega)), take_snoc (by omega)]
    rcases Nat.eq_zero_or_pos k with h1 | h1
    · exact Or.inl h1
    · exact Or.inr (h k h1 (by omega))
theorem compE_len : (compE es k).length ≤ k := by
  induction k with
  | zero => exact Nat.le_refl _
  | succ k ih =>
    rw [compE, List.length_append]
    split <;> simp <;> omega
theorem compE_mem {e : En} (hk : k ≤ es.length) (h : e ∈ compE es k) : e ∈ es := by
  induction k with
  | zero => cases h
  | succ k ih =>
    rw [compE, List.mem_append] at h
    rcases h with h | h
    · exact ih (by omega) h
    · split at h
      · rw [List.mem_singleton.mp h, List.getD_eq_getElem?_getD, List.getElem?_eq_getElem (by omega)]
        exact List.getElem_mem _
      · cases h
theorem compE_sorted (hs : es.Pairwise (fun x y => aheadO y.o x.o = false)) (hk : k ≤ es.length) : SortedO ((compE es k).map En.o) ∧ (∀ o, o ∈ (compE es k).map En.o ↔ ∃ j, j < k ∧ (es.getD j default).o = o) ∧ ∀ o, o ∈ (compE es k).map En.o → o = (es.getD (k - 1) default).o ∨ aheadO o (es.getD (k - 1) default).o = true := by
  induction k with
  | zero => exact ⟨List.Pairwise.nil, fun o => ⟨fun h => absurd h List.not_mem_nil, fun ⟨j, h, _⟩ => absurd h (Nat.not_lt_zero _)⟩, fun o h => absurd h List.not_mem_nil⟩
  | succ k ih =>
    obtain ⟨h1, h2, h3⟩ := ih (by omega)
    by_cases h : k = 0 ∨ (es.getD k default).o ≠ (es.getD (k - 1) default).o
    · have hall : ∀ o, o ∈ (compE es k).map En.o → aheadO o (es.getD k default).o = true := fun o ho => by
        obtain ⟨j, hj, _⟩ := (h2 o).1 ho
        have hne := h.resolve_left (by omega)
        have hkl : k < es.length := by omega
        have hf : aheadO (es.getD k default).o (es.getD (k - 1) default).o = false := by
          have := (List.pairwise_iff_getElem.mp hs) (k - 1) k (by omega) hkl (by omega)
          rw [List.getD_eq_getElem?_getD, List.getD_eq_getElem?_getD, List.getElem?_eq_getElem hkl, List.getElem?_eq_getElem (show k - 1 < es.length by omega)]
          exact this
        have ht : aheadO (es.getD (k - 1) default).o (es.getD k default).o = true := by
          cases hq : aheadO (es.getD (k - 1) default).o (es.getD k default).o with
          | true => rfl
          | false => exact absurd (ahead_tri hf hq) hne
        rcases h3 o ho with e | e
        · rw [e]; exact ht
        · exact ahead_trans e ht
      rw [compE_new h, List.map_append, List.map_singleton]
      refine ⟨?_, fun o => ?_, fun o ho => ?_⟩
      · rw [SortedO, List.pairwise_append]
        exact ⟨h1, by simp, fun a ha b hb => by rw [List.mem_singleton.mp hb]; exact hall a ha⟩
      · rw [List.mem_append, h2 o, List.mem_singleton]
        constructor
        · rintro (⟨j, hj, e⟩ | e)
          · exact ⟨j, by omega, e⟩
          · exact ⟨k, by omega, e.symm⟩
        · rintro ⟨j, hj, e⟩
          rcases Nat.lt_or_ge j k with h4 | h4
          · exact Or.inl ⟨j, h4, e⟩
          · obtain rfl : j = k := by omega
            exact Or.inr e.symm
      · rw [Nat.add_sub_cancel]
        rcases List.mem_append.mp ho with ho | ho
        · exact Or.inr (hall o ho)
        · exact Or.inl (List.mem_singleton.mp ho)
    · have hk0 : 0 < k := by omega
      have he : (es.getD k default).o = (es.getD (k - 1) default).o := Classical.byContradiction fun hc => h (Or.inr hc)
      rw [compE_same hk0 he, Nat.add_sub_cancel, he]
      refine ⟨h1, fun o => ?_, h3⟩
      rw [h2 o]
      constructor
      · rintro ⟨j, hj, e⟩
        exact ⟨j, by omega, e⟩
      · rintro ⟨j, hj, e⟩
        rcases Nat.lt_or_ge j k with h4 | h4
        · exact ⟨j, h4, e⟩
        · obtain rfl : j = k := by omega
          exact ⟨j - 1, by omega, by rw [← he]; exact e⟩
/-- The whole list. -/
theorem compE_all (hs : es.Pairwise (fun x y => aheadO y.o x.o = false)) : SortedO ((compE es es.length).map En.o) ∧ ∀ o, o ∈ (compE es es.length).map En.o ↔ o ∈ es.map En.o := by
  obtain ⟨h1, h2, _⟩ := compE_sorted hs (Nat.le_refl _)
  refine ⟨h1, fun o => (h2 o).trans ?_⟩
  rw [List.mem_map]
  constructor
  · rintro ⟨j, hj, e⟩
    rw [List.getD_eq_getElem?_getD, List.getElem?_eq_getElem hj] at e
    exact ⟨_, List.getElem_mem hj, e⟩
  · rintro ⟨x, hx, e⟩
    obtain ⟨j, hj, e2⟩ := List.getElem_of_mem hx
    refine ⟨j, hj, ?_⟩
    rw [List.getD_eq_getElem?_getD, List.getElem?_eq_getElem hj]
    show (es[j]).o = o
    rw [e2]; exact e
end
end

section
open Go.RowKit

section
variable {ι : Type} {w w' : World} {vf vf' : ι → Value}
end

/-- The rows of a space. -/
inductive Sr where
  | box
  | st
  | ks
  | hd
  | bf
deriving DecidableEq
/-- What a space holds: where its states lie, the states, where their numbers lie, the outcomes, whether there are too many. -/
structure Sd where
  sbs : List Nat
  ss : List Sx
  ks : List (Option Addr × Nat)
  ends : Value
  full : Bool
section
variable {w w1 : World} {B : Nat} {P : Pg} {pb : Nat} {v : Sr → Value} {d : Sd}
end
end

section
open Go.RowKit

/-- A space of nothing. -/
def d0 : Sd := ⟨[], [], [], nilV, false⟩
end

section
open Go.RowKit

section
variable {ι : Type} {w w' : World} {vf vf' : ι → Value}
end
/-- A program, and the state ahead of its first step. -/
structure Bc where
  P : Pg
  A : Nat → Option Addr
  L : Nat → Nat
  C : Nat → Nat
  X : Nat → Nat → Nat → Int
  m : Nat
  lk : Nat
  rg : Nat
  s0 : Sx
section
variable {c : Bc} {w0 W w' : World} {pb : Nat} {v : Sr → Value} {d : Sd} {ea : Option Addr} {ec : Nat} {es : List En} {i N : Nat}
end
end

end Go.Proofs.YtgofbkgfonlceacGreatDoor
