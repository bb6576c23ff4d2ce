/-
  Without clashes what waits cannot be seen: what waits, and the states without it that go with a state with it. Plain functions.
-/
import Derived.Test.YtgofbkgfonlceacGreatDoorReachP
import Derived.Test.YtgofbkgfonlceacGreatDoorRLk
namespace Go.Proofs.YtgofbkgfonlceacGreatDoor
open Go.RowKit

/-! What waits, and what it makes of words and locks. -/
/-- Does one that waits say what a word becomes? -/
def hitW (w : Int) (x : Wt) : Bool := !x.lk && decide (x.wh = w)
def hitL (a : Int) (x : Wt) : Bool := x.lk && decide (x.wh = a)
/-- What the last one says that a word becomes. -/
def lastI (l : List Wt) (w : Int) : Option Int := (l.reverse.find? (hitW w)).map fun x => x.what
theorem lastI_snoc (l : List Wt) (x : Wt) (w : Int) : lastI (l ++ [x]) w = if hitW w x then some x.what else lastI l w := by
  unfold lastI
  rw [List.reverse_append]
  show ((x :: l.reverse).find? _).map _ = _
  rw [List.find?_cons]
  cases hitW w x <;> rfl
theorem lastI_append (l r : List Wt) (w : Int) : lastI (l ++ r) w = (lastI r w).or (lastI l w) := by
  unfold lastI
  rw [List.reverse_append, List.find?_append]
  cases r.reverse.find? (hitW w) <;> rfl
theorem lastI_cons (x : Wt) (l : List Wt) (w : Int) : lastI (x :: l) w = (lastI l w).or (if hitW w x then some x.what else none) := by
  rw [show x :: l = [x] ++ l from rfl, lastI_append]
  unfold lastI
  show _ = _
  simp only [List.reverse_cons, List.reverse_nil, List.nil_append, List.find?_cons, List.find?_nil]
  cases hitW w x <;> rfl
theorem lastI_none {l : List Wt} {w : Int} : lastI l w = none ↔ ∀ x, x ∈ l → hitW w x = false := by
  unfold lastI
  rw [Option.map_eq_none_iff, List.find?_eq_none]
  simp
theorem lastI_some {l : List Wt} {w : Int} (h : lastI l w ≠ none) : ∃ (k : Nat) (x : Wt), l[k]? = some x ∧ hitW w x = true := by
  by_cases h1 : ∀ x, x ∈ l → hitW w x = false
  · exact absurd (lastI_none.mpr h1) h
  · simp only [Classical.not_forall, Bool.not_eq_false] at h1
    obtain ⟨x, hx, hh⟩ := h1
    obtain ⟨k, hk⟩ := List.getElem?_of_mem hx
    exact ⟨k, x, hk, hh⟩
theorem finds_last (s : Sx) (t : Nat) (w : Int) : findsW s t w = (lastI (thOf s t).wait w).getD (s.words.getD w.toNat 0) := by
  unfold findsW lastI hitW
  cases (thOf s t).wait.reverse.find? fun x => !x.lk && decide (x.wh = w) <;> rfl
/-- What a word is once all is done of I, thread by thread. -/
def valW (n : Nat) (B : List Int) (I : Nat → List Wt) (w : Int) : Int := ((List.range n).findSome? fun t => lastI (I t) w).getD (B.getD w.toNat 0)
/-- Nobody else says anything of a word. -/
def Sole (n : Nat) (I : Nat → List Wt) (w : Int) (t : Nat) : Prop := ∀ v, v < n → v ≠ t → lastI (I v) w = none
theorem val_sole {n : Nat} {B : List Int} {I : Nat → List Wt} {w : Int} {t : Nat} (ht : t < n) (h : Sole n I w t) : valW n B I w = (lastI (I t) w).getD (B.getD w.toNat 0) := by
  unfold valW
  cases e : lastI (I t) w with
  | none =>
    rw [List.findSome?_eq_none_iff.mpr]
    · intro v hv
      by_cases hvt : v = t
      · rw [hvt]; exact e
      · exact h v (by simpa using hv) hvt
  | some y =>
    cases e2 : (List.range n).findSome? fun t => lastI (I t) w with
    | none =>
      rw [List.findSome?_eq_none_iff] at e2
      have := e2 t (by simpa using ht)
      rw [e] at this; cases this
    | some z =>
      obtain ⟨v, hv, hz⟩ := List.exists_of_findSome?_eq_some e2
      by_cases hvt : v = t
      · rw [hvt, e] at hz; rw [← hz]
      · rw [h v (by simpa using hv) hvt] at hz; cases hz
theorem val_none {n : Nat} {B : List Int} {I : Nat → List Wt} {w : Int} (h : ∀ v, v < n → lastI (I v) w = none) : valW n B I w = B.getD w.toNat 0 := by
  unfold valW
  rw [List.findSome?_eq_none_iff.mpr (fun v hv => h v (by simpa using hv))]
  rfl
/-- No two say anything of one word. -/
def Apart (n : Nat) (I : Nat → List Wt) : Prop := ∀ w t, t < n → lastI (I t) w ≠ none → Sole n I w t
theorem some_congr {α β : Type} {f h : α → Option β} : ∀ {l : List α}, (∀ x, x ∈ l → f x = h x) → l.findSome? f = l.findSome? h
  | [], _ => rfl
  | a :: l, e => by
    rw [List.findSome?_cons, List.findSome?_cons, e a (by simp), some_congr fun x hx => e x (by simp [hx])]
/-- Two ways to say the same of a word. -/
theorem val_congr {n : Nat} {B B' : List Int} {I J : Nat → List Wt} {w : Int} (h0 : ∀ t, t < n → lastI (I t) w = lastI (J t) w) (hB : (∀ t, t < n → lastI (I t) w = none) → B.getD w.toNat 0 = B'.getD w.toNat 0) : valW n B I w = valW n B' J w := by
  unfold valW
  rw [← some_congr (l := List.range n) (f := fun t => lastI (I t) w) (h := fun t => lastI (J t) w) (fun t ht => h0 t (by simpa using ht))]
  cases e : (List.range n).findSome? fun t => lastI (I t) w with
  | none =>
    rw [List.findSome?_eq_none_iff] at e
    exact hB fun t ht => e t (by simpa using ht)
  | some _ => rfl
def ownV (n : Nat) (O : List Int) (I : Nat → List Wt) (a : Int) : Int := if ((List.range n).any fun t => (I t).any (hitL a)) = true then -1 else O.getD a.toNat 0
theorem own_yes {n : Nat} {O : List Int} {I : Nat → List Wt} {a : Int} {t : Nat} {x : Wt} (ht : t < n) (hx : x ∈ I t) (hh : hitL a x = true) : ownV n O I a = -1 := by
  unfold ownV
  rw [if_pos]
  rw [List.any_eq_true]
  exact ⟨t, by simpa using ht, List.any_eq_true.mpr ⟨x, hx, hh⟩⟩
theorem own_not {n : Nat} {O : List Int} {I : Nat → List Wt} {a : Int} (h : ∀ t, t < n → ∀ x, x ∈ I t → hitL a x = false) : ownV n O I a = O.getD a.toNat 0 := by
  unfold ownV
  rw [if_neg]
  rw [List.any_eq_true]
  rintro ⟨t, ht, h1⟩
  obtain ⟨x, hx, hh⟩ := List.any_eq_true.mp h1
  rw [h t (by simpa using ht) x hx] at hh; cases hh
theorem any_congr' {α : Type} {f h : α → Bool} : ∀ {l : List α}, (∀ x, x ∈ l → f x = h x) → l.any f = l.any h
  | [], _ => rfl
  | a :: l, e => by
    rw [List.any_cons, List.any_cons, e a (by simp), any_congr' fun x hx => e x (by simp [hx])]
theorem own_congr {n : Nat} {O O' : List Int} {I J : Nat → List Wt} {a : Int} (h0 : ∀ t, t < n → (I t).any (hitL a) = (J t).any (hitL a)) (hO : O.getD a.toNat 0 = O'.getD a.toNat 0) : ownV n O I a = ownV n O' J a := by
  unfold ownV
  rw [any_congr' (l := List.range n) (f := fun t => (I t).any (hitL a)) (h := fun t => (J t).any (hitL a)) (fun t ht => h0 t (by simpa using ht)), hO]
theorem own_cases {n : Nat} {I : Nat → List Wt} (a : Int) : (∃ t x, t < n ∧ x ∈ I t ∧ hitL a x = true) ∨ ∀ t, t < n → ∀ x, x ∈ I t → hitL a x = false := by
  by_cases h : ∀ t, t < n → ∀ x, x ∈ I t → hitL a x = false
  · exact Or.inr h
  · simp only [Classical.not_forall, Bool.not_eq_false] at h
    obtain ⟨t, ht, x, hx, hh⟩ := h
    exact Or.inl ⟨t, x, ht, hx, hh⟩

/-! Those that were put into a buffer; some of them are done already. -/
def itsG (l : List (Wt × Bool)) : List Wt := l.map fun p => p.1
def dnG (l : List (Wt × Bool)) : List Wt := (l.filter fun p => p.2).map fun p => p.1
def pdG (l : List (Wt × Bool)) : List Wt := (l.filter fun p => !p.2).map fun p => p.1
theorem itsG_append (l r : List (Wt × Bool)) : itsG (l ++ r) = itsG l ++ itsG r := by simp [itsG]
theorem dnG_append (l r : List (Wt × Bool)) : dnG (l ++ r) = dnG l ++ dnG r := by simp [dnG]
theorem pdG_append (l r : List (Wt × Bool)) : pdG (l ++ r) = pdG l ++ pdG r := by simp [pdG]
theorem mem_dn {l : List (Wt × Bool)} {x : Wt} (h : x ∈ dnG l) : x ∈ itsG l := by
  simp only [dnG, itsG, List.mem_map, List.mem_filter] at h ⊢
  obtain ⟨p, hp, e⟩ := h
  exact ⟨p, hp.1, e⟩
theorem mem_pd {l : List (Wt × Bool)} {x : Wt} (h : x ∈ pdG l) : x ∈ itsG l := by
  simp only [pdG, itsG, List.mem_map, List.mem_filter] at h ⊢
  obtain ⟨p, hp, e⟩ := h
  exact ⟨p, hp.1, e⟩
theorem dn_none {l : List (Wt × Bool)} {w : Int} (h : lastI (itsG l) w = none) : lastI (dnG l) w = none := lastI_none.mpr fun x hx => lastI_none.mp h x (mem_dn hx)
/-- In which order they are done: what is done has no lock ahead of it, nor its own word that still waits. -/
def OrdG (l : List (Wt × Bool)) : Prop := l.Pairwise fun p q => q.2 = true → p.1.lk = false ∧ (p.1.wh = q.1.wh → p.2 = true)
theorem ord_last {w : Int} : ∀ {l : List (Wt × Bool)}, OrdG l.reverse → lastI (itsG l.reverse) w = (lastI (pdG l.reverse) w).or (lastI (dnG l.reverse) w)
  | [], _ => rfl
  | (x, d) :: l, h => by
    rw [List.reverse_cons] at h ⊢
    unfold OrdG at h
    rw [List.pairwise_append] at h
    have ih := ord_last (w := w) h.1
    rw [itsG_append, pdG_append, dnG_append]
    show lastI (itsG l.reverse ++ [x]) w = _
    rw [lastI_snoc]
    cases d with
    | false =>
      show _ = (lastI (pdG l.reverse ++ [x]) w).or (lastI (dnG l.reverse ++ []) w)
      rw [lastI_snoc, List.append_nil]
      cases hitW w x
      · simpa using ih
      · rfl
    | true =>
      show _ = (lastI (pdG l.reverse ++ []) w).or (lastI (dnG l.reverse ++ [x]) w)
      rw [lastI_snoc, List.append_nil]
      cases hx : hitW w x
      · simpa using ih
      · have hn : lastI (pdG l.reverse) w = none := lastI_none.mpr fun y hy => by
          cases hh : hitW w y with
          | false => rfl
          | true =>
            exfalso
            simp only [pdG, List.mem_map, List.mem_filter] at hy
            obtain ⟨p, ⟨hp, hd⟩, rfl⟩ := hy
            have h2 := (h.2.2 p hp (x, true) (by simp) rfl).2
            simp only [hitW, Bool.and_eq_true, Bool.not_eq_true', decide_eq_true_eq] at hx hh
            rw [h2 (hh.2.trans hx.2.symm)] at hd
            cases hd
        rw [hn]
        rfl
theorem ord_last' {w : Int} {l : List (Wt × Bool)} (h : OrdG l) : lastI (itsG l) w = (lastI (pdG l) w).or (lastI (dnG l) w) := by
  have := ord_last (w := w) (l := l.reverse) (by rw [List.reverse_reverse]; exact h)
  rwa [List.reverse_reverse] at this
theorem pd_split : ∀ {l : List (Wt × Bool)} {k : Nat}, k < (pdG l).length → ∃ a x b, l = a ++ (x, false) :: b ∧ (pdG a).length = k
  | [], k, h => absurd h (by simp [pdG])
  | (x, true) :: l, k, h => by
    obtain ⟨a, y, b, e, hk⟩ := pd_split (l := l) (k := k) h
    exact ⟨(x, true) :: a, y, b, by rw [e]; rfl, hk⟩
  | (x, false) :: l, 0, _ => ⟨[], x, l, rfl, rfl⟩
  | (x, false) :: l, k + 1, h => by
    obtain ⟨a, y, b, e, hk⟩ := pd_split (l := l) (k := k) (by simpa [pdG] using h)
    exact ⟨(x, false) :: a, y, b, by rw [e]; rfl, by simp [pdG] at hk ⊢; exact hk⟩
theorem eff_congr {pc : Nat} {rs : List Int} {rd rd' : Int → Int} {fr fr' : Int → Bool} {m : Nat} {op a b c : Int} (h8 : op = 8 → rd b = rd' b) (h10 : op = 10 → 0 ≤ rs.getD b.toNat 0 → rs.getD b.toNat 0 < (m : Int) → rd (rs.getD b.toNat 0) = rd' (rs.getD b.toNat 0)) (h13 : op = 13 → rd a = rd' a) (h18 : op = 18 → fr a = fr' a) : effX pc rs rd fr m op a b c = effX pc rs rd' fr' m op a b c := by
  unfold effX
  rcases op_cases op with h | rfl | rfl | rfl | rfl | rfl | rfl | rfl | rfl | rfl | rfl | rfl | rfl | rfl | rfl | rfl | rfl | rfl | rfl
  · repeat rw [if_neg (by omega)]
  all_goals simp only [Int.reduceEq, ↓reduceIte]
  · rw [h8 rfl]
  · split
    · rfl
    · rename_i h
      rw [h10 rfl (by omega) (by omega)]
  · rw [h13 rfl]
  · rw [h18 rfl]
/-- The word that a thread's next order touches, and whether it only stores there. -/
def twX (X : Nat → Nat → Nat → Int) (s : Sx) (t : Nat) : Option (Int × Bool) :=
  if opT X s t 0 = 8 then some (opT X s t 2, false)
  else if opT X s t 0 = 9 then some (opT X s t 1, true)
  else if opT X s t 0 = 10 then some (getR s t (opT X s t 2), false)
  else if opT X s t 0 = 11 then some (getR s t (opT X s t 1), true)
  else if opT X s t 0 = 13 then some (opT X s t 1, false)
  else none
/-- Two threads, both able, touch one word, and one of them stores. -/
def ClashX (L : Nat → Nat) (X : Nat → Nat → Nat → Int) (s : Sx) (a b : Nat) (w : Int) : Prop :=
  ableT L X s a = true ∧ ableT L X s b = true ∧ 0 ≤ w ∧ w < (s.words.length : Int) ∧ ∃ p q, twX X s a = some (w, p) ∧ twX X s b = some (w, q) ∧ (p || q) = true
theorem tw_op {X : Nat → Nat → Nat → Int} {s : Sx} {t : Nat} {w : Int} {p : Bool} (h : twX X s t = some (w, p)) : opT X s t 0 = 8 ∨ opT X s t 0 = 9 ∨ opT X s t 0 = 10 ∨ opT X s t 0 = 11 ∨ opT X s t 0 = 13 := by
  unfold twX at h
  repeat' split at h
  all_goals first | omega | cases h
theorem able_touch {L : Nat → Nat} {X : Nat → Nat → Nat → Int} {s : Sx} {t : Nat} (hpc : (thOf s t).pc < L t) (hw : (thOf s t).wait = []) (ho : opT X s t 0 = 8 ∨ opT X s t 0 = 9 ∨ opT X s t 0 = 10 ∨ opT X s t 0 = 11 ∨ opT X s t 0 = 13) : ableT L X s t = true := by
  unfold ableT
  rw [if_neg (by unfold endedT; simp; exact hpc), hw]
  rcases ho with e | e | e | e | e <;> rw [e] <;> rfl
/-- A state of the machine without stores that wait that goes with one of the machine with them, once I is done; thread u stands elsewhere. -/
structure Agr (n m lk : Nat) (s : Sx) (B : List Int) (I : Nat → List Wt) (u : Nat) (A : Sx) : Prop where
  len : A.ths.length = n
  th : ∀ v, v < n → v ≠ u → thOf A v = ⟨(thOf s v).pc, (thOf s v).regs, []⟩
  wl : A.words.length = m
  wd : ∀ w : Nat, w < m → A.words.getD w 0 = valW n B I w
  ol : A.own.length = lk
  ow : ∀ a : Nat, a < lk → A.own.getD a 0 = ownV n s.own I a
  fell : A.fell = false
/-- A thread that stands ahead of the order that puts x into its buffer. -/
structure HeldT (L : Nat → Nat) (X : Nat → Nat → Nat → Int) (u : Nat) (x : Wt) (A : Sx) : Prop where
  pc : (thOf A u).pc < L u
  wait : (thOf A u).wait = []
  op : x.lk = false → (opT X A u 0 = 9 ∧ opT X A u 1 = x.wh) ∨ (opT X A u 0 = 11 ∧ getR A u (opT X A u 1) = x.wh)
/-- All that was put into buffers; of thread u the first k alone. -/
def famG (g : Nat → List (Wt × Bool)) (u k : Nat) : Nat → List Wt := fun t => if t = u then (itsG (g t)).take k else itsG (g t)
structure InvR (n m lk : Nat) (L : Nat → Nat) (X : Nat → Nat → Nat → Int) (s0 s : Sx) (B : List Int) (g : Nat → List (Wt × Bool)) : Prop where
  bl : B.length = m
  wait : ∀ t, t < n → (thOf s t).wait = pdG (g t)
  lks : ∀ t, t < n → ∀ p, p ∈ g t → p.1.lk = true → p.2 = false
  ord : ∀ t, t < n → OrdG (g t)
  rng : ∀ t, t < n → ∀ p, p ∈ g t → 0 ≤ p.1.wh ∧ p.1.wh < (if p.1.lk then lk else m : Nat)
  apart : Apart n fun t => itsG (g t)
  mem : ∀ w : Nat, w < m → s.words.getD w 0 = valW n B (fun t => dnG (g t)) w
  flush : ∃ F, Rch (nxX L X 0) s0 F ∧ Agr n m lk s B (famG g n 0) n F ∧ F.prints = s.prints
  held : ∀ u, u < n → ∀ k x, (itsG (g u))[k]? = some x → ∃ H, Rch (nxX L X 0) s0 H ∧ Agr n m lk s B (famG g u k) u H ∧ HeldT L X u x H
theorem fam_at {g : Nat → List (Wt × Bool)} {u k t : Nat} (h : t ≠ u) : famG g u k t = itsG (g t) := if_neg h
theorem fam_sub {g : Nat → List (Wt × Bool)} {u k t : Nat} {x : Wt} (h : x ∈ famG g u k t) : x ∈ itsG (g t) := by
  unfold famG at h
  split at h
  · exact List.mem_of_mem_take h
  · exact h
theorem fam_none {g : Nat → List (Wt × Bool)} {u k t : Nat} {w : Int} (h : lastI (itsG (g t)) w = none) : lastI (famG g u k t) w = none := lastI_none.mpr fun x hx => lastI_none.mp h x (fam_sub hx)
theorem Apart.sub {n : Nat} {I J : Nat → List Wt} (h : Apart n I) (hs : ∀ t, t < n → ∀ w, lastI (I t) w = none → lastI (J t) w = none) : Apart n J := fun w t ht hne v hv hvt =>
  hs v hv w (h w t ht (fun e => hne (hs t ht w e)) v hv hvt)
section
variable {n m lk rg : Nat} {L : Nat → Nat} {X : Nat → Nat → Nat → Int} {mode : Int} {s0 s : Sx} {B : List Int} {g : Nat → List (Wt × Bool)}
/-- What another thread's order touches that is able, nobody has put into his buffer. -/
theorem InvR.sole (h : InvR n m lk L X s0 s B g) (hno : ∀ A, Rch (nxX L X 0) s0 A → ∀ a b w, a < n → b < n → a ≠ b → ¬ ClashX L X A a b w) {t : Nat} (ht : t < n) (ha : ableT L X s t = true) {w : Int} {p : Bool} (htw : twX X s t = some (w, p)) (h0 : 0 ≤ w) (hm : w < m) : Sole n (fun t => itsG (g t)) w t := fun v hv hvt => by
  cases e : lastI (itsG (g v)) w with
  | none => rfl
  | some y =>
    exfalso
    obtain ⟨k, x, hk, hx⟩ := lastI_some (l := itsG (g v)) (w := w) (by rw [e]; simp)
    obtain ⟨H, hR, hA, hH⟩ := h.held v hv k x hk
    have hth := hA.th t ht (fun e => hvt e.symm)
    have hop : ∀ q, opT X H t q = opT X s t q := fun q => by unfold opT; rw [hth]
    have hgr : ∀ r, getR H t r = getR s t r := fun r => by unfold getR; rw [hth]
    have htw' : twX X H t = some (w, p) := by
      rw [← htw]
      unfold twX
      simp only [hop, hgr]
    unfold hitW at hx
    simp only [Bool.and_eq_true, Bool.not_eq_true', decide_eq_true_eq] at hx
    have hv' : twX X H v = some (w, true) := by
      rcases hH.op hx.1 with ⟨e1, e2⟩ | ⟨e1, e2⟩
      · unfold twX
        rw [e1, if_neg (by decide), if_pos rfl, e2, hx.2]
      · unfold twX
        rw [e1, if_neg (by decide), if_neg (by decide), if_neg (by decide), if_pos rfl, e2, hx.2]
    refine hno H hR v t w hv ht hvt ⟨able_touch hH.pc hH.wait (tw_op hv'), able_touch ?_ ?_ (tw_op htw'), h0, by rw [hA.wl]; exact hm, true, p, hv', htw', rfl⟩
    · rw [hth]; exact able_lt ha
    · rw [hth]
/-- What a thread finds in a word that nobody else has put into his buffer. -/
theorem InvR.finds (h : InvR n m lk L X s0 s B g) {u k : Nat} {A : Sx} (hA : Agr n m lk s B (famG g u k) u A) {t : Nat} (ht : t < n) (htu : t ≠ u) {w : Int} (h0 : 0 ≤ w) (hm : w < m) (hs : Sole n (fun t => itsG (g t)) w t) : findsW A t w = findsW s t w := by
  obtain ⟨j, rfl, hj⟩ := toN ⟨h0, hm⟩
  have hth := hA.th t ht htu
  rw [findsW_bare (by rw [hth]), finds_last, h.wait t ht]
  show A.words.getD j 0 = (lastI (pdG (g t)) j).getD (s.words.getD j 0)
  rw [hA.wd j hj, h.mem j hj, val_sole ht (fun v hv hvt => fam_none (hs v hv hvt)), val_sole ht (fun v hv hvt => dn_none (hs v hv hvt)), fam_at htu, ord_last' (h.ord t ht)]
  cases lastI (pdG (g t)) j <;> rfl
theorem InvR.lock_wait (h : InvR n m lk L X s0 s B g) {t : Nat} (ht : t < n) {x : Wt} (hx : x ∈ itsG (g t)) (hl : x.lk = true) : x ∈ (thOf s t).wait := by
  rw [h.wait t ht]
  simp only [itsG, pdG, List.mem_map, List.mem_filter] at hx ⊢
  obtain ⟨p, hp, rfl⟩ := hx
  exact ⟨p, ⟨hp, by rw [h.lks t ht p hp hl]; rfl⟩, rfl⟩
theorem InvR.hit (h : InvR n m lk L X s0 s B g) (hk : LkI s) (hl : s.ths.length = n) {u k : Nat} {v : Nat} (hv : v < n) {x : Wt} {a : Int} (hx : x ∈ famG g u k v) (hh : hitL a x = true) : s.own.getD a.toNat 0 = (v : Int) ∧ x ∈ (thOf s v).wait := by
  unfold hitL at hh
  simp only [Bool.and_eq_true, decide_eq_true_eq] at hh
  have hw := h.lock_wait hv (fam_sub hx) hh.1
  have := hk.own v (by rw [hl]; exact hv) x hw hh.1
  rw [hh.2] at this
  exact ⟨this, hw⟩
theorem InvR.frees (h : InvR n m lk L X s0 s B g) (hk : LkI s) (hl : s.ths.length = n) {u k : Nat} {A : Sx} (hA : Agr n m lk s B (famG g u k) u A) {t : Nat} (ht : t < n) (htu : t ≠ u) {a : Int} (h0 : 0 ≤ a) (hm : a < lk) : freesW A t a = freesW s t a := by
  obtain ⟨j, rfl, hj⟩ := toN ⟨h0, hm⟩
  have hth := hA.th t ht htu
  unfold freesW
  rw [hth]
  show (decide (A.own.getD j 0 = (t : Int)) && true) = (decide (s.own.getD j 0 = (t : Int)) && !((thOf s t).wait.any (hitL j)))
  rw [hA.ow j hj, Bool.and_true]
  rcases own_cases (n := n) (I := famG g u k) (j : Int) with ⟨v, x, hv, hx, hh⟩ | hno
  · rw [own_yes hv hx hh]
    obtain ⟨h1, h2⟩ := h.hit hk hl hv hx hh
    have h1' : s.own.getD j 0 = (v : Int) := h1
    rw [h1']
    by_cases e : v = t
    · subst e
      rw [List.any_eq_true.mpr ⟨x, h2, hh⟩]
      simp
    · have e1 : ¬ ((-1 : Int) = (t : Int)) := by omega
      have e2 : ¬ ((v : Int) = (t : Int)) := by omega
      rw [decide_eq_false e1, decide_eq_false e2]; rfl
  · rw [own_not hno]
    have : (thOf s t).wait.any (hitL j) = false := by
      rw [List.any_eq_false]
      intro x hx
      have := hno t ht x (by rw [fam_at htu]; rw [h.wait t ht] at hx; exact mem_pd hx)
      rw [this]; simp
    rw [this]
    simp
theorem ok_lt {s : Sx} (hc : COk n L X m lk rg) {t : Nat} (ht : t < n) (ha : ableT L X s t = true) : ordE rg m lk (L t) (opT X s t 0) (opT X s t 1) (opT X s t 2) (opT X s t 3) = 0 := hc.ord t _ ht (able_lt ha)
/-- An order does the same without stores that wait. -/
theorem InvR.eff (h : InvR n m lk L X s0 s B g) (hs : SOk n L m lk rg mode s) (hc : COk n L X m lk rg) (hk : LkI s) (hno : ∀ A, Rch (nxX L X 0) s0 A → ∀ a b w, a < n → b < n → a ≠ b → ¬ ClashX L X A a b w) {u k : Nat} {A : Sx} (hA : Agr n m lk s B (famG g u k) u A) {t : Nat} (ht : t < n) (htu : t ≠ u) (ha : ableT L X s t = true) : effT X A t = effT X s t := by
  have hth := hA.th t ht htu
  have hop : ∀ q, opT X A t q = opT X s t q := fun q => by unfold opT; rw [hth]
  have hor := ok_lt hc ht ha
  unfold effT
  rw [hth, hA.wl, hs.words]
  simp only [hop]
  refine eff_congr (fun e => ?_) (fun e h1 h2 => ?_) (fun e => ?_) (fun e => ?_)
  · rw [e] at hor
    have hb := (ok_load hor).2
    exact h.finds hA ht htu hb.1 hb.2 (h.sole hno ht ha (p := false) (by unfold twX; rw [if_pos e]) hb.1 hb.2)
  · exact h.finds hA ht htu h1 h2 (h.sole hno ht ha (p := false) (by unfold twX; rw [e, if_neg (by decide), if_neg (by decide), if_pos rfl]; rfl) h1 h2)
  · rw [e] at hor
    have hb := (ok_cas hor).1
    exact h.finds hA ht htu hb.1 hb.2 (h.sole hno ht ha (p := false) (by unfold twX; rw [e, if_neg (by decide), if_neg (by decide), if_neg (by decide), if_neg (by decide), if_pos rfl]) hb.1 hb.2)
  · rw [e] at hor
    have hb := ok_lock (Or.inr rfl) hor
    exact h.frees hk hs.ths hA ht htu hb.1 hb.2
theorem Agr.able (hc : COk n L X m lk rg) {u : Nat} {I : Nat → List Wt} {A : Sx} (hA : Agr n m lk s B I u A) {t : Nat} (ht : t < n) (htu : t ≠ u) (ha : ableT L X s t = true) : ableT L X A t = true := by
  have hth := hA.th t ht htu
  have hop : ∀ q, opT X A t q = opT X s t q := fun q => by unfold opT; rw [hth]
  have hor := ok_lt hc ht ha
  have hlt := able_lt ha
  unfold ableT at ha ⊢
  rw [if_neg (by unfold endedT; rw [hth]; simp; exact hlt)]
  rw [if_neg (by unfold endedT; simp; exact hlt)] at ha
  simp only [hop, hth, List.length_nil] at ha ⊢
  split
  · rfl
  rename_i e1
  rw [if_neg e1] at ha
  split
  · rfl
  rename_i e2
  rw [if_neg e2] at ha
  split
  · rename_i e3
    rw [if_pos e3] at ha
    rw [e3] at hor
    obtain ⟨j, hj, hjl⟩ := toN (ok_lock (Or.inl rfl) hor)
    simp only [Bool.and_eq_true, decide_eq_true_eq] at ha ⊢
    refine ⟨trivial, ?_⟩
    rw [hj] at ha ⊢
    show A.own.getD j 0 = -1
    rw [hA.ow j hjl]
    rcases own_cases (n := n) (I := I) (j : Int) with ⟨v, x, hv, hx, hh⟩ | hno
    · exact own_yes hv hx hh
    · rw [own_not hno]; exact ha.2
  · rfl
end
section
variable {n m lk rg : Nat} {L : Nat → Nat} {X : Nat → Nat → Nat → Int} {mode : Int} {s0 s A : Sx} {B : List Int} {I : Nat → List Wt} {u : Nat}
def updI {α : Type} (I : Nat → α) (t : Nat) (l : α) : Nat → α := fun v => if v = t then l else I v
theorem updI_at {α : Type} (I : Nat → α) (t : Nat) (l : α) : updI I t l t = l := if_pos rfl
theorem updI_ne {α : Type} (I : Nat → α) {t v : Nat} (h : v ≠ t) (l : α) : updI I t l v = I v := if_neg h
theorem Agr.congrI (h : Agr n m lk s B I u A) {J : Nat → List Wt} (e : ∀ v, v < n → I v = J v) : Agr n m lk s B J u A :=
  ⟨h.len, h.th, h.wl, fun w hw => (h.wd w hw).trans (val_congr (fun t ht => by rw [e t ht]) fun _ => rfl), h.ol, fun a ha => (h.ow a ha).trans (own_congr (fun t ht => by rw [e t ht]) rfl), h.fell⟩
/-- Another thread than the one that stands elsewhere goes on. -/
theorem Agr.setT (h : Agr n m lk s B I u A) (hl : s.ths.length = n) {t : Nat} (ht : t < n) (p : Nat) (r : List Int) (wt : List Wt) : Agr n m lk (setTh s t ⟨p, r, wt⟩) B I u (setTh A t ⟨p, r, []⟩) :=
  ⟨by rw [ths_set]; exact h.len, fun v hv hvu => by
    rw [thOf_set (by rw [h.len]; exact ht), thOf_set (by rw [hl]; exact ht)]
    by_cases e : v = t
    · rw [if_pos e, if_pos e]
    · rw [if_neg e, if_neg e]; exact h.th v hv hvu, h.wl, h.wd, h.ol, h.ow, h.fell⟩
/-- The one that stands elsewhere goes on. -/
theorem Agr.setU (h : Agr n m lk s B I u A) (hl : s.ths.length = n) (hu : u < n) (y : Th) : Agr n m lk (setTh s u y) B I u A :=
  ⟨h.len, fun v hv hvu => by
    rw [thOf_set (by rw [hl]; exact hu), if_neg hvu]
    exact h.th v hv hvu, h.wl, h.wd, h.ol, h.ow, h.fell⟩
theorem Agr.prints (h : Agr n m lk s B I u A) (l r : List Int) : Agr n m lk { s with prints := l } B I u { A with prints := r } := ⟨h.len, h.th, h.wl, h.wd, h.ol, h.ow, h.fell⟩
theorem Agr.wordsS (h : Agr n m lk s B I u A) (l : List Int) : Agr n m lk { s with words := l } B I u A := ⟨h.len, h.th, h.wl, h.wd, h.ol, h.ow, h.fell⟩
theorem getD_set (l : List Int) (i j : Nat) (v : Int) (hi : i < l.length) : (l.set i v).getD j 0 = if j = i then v else l.getD j 0 := by
  simp only [List.getD, List.getElem?_set]
  by_cases h : i = j
  · subst h; simp [hi]
  · rw [if_neg h, if_neg (fun e => h e.symm)]
/-- What is put into a buffer is done at once. -/
theorem Agr.push (h : Agr n m lk s B I u A) {t : Nat} (ht : t < n) (x : Wt) (hs : x.lk = false → Sole n I x.wh t) (hr : 0 ≤ x.wh ∧ x.wh < (if x.lk then lk else m : Nat)) : Agr n m lk s B (updI I t (I t ++ [x])) u (doneW A x) := by
  cases hk : x.lk with
  | false =>
    rw [hk] at hr
    simp only [Bool.false_eq_true, ↓reduceIte] at hr
    obtain ⟨j, hj, hjm⟩ := toN hr
    have hso := hs hk
    have e : doneW A x = { A with words := A.words.set j x.what } := by unfold doneW; rw [hk, hj]; rfl
    rw [e]
    refine ⟨h.len, h.th, by show (A.words.set _ _).length = m; simpa using h.wl, fun w hw => ?_, h.ol, fun a ha => ?_, h.fell⟩
    · show (A.words.set j x.what).getD w 0 = _
      rw [getD_set _ _ _ _ (by rw [h.wl]; exact hjm)]
      by_cases e : w = j
      · subst e
        rw [if_pos rfl, val_sole ht (fun v hv hvt => by rw [updI_ne _ hvt]; rw [← hj]; exact hso v hv hvt), updI_at, lastI_snoc, if_pos (by unfold hitW; rw [hk, hj]; simp)]
        rfl
      · rw [if_neg e, h.wd w hw]
        refine val_congr (fun v hv => ?_) fun _ => rfl
        by_cases ev : v = t
        · rw [ev, updI_at, lastI_snoc, if_neg]
          unfold hitW
          rw [hj]
          simp only [Bool.and_eq_true, decide_eq_true_eq, not_and]
          intro _ e1; omega
        · rw [updI_ne _ ev]
    · refine (h.ow a ha).trans (own_congr (fun v hv => ?_) rfl)
      by_cases ev : v = t
      · rw [ev, updI_at, List.any_append]
        have : hitL a x = false := by unfold hitL; rw [hk]; rfl
        simp [this]
      · rw [updI_ne _ ev]
  | true =>
    rw [hk] at hr
    simp only [↓reduceIte] at hr
    obtain ⟨j, hj, hjm⟩ := toN hr
    have e : doneW A x = { A with own := A.own.set j (-1) } := by unfold doneW; rw [hk, hj]; rfl
    rw [e]
    refine ⟨h.len, h.th, h.wl, fun w hw => ?_, by show (A.own.set _ _).length = lk; simpa using h.ol, fun a ha => ?_, h.fell⟩
    · refine (h.wd w hw).trans (val_congr (fun v hv => ?_) fun _ => rfl)
      by_cases ev : v = t
      · rw [ev, updI_at, lastI_snoc, if_neg]
        unfold hitW; rw [hk]; simp
      · rw [updI_ne _ ev]
    · show (A.own.set j (-1)).getD a 0 = _
      rw [getD_set _ _ _ _ (by rw [h.ol]; exact hjm)]
      by_cases e : a = j
      · subst e
        rw [if_pos rfl]
        exact (own_yes (t := t) (x := x) ht (by rw [updI_at]; simp) (by unfold hitL; rw [hk, hj]; simp)).symm
      · rw [if_neg e, h.ow a ha]
        refine own_congr (fun v hv => ?_) rfl
        by_cases ev : v = t
        · rw [ev, updI_at, List.any_append]
          have : hitL a x = false := by
            unfold hitL
            rw [hj]
            simp only [Bool.and_eq_false_imp, decide_eq_false_iff_not]
            intro _ e1; omega
          simp [this]
        · rw [updI_ne _ ev]
theorem Agr.take (h : Agr n m lk s B I u A) (hol : s.own.length = lk) {a : Nat} (ha : a < lk) (hn : ∀ t, t < n → ∀ x, x ∈ I t → hitL a x = false) (v : Int) : Agr n m lk { s with own := s.own.set a v } B I u { A with own := A.own.set a v } :=
  ⟨h.len, h.th, h.wl, h.wd, by show (A.own.set _ _).length = lk; simpa using h.ol, fun b hb => by
    show (A.own.set a v).getD b 0 = ownV n (s.own.set a v) I b
    rw [getD_set _ _ _ _ (by rw [h.ol]; exact ha)]
    by_cases e : b = a
    · subst e
      rw [if_pos rfl, own_not hn]
      show _ = (s.own.set b v).getD b 0
      rw [getD_set _ _ _ _ (by rw [hol]; exact ha), if_pos rfl]
    · rw [if_neg e, h.ow b hb]
      refine own_congr (fun _ _ => rfl) ?_
      show s.own.getD b 0 = (s.own.set a v).getD b 0
      rw [getD_set _ _ _ _ (by rw [hol]; exact ha), if_neg e], h.fell⟩
theorem val_set {n m : Nat} {B : List Int} {I : Nat → List Wt} (hB : B.length = m) {a : Nat} (ha : a < m) (hn : ∀ t, t < n → lastI (I t) (a : Int) = none) (v : Int) (w : Nat) : valW n (B.set a v) I (w : Int) = if w = a then v else valW n B I (w : Int) := by
  by_cases e : w = a
  · subst e
    rw [if_pos rfl, val_none hn]
    show (B.set w v).getD w 0 = v
    rw [getD_set _ _ _ _ (by rw [hB]; exact ha), if_pos rfl]
  · rw [if_neg e]
    refine val_congr (fun _ _ => rfl) fun _ => ?_
    show (B.set a v).getD w 0 = B.getD w 0
    rw [getD_set _ _ _ _ (by rw [hB]; exact ha), if_neg e]
theorem Agr.swap (h : Agr n m lk s B I u A) (hB : B.length = m) {a : Nat} (ha : a < m) (hn : ∀ t, t < n → lastI (I t) (a : Int) = none) (v : Int) : Agr n m lk s (B.set a v) I u { A with words := A.words.set a v } :=
  ⟨h.len, h.th, by show (A.words.set _ _).length = m; simpa using h.wl, fun w hw => by
    show (A.words.set a v).getD w 0 = _
    rw [val_set hB ha hn, getD_set _ _ _ _ (by rw [h.wl]; exact ha), h.wd w hw], h.ol, h.ow, h.fell⟩
theorem HeldT.same {x : Wt} {A' : Sx} (h : HeldT L X u x A) (e : thOf A' u = thOf A u) : HeldT L X u x A' :=
  ⟨by rw [e]; exact h.pc, by rw [e]; exact h.wait, fun hx => by
    have := h.op hx
    unfold opT getR at this ⊢
    rw [e]; exact this⟩
end
theorem eff_put {pc : Nat} {rs : List Int} {rd : Int → Int} {fr : Int → Bool} {m : Nat} {op a b c : Int} {p : Nat} {r : List Int} {y v : Int} (h : effX pc rs rd fr m op a b c = some (p, r, .put y v)) : (op = 9 ∧ a = y) ∨ (op = 11 ∧ rs.getD a.toNat 0 = y ∧ 0 ≤ y ∧ y < (m : Int)) := by
  unfold effX at h
  rcases op_cases op with h1 | rfl | rfl | rfl | rfl | rfl | rfl | rfl | rfl | rfl | rfl | rfl | rfl | rfl | rfl | rfl | rfl | rfl | rfl
  · repeat rw [if_neg (by omega)] at h
    cases h
  all_goals simp only [Int.reduceEq, ↓reduceIte] at h
  all_goals (repeat' split at h)
  all_goals first
    | (cases h; done)
    | skip
  · cases h; exact Or.inl ⟨rfl, rfl⟩
  · cases h
    exact Or.inr ⟨rfl, rfl, by omega, by omega⟩
theorem eff_free {pc : Nat} {rs : List Int} {rd : Int → Int} {fr : Int → Bool} {m : Nat} {op a b c : Int} {p : Nat} {r : List Int} {y : Int} (h : effX pc rs rd fr m op a b c = some (p, r, .free y)) : op = 18 ∧ a = y := by
  unfold effX at h
  rcases op_cases op with h1 | rfl | rfl | rfl | rfl | rfl | rfl | rfl | rfl | rfl | rfl | rfl | rfl | rfl | rfl | rfl | rfl | rfl | rfl
  · repeat rw [if_neg (by omega)] at h
    cases h
  all_goals simp only [Int.reduceEq, ↓reduceIte] at h
  all_goals (repeat' split at h)
  all_goals first
    | (cases h; done)
    | skip
  · cases h; exact ⟨rfl, rfl⟩
theorem eff_take {pc : Nat} {rs : List Int} {rd : Int → Int} {fr : Int → Bool} {m : Nat} {op a b c : Int} {p : Nat} {r : List Int} {y : Int} (h : effX pc rs rd fr m op a b c = some (p, r, .take y)) : op = 17 ∧ a = y := by
  unfold effX at h
  rcases op_cases op with h1 | rfl | rfl | rfl | rfl | rfl | rfl | rfl | rfl | rfl | rfl | rfl | rfl | rfl | rfl | rfl | rfl | rfl | rfl
  · repeat rw [if_neg (by omega)] at h
    cases h
  all_goals simp only [Int.reduceEq, ↓reduceIte] at h
  all_goals (repeat' split at h)
  all_goals first
    | (cases h; done)
    | skip
  · cases h; exact ⟨rfl, rfl⟩
theorem eff_swap {pc : Nat} {rs : List Int} {rd : Int → Int} {fr : Int → Bool} {m : Nat} {op a b c : Int} {p : Nat} {r : List Int} {y v : Int} (h : effX pc rs rd fr m op a b c = some (p, r, .swap y v)) : op = 13 ∧ a = y := by
  unfold effX at h
  rcases op_cases op with h1 | rfl | rfl | rfl | rfl | rfl | rfl | rfl | rfl | rfl | rfl | rfl | rfl | rfl | rfl | rfl | rfl | rfl | rfl
  · repeat rw [if_neg (by omega)] at h
    cases h
  all_goals simp only [Int.reduceEq, ↓reduceIte] at h
  all_goals (repeat' split at h)
  all_goals first
    | (cases h; done)
    | skip
  · cases h; exact ⟨rfl, rfl⟩

end Go.Proofs.YtgofbkgfonlceacGreatDoor
