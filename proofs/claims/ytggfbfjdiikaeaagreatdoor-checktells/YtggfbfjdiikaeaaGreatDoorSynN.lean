/-
  There are no more nodes than tokens.
  Trees that stand in rows; how long what is printed of them is.
  Programs that may be, and of what their names are: chapter 10 as plain functions of trees.
  There are no more tokens than bytes.
  A region that only reads, in a round of a range over a function.
-/
import Derived.Test.YtggfbfjdiikaeaaGreatDoorSynX
import Derived.Test.YtggfbfjdiikaeaaGreatDoorSynE
import Derived.Test.YtggfbfjdiikaeaaGreatDoorBase
import Derived.Sort.BigQuietIn
import Derived.OwnWalkIn
namespace Go.Proofs.YtggfbfjdiikaeaaGreatDoor
section
section
variable {e : Int}
theorem prim_size {x : Nd} {l r : List Tok} (h : primT e l = .ok (x, r)) : ndSize x + r.length ≤ l.length := by
  have hl := prim_len h
  have hs : ndSize x = 1 := by
    unfold primT at h
    split at h
    · have h1 := Except.ok.inj h
      simp only [Prod.mk.injEq] at h1
      rw [← h1.1]; rfl
    · split at h
      · have h1 := Except.ok.inj h
        simp only [Prod.mk.injEq] at h1
        rw [← h1.1]; rfl
      · cases h
  omega
theorem size_one (k n p : Int) (t : List UInt8) (a : Nd) : ndSize (.mk k n p t [a]) = ndSize a + 1 := by simp [ndSize, ndsSize]
theorem size_two (k n p : Int) (t : List UInt8) (a b : Nd) : ndSize (.mk k n p t [a, b]) = ndSize a + ndSize b + 1 := by simp [ndSize, ndsSize]
theorem size_three (k n p : Int) (t : List UInt8) (a b c : Nd) : ndSize (.mk k n p t [a, b, c]) = ndSize a + ndSize b + ndSize c + 1 := by simp [ndSize, ndsSize]; omega
theorem size_none (k n p : Int) (t : List UInt8) : ndSize (.mk k n p t []) = 1 := rfl
theorem expr_size : ∀ n, (∀ k d l x r, exprF e n k d l = some (.ok (x, r)) → ndSize x + r.length ≤ l.length) ∧ (∀ k d y l x r, loopF e n k d y l = some (.ok (x, r)) → ndSize x + r.length ≤ ndSize y + l.length) ∧ (∀ d l x r, unaryF e n d l = some (.ok (x, r)) → ndSize x + r.length ≤ l.length) ∧ ∀ d l x r, heldF e n d l = some (.ok (x, r)) → ndSize x + r.length ≤ l.length
  | 0 => ⟨fun _ _ _ _ _ h => by (rw [exprF] at h; cases h), fun _ _ _ _ _ _ h => by (rw [loopF] at h; cases h), fun _ _ _ _ h => by (rw [unaryF] at h; cases h), fun _ _ _ _ h => by (rw [heldF] at h; cases h)⟩
  | n + 1 => by
    obtain ⟨h1, h2, h3, h4⟩ := expr_size n
    refine ⟨fun k d l x r h => ?_, fun k d y l x r h => ?_, fun d l x r h => ?_, fun d l x r h => ?_⟩
    · rw [exprF] at h
      split at h
      · exact h3 _ _ _ _ h
      · obtain ⟨a, q, ha, h⟩ := andT_ok h
        have k1 := h1 _ _ _ _ _ ha
        have k2 := h2 _ _ _ _ _ _ h
        omega
    · rw [loopF] at h
      split at h
      · obtain ⟨rfl, rfl⟩ := ok_inj h
        exact Nat.le_refl _
      · rename_i t q hs
        obtain ⟨a, q2, ha, h⟩ := andT_ok h
        have k0 := sign_tl hs
        have k1 := h1 _ _ _ _ _ ha
        have k2 := h2 _ _ _ _ _ _ h
        rw [size_two] at k2
        omega
    · rw [unaryF] at h
      split at h
      · obtain ⟨q, hq, h⟩ := thenT_ok h
        obtain ⟨a, q2, ha, h⟩ := andT_ok h
        obtain ⟨rfl, rfl⟩ := ok_inj h
        have k0 := open_len hq
        have k1 := h3 _ _ _ _ ha
        rw [size_one]
        omega
      · split at h
        · obtain ⟨q, hq, h⟩ := thenT_ok h
          obtain ⟨a, q2, ha, h⟩ := andT_ok h
          obtain ⟨rfl, rfl⟩ := ok_inj h
          have k0 := open_len hq
          have k1 := h3 _ _ _ _ ha
          rw [size_one]
          omega
        · split at h
          · exact h4 _ _ _ _ h
          · exact prim_size (Option.some.inj h)
    · rw [heldF] at h
      obtain ⟨q, hq, h⟩ := thenT_ok h
      obtain ⟨a, q2, ha, h⟩ := andT_ok h
      obtain ⟨q3, hq3, h⟩ := thenT_ok h
      obtain ⟨rfl, rfl⟩ := ok_inj h
      have k0 := open_len hq
      have k1 := h1 _ _ _ _ _ ha
      have k2 := take_len hq3
      omega
theorem et_size {β : Type} {n d : Nat} {s : List UInt8} {l r : List Tok} {f : Nd → List Tok → Option (TRes β)} {y : β} (h : exprThen e n d s l f = some (.ok (y, r))) : ∃ a q, f a q = some (.ok (y, r)) ∧ ndSize a + q.length + 1 ≤ l.length := by
  unfold exprThen at h
  obtain ⟨a, q, ha, h⟩ := andT_ok h
  obtain ⟨q2, hq, h⟩ := thenT_ok h
  have k1 := (expr_size n).1 _ _ _ _ _ ha
  have k2 := take_len hq
  exact ⟨a, q2, h, by omega⟩
theorem word_tail {l : List Tok} {s : List UInt8} (h : wordOf l = s) (hs : s ≠ []) : l.tail.length + 1 ≤ l.length := by
  match l, h with
  | [], h => exact absurd h.symm hs
  | t :: r, _ => simp
theorem assign_size {n d : Nat} {l r : List Tok} {x : Nd} (h : assignF e n d l = some (.ok (x, r))) : ndSize x + r.length ≤ l.length := by
  unfold assignF at h
  obtain ⟨s, q, hs, h⟩ := nameThen_ok h
  obtain ⟨q1, hq1, h⟩ := thenT_ok h
  have k1 := name_len hs
  have k2 := take_len hq1
  split at h
  · obtain ⟨q2, hq2, h⟩ := thenT_ok h
    obtain ⟨q3, hq3, h⟩ := thenT_ok h
    obtain ⟨s2, q4, hs4, h⟩ := nameThen_ok h
    obtain ⟨q5, hq5, h⟩ := thenT_ok h
    obtain ⟨a, q6, h, k6⟩ := et_size h
    obtain ⟨b, q7, h, k7⟩ := et_size h
    obtain ⟨q8, hq8, h⟩ := thenT_ok h
    obtain ⟨rfl, rfl⟩ := ok_inj h
    have := take_len hq2
    have := open_len hq3
    have := name_len hs4
    have := take_len hq5
    have := take_len hq8
    rw [size_three, size_none]
    omega
  · obtain ⟨a, q6, h, k6⟩ := et_size h
    obtain ⟨rfl, rfl⟩ := ok_inj h
    rw [size_one]
    omega
theorem plain_size {n d : Nat} {l r : List Tok} {x : Nd} (h : plainF e n d l = some (.ok (x, r))) : ndSize x + r.length ≤ l.length := by
  unfold plainF at h
  split at h
  · rename_i hw
    have kt := word_tail hw (by decide)
    obtain ⟨s, q, hs, h⟩ := nameThen_ok h
    obtain ⟨q1, hq1, h⟩ := thenT_ok h
    obtain ⟨a, q6, h, k6⟩ := et_size h
    obtain ⟨rfl, rfl⟩ := ok_inj h
    have k1 := name_len hs
    have k2 := take_len hq1
    rw [size_one]
    omega
  · split at h
    · rename_i hw
      have kt := word_tail hw (by decide)
      obtain ⟨a, q, ha, h⟩ := andT_ok h
      obtain ⟨q1, hq1, h⟩ := thenT_ok h
      obtain ⟨rfl, rfl⟩ := ok_inj h
      have k1 := (expr_size n).2.2.2 _ _ _ _ ha
      have k2 := take_len hq1
      rw [size_one]
      omega
    · split at h
      · obtain ⟨q1, hq1, h⟩ := thenT_ok h
        obtain ⟨s, q, hs, h⟩ := nameThen_ok h
        obtain ⟨q2, hq2, h⟩ := thenT_ok h
        obtain ⟨q3, hq3, h⟩ := thenT_ok h
        obtain ⟨rfl, rfl⟩ := ok_inj h
        have k1 := open_len hq1
        have k2 := name_len hs
        have k3 := take_len hq2
        have k4 := take_len hq3
        have k5 := tail_le l
        rw [size_none]
        omega
      · split at h
        · obtain ⟨q1, hq1, h⟩ := thenT_ok h
          obtain ⟨rfl, rfl⟩ := ok_inj h
          have k1 := take_len hq1
          have k5 := tail_le l
          rw [size_none]
          omega
        · exact assign_size h
theorem sizes_snoc : ∀ (ks : List Nd) (x : Nd), ndsSize (ks ++ [x]) = ndsSize ks + ndSize x
  | [], x => by simp [ndsSize]
  | a :: r, x => by simp [ndsSize, sizes_snoc r x]; omega
theorem stmt_size : ∀ n, (∀ d l x r, stmtF e n d l = some (.ok (x, r)) → ndSize x + r.length ≤ l.length) ∧ (∀ d l x r, blockF e n d l = some (.ok (x, r)) → ndSize x + r.length ≤ l.length) ∧ ∀ d ks l x r, stmtsF e n d ks l = some (.ok (x, r)) → ndsSize x + r.length ≤ ndsSize ks + l.length
  | 0 => ⟨fun _ _ _ _ h => by (rw [stmtF] at h; cases h), fun _ _ _ _ h => by (rw [blockF] at h; cases h), fun _ _ _ _ _ h => by (rw [stmtsF] at h; cases h)⟩
  | n + 1 => by
    obtain ⟨h1, h2, h3⟩ := stmt_size n
    refine ⟨fun d l x r h => ?_, fun d l x r h => ?_, fun d ks l x r h => ?_⟩
    · rw [stmtF] at h
      split at h
      · rename_i hw
        have kt := word_tail hw (by decide)
        obtain ⟨a, q, ha, h⟩ := andT_ok h
        obtain ⟨b, q1, hb, h⟩ := andT_ok h
        have k1 := (expr_size n).2.2.2 _ _ _ _ ha
        have k2 := h2 _ _ _ _ hb
        split at h
        · obtain ⟨c, q2, hc, h⟩ := andT_ok h
          obtain ⟨rfl, rfl⟩ := ok_inj h
          have k3 := h2 _ _ _ _ hc
          have k4 := tail_le q1
          rw [size_three]
          omega
        · obtain ⟨rfl, rfl⟩ := ok_inj h
          rw [size_two]
          omega
      · split at h
        · rename_i hw
          have kt := word_tail hw (by decide)
          obtain ⟨a, q, ha, h⟩ := andT_ok h
          obtain ⟨b, q1, hb, h⟩ := andT_ok h
          obtain ⟨rfl, rfl⟩ := ok_inj h
          have k1 := (expr_size n).2.2.2 _ _ _ _ ha
          have k2 := h2 _ _ _ _ hb
          rw [size_two]
          omega
        · exact plain_size h
    · rw [blockF] at h
      obtain ⟨q, hq, h⟩ := thenT_ok h
      obtain ⟨a, q1, ha, h⟩ := andT_ok h
      obtain ⟨q2, hq2, h⟩ := thenT_ok h
      obtain ⟨rfl, rfl⟩ := ok_inj h
      have k1 := open_len hq
      have k2 := h3 _ _ _ _ _ ha
      have k3 := take_len hq2
      simp only [ndsSize] at k2
      show ndsSize a + 1 + _ ≤ _
      omega
    · rw [stmtsF] at h
      split at h
      · obtain ⟨rfl, rfl⟩ := ok_inj h
        exact Nat.le_refl _
      · obtain ⟨a, q1, ha, h⟩ := andT_ok h
        have k1 := h1 _ _ _ _ ha
        have k2 := h3 _ _ _ _ _ h
        rw [sizes_snoc] at k2
        omega
mutual
theorem flat_len : ∀ (x : Nd) (b : Nat), (flat b x).length = ndSize x
  | .mk k n p t ks, b => by rw [flat, List.length_append, flats_len ks b, ndSize]; rfl
theorem flats_len : ∀ (ks : List Nd) (b : Nat), (flats b ks).length = ndsSize ks
  | [], b => rfl
  | x :: r, b => by rw [flats, List.length_append, flat_len x b, flats_len r, ndsSize]
end
theorem flats_snoc : ∀ (ks : List Nd) (x : Nd) (b : Nat), flats b (ks ++ [x]) = flats b ks ++ flat (b + ndsSize ks) x
  | [], x, b => by simp [flats, ndsSize]
  | a :: r, x, b => by
    rw [List.cons_append, flats, flats_snoc r x, flats, ndsSize, List.append_assoc, Nat.add_assoc]
theorem idxs_snoc : ∀ (ks : List Nd) (x : Nd) (b : Nat), idxs b (ks ++ [x]) = idxs b ks ++ [(((b + ndsSize ks + ndSize x : Nat) : Int) - 1)]
  | [], x, b => by simp [idxs, ndsSize]
  | a :: r, x, b => by
    rw [List.cons_append, idxs, idxs_snoc r x, idxs, ndsSize, List.cons_append]
    congr 3
    omega
end
end

section
theorem size_pos (x : Nd) : 1 ≤ ndSize x := by
  cases x with
  | mk k n p t ks => rw [ndSize]; omega
theorem lvl_len {t : List UInt8} (h : 0 ≤ lvl t) : t.length ≤ 2 := by
  unfold lvl at h
  split at h
  · rename_i e; rw [e]; decide
  · split at h
    · rename_i e; rw [e]; decide
    · split at h
      · rename_i e; rcases e with e | e | e | e | e | e <;> (rw [e]; decide)
      · split at h
        · rename_i e; rcases e with e | e <;> (rw [e]; decide)
        · split at h
          · rename_i e; rw [e]; decide
          · omega
/-- What an expression is. -/
theorem wfx_cases {x : Nd} (h : WfX x) : (∃ n p, x = .mk 15 n p [] [] ∧ 0 ≤ n ∧ n ≤ 999999999) ∨ (∃ p t, x = .mk 16 0 p t [] ∧ NameOk t) ∨ (∃ k p a, x = .mk k 0 p [] [a] ∧ (k = 17 ∨ k = 18) ∧ WfX a) ∨ (∃ p t a b, x = .mk 19 0 p t [a, b] ∧ 0 ≤ lvl t ∧ WfX a ∧ WfX b) := by
  match x, h with
  | .mk k n p t ks, h =>
    unfold WfX at h
    rcases h with ⟨rfl, h0, h9, rfl, rfl⟩ | ⟨hk, rfl, hw⟩
    · exact Or.inl ⟨n, p, rfl, h0, h9⟩
    · match ks, hw with
      | [], hw => exact Or.inr (Or.inl ⟨p, t, by rw [hw.1], hw.2⟩)
      | [a], hw => exact Or.inr (Or.inr (Or.inl ⟨k, p, a, by rw [hw.2.1], hw.1, hw.2.2⟩))
      | [a, b], hw => exact Or.inr (Or.inr (Or.inr ⟨p, t, a, b, by rw [hw.1], hw.2⟩))
end

section
/-- A row by its number. -/
def rowA (rows : List Row) (i : Nat) : Row := rows.getD i ⟨0, 0, 0, [], []⟩
/-- What is known: scopes, the innermost first, each with the nodes that made names, the last first; how many of a kind; of what each name is. -/
structure Cs where
  sc : List (List Nat)
  cn : Int → Nat
  us : List Int
abbrev CRes := Except (Int × Int) Cs
def CRes.and (x : CRes) (f : Cs → CRes) : CRes := match x with
  | .error e => .error e
  | .ok s => f s
/-- The nearest node that made a name. -/
def findC (rows : List Row) (sc : List (List Nat)) (t : List UInt8) : Option Nat := sc.flatten.find? fun d => decide ((rowA rows d).text = t)
def twiceC (rows : List Row) (s : Cs) (i : Nat) : Bool := (s.sc.headD []).any fun d => decide ((rowA rows d).text = (rowA rows i).text)
/-- One more name of the innermost scope. -/
def pushC (s : Cs) (i : Nat) : Cs := { s with sc := (i :: s.sc.headD []) :: s.sc.tail }
/-- One more of a kind. -/
def moreC (s : Cs) (k : Int) : Cs := { s with cn := fun q => if q = k then s.cn k + 1 else s.cn q }
def putC (rows : List Row) (i : Nat) (s : Cs) : CRes := if twiceC rows s i then .error (8, (rowA rows i).pos) else .ok (pushC s i)
def mostC (rows : List Row) (i : Nat) (m : Nat) (s : Cs) : CRes := if m ≤ s.cn (rowA rows i).kind then .error (1, (rowA rows i).pos) else .ok (moreC s (rowA rows i).kind)
/-- A name of a node that is of some kinds. -/
def useC (rows : List Row) (i : Nat) (p : Int → Bool) (s : Cs) : CRes := match findC rows s.sc (rowA rows i).text with
  | none => .error (7, (rowA rows i).pos)
  | some d => if p (rowA rows d).kind then .ok { s with us := s.us.set i (d : Int) } else .error (9, (rowA rows i).pos)
def isVar (k : Int) : Bool := k == 2 || k == 6
def isLok (k : Int) : Bool := k == 3
def isGlo (k : Int) : Bool := k == 2
/-- What is asked of a node itself. -/
def lookC (rows : List Row) (k : Int) (i : Nat) (s : Cs) : CRes :=
  if k = 2 then (putC rows i s).and (mostC rows i 16)
  else if k = 3 then (putC rows i s).and (mostC rows i 4)
  else if k = 4 then mostC rows i 4 s
  else if k = 6 then putC rows i s
  else if k = 16 ∨ k = 7 ∨ k = 8 then useC rows i isVar s
  else if k = 12 ∨ k = 13 then useC rows i isLok s
  else .ok s
mutual
/-- A tree whose nodes are numbered from b on. -/
def ckN (rows : List Row) : Nd → Nat → Cs → CRes
  | .mk k _ _ _ ks, b, s => if k = 5 then ((ckNs rows false ks b { s with sc := [] :: s.sc }).and fun s' => .ok { s' with sc := s'.sc.tail }).and (lookC rows k (b + ndsSize ks)) else (ckNs rows (k == 8) ks b s).and (lookC rows k (b + ndsSize ks))
/-- .. trees one behind the other; where c stands, the first one is a name that is to be of a global. -/
def ckNs (rows : List Row) (c : Bool) : List Nd → Nat → Cs → CRes
  | [], _, s => .ok s
  | x :: r, b, s => (if c then useC rows (b + ndSize x - 1) isGlo s else ckN rows x b s).and (ckNs rows false r (b + ndSize x))
end
def cs0 (n : Nat) : Cs := ⟨[[]], fun _ => 0, List.replicate n (-1)⟩
/-- Check's answer of a program. -/
def checkC (ks : List Nd) : Except (Int × Int) (List Int) := match ckNs (rowsP ks) false ks 0 (cs0 (rowsP ks).length) with
  | .error f => .error f
  | .ok s => if s.cn 4 = 0 then .error (1, 0) else .ok s.us

/-- A tree's rows stand in rows, from b on. -/
def FAt (rows : List Row) (x : Nd) (b : Nat) : Prop := ∃ pre post, rows = pre ++ flat b x ++ post ∧ pre.length = b
def FsAt (rows : List Row) (ks : List Nd) (b : Nat) : Prop := ∃ pre post, rows = pre ++ flats b ks ++ post ∧ pre.length = b
section
variable {rows : List Row}
theorem FAt.kids {k n p : Int} {t : List UInt8} {ks : List Nd} {b : Nat} (h : FAt rows (.mk k n p t ks) b) : FsAt rows ks b := by
  obtain ⟨pre, post, rfl, hl⟩ := h
  rw [flat]
  exact ⟨pre, [⟨k, n, p, t, idxs b ks⟩] ++ post, by simp, hl⟩
theorem FAt.row {k n p : Int} {t : List UInt8} {ks : List Nd} {b : Nat} (h : FAt rows (.mk k n p t ks) b) : rows[b + ndsSize ks]? = some ⟨k, n, p, t, idxs b ks⟩ := by
  obtain ⟨pre, post, rfl, hl⟩ := h
  rw [flat, ← hl, ← flats_len ks pre.length, ← List.length_append, ← List.append_assoc, List.append_assoc (pre ++ flats pre.length ks), List.getElem?_append_right (Nat.le_refl _), Nat.sub_self]
  rfl
theorem FAt.rowA {k n p : Int} {t : List UInt8} {ks : List Nd} {b : Nat} (h : FAt rows (.mk k n p t ks) b) : rowA rows (b + ndsSize ks) = ⟨k, n, p, t, idxs b ks⟩ := by
  unfold Go.Proofs.YtggfbfjdiikaeaaGreatDoor.rowA
  rw [List.getD_eq_getElem?_getD, h.row]
  rfl
theorem FAt.lt {x : Nd} {b : Nat} (h : FAt rows x b) : b + ndSize x ≤ rows.length := by
  obtain ⟨pre, post, rfl, hl⟩ := h
  rw [List.length_append, List.length_append, flat_len]
  omega
theorem FsAt.head {x : Nd} {r : List Nd} {b : Nat} (h : FsAt rows (x :: r) b) : FAt rows x b ∧ FsAt rows r (b + ndSize x) := by
  obtain ⟨pre, post, rfl, hl⟩ := h
  rw [flats]
  refine ⟨⟨pre, flats (b + ndSize x) r ++ post, by simp, hl⟩, ⟨pre ++ flat b x, post, by simp, by rw [List.length_append, flat_len, hl]⟩⟩
theorem FsAt.all (ks : List Nd) : FsAt (rowsP ks) ks 0 := ⟨[], [⟨1, 0, 0, [], idxs 0 ks⟩], by simp [rowsP], rfl⟩

/-- What is well of what is known. -/
structure CsOk (rows : List Row) (s : Cs) : Prop where
  mem : ∀ S, S ∈ s.sc → ∀ d, d ∈ S → d < rows.length ∧ ((rowA rows d).kind = 2 ∨ (rowA rows d).kind = 3 ∨ (rowA rows d).kind = 6)
  one : ∀ S, S ∈ s.sc → S.Pairwise fun d e => (rowA rows d).text ≠ (rowA rows e).text
  ne : s.sc ≠ []
  us : s.us.length = rows.length
  cn : ∀ k, s.cn k ≤ 16
  c4 : s.cn 3 ≤ 4 ∧ s.cn 4 ≤ 4
theorem find_mem {sc : List (List Nat)} {t : List UInt8} {d : Nat} (h : findC rows sc t = some d) : (∃ S, S ∈ sc ∧ d ∈ S) ∧ (rowA rows d).text = t := by
  unfold findC at h
  have h1 := List.mem_of_find?_eq_some h
  have h2 := List.find?_some h
  refine ⟨?_, by simpa using h2⟩
  rw [List.mem_flatten] at h1
  exact h1
theorem CRes.and_ok {x : CRes} {f : Cs → CRes} {s : Cs} (h : x.and f = .ok s) : ∃ s1, x = .ok s1 ∧ f s1 = .ok s := by
  cases x with
  | error e => cases h
  | ok s1 => exact ⟨s1, rfl, h⟩
/-- From one state to a later one: outer scopes stay, the innermost grows by at most m names. -/
structure Grw (rows : List Row) (m : Nat) (s s' : Cs) : Prop where
  sc : s'.sc.tail = s.sc.tail
  hd : ∃ T, s'.sc.headD [] = T ++ s.sc.headD [] ∧ T.length ≤ m
  ok : CsOk rows s → CsOk rows s'
  ne : s.sc ≠ [] → s'.sc ≠ []
theorem Grw.refl (s : Cs) : Grw rows 0 s s := ⟨rfl, ⟨[], rfl, Nat.le_refl _⟩, id, id⟩
theorem Grw.mono {m m' : Nat} {s s' : Cs} (h : Grw rows m s s') (hm : m ≤ m') : Grw rows m' s s' := by
  obtain ⟨T, e, hl⟩ := h.hd
  exact ⟨h.sc, ⟨T, e, Nat.le_trans hl hm⟩, h.ok, h.ne⟩
theorem Grw.trans {m m' : Nat} {s s' s'' : Cs} (h : Grw rows m s s') (k : Grw rows m' s' s'') : Grw rows (m + m') s s'' := by
  obtain ⟨T, e, hl⟩ := h.hd
  obtain ⟨T', e', hl'⟩ := k.hd
  exact ⟨k.sc.trans h.sc, ⟨T' ++ T, by rw [e', e, List.append_assoc], by rw [List.length_append]; omega⟩, fun q => k.ok (h.ok q), fun q => k.ne (h.ne q)⟩
theorem sc_cons {s : Cs} (h : s.sc ≠ []) : s.sc = s.sc.headD [] :: s.sc.tail := by
  cases e : s.sc with
  | nil => exact absurd e h
  | cons a r => rfl
theorem put_ok {i : Nat} {s s' : Cs} (h : putC rows i s = .ok s') (hi : i < rows.length) (hk : (rowA rows i).kind = 2 ∨ (rowA rows i).kind = 3 ∨ (rowA rows i).kind = 6) : Grw rows 1 s s' ∧ s'.cn = s.cn := by
  unfold putC at h
  split at h
  · cases h
  · rename_i ht
    obtain rfl := (Except.ok.inj h).symm
    refine ⟨⟨rfl, ⟨[i], rfl, Nat.le_refl _⟩, fun q => ?_, fun _ => by simp [pushC]⟩, rfl⟩
    have hsc := sc_cons q.ne
    refine ⟨?_, ?_, by simp [pushC], q.us, q.cn, q.c4⟩
    · intro S hS d hd
      rcases List.mem_cons.1 hS with rfl | hS
      · rcases List.mem_cons.1 hd with rfl | hd
        · exact ⟨hi, hk⟩
        · exact q.mem _ (by rw [hsc]; exact List.mem_cons_self ..) d hd
      · exact q.mem S (by rw [hsc]; exact List.mem_cons_of_mem _ hS) d hd
    · intro S hS
      rcases List.mem_cons.1 hS with rfl | hS
      · refine List.Pairwise.cons (fun e he hc => ht ?_) (q.one _ (by rw [hsc]; exact List.mem_cons_self ..))
        unfold twiceC
        rw [List.any_eq_true]
        exact ⟨e, he, by simpa using hc.symm⟩
      · exact q.one S (by rw [hsc]; exact List.mem_cons_of_mem _ hS)
theorem most_ok {i m : Nat} {s s' : Cs} (h : mostC rows i m s = .ok s') (hm : m ≤ 16) (hm4 : (rowA rows i).kind = 2 ∨ m ≤ 4) : Grw rows 0 s s' := by
  unfold mostC at h
  split at h
  · cases h
  · rename_i ht
    obtain rfl := (Except.ok.inj h).symm
    refine ⟨rfl, ⟨[], rfl, Nat.le_refl _⟩, fun q => ⟨q.mem, q.one, q.ne, q.us, fun k => ?_, ?_, ?_⟩, id⟩
    · show (if k = _ then _ else _) ≤ 16
      split
      · omega
      · exact q.cn k
    · show (if (3 : Int) = _ then _ else _) ≤ 4
      split
      · omega
      · exact q.c4.1
    · show (if (4 : Int) = _ then _ else _) ≤ 4
      split
      · omega
      · exact q.c4.2
theorem use_ok {i : Nat} {p : Int → Bool} {s s' : Cs} (h : useC rows i p s = .ok s') : Grw rows 0 s s' := by
  unfold useC at h
  split at h
  · cases h
  · split at h
    · obtain rfl := (Except.ok.inj h).symm
      exact ⟨rfl, ⟨[], rfl, Nat.le_refl _⟩, fun q => ⟨q.mem, q.one, q.ne, by simp [q.us], q.cn, q.c4⟩, id⟩
    · cases h
theorem look_ok {i : Nat} {k : Int} {s s' : Cs} (h : lookC rows k i s = .ok s') (hi : i < rows.length) (hk : (rowA rows i).kind = k) : Grw rows 1 s s' := by
  unfold lookC at h
  split at h
  · rename_i h2
    obtain ⟨s1, h3, h4⟩ := CRes.and_ok h
    exact (put_ok h3 hi (Or.inl (by omega))).1.trans (most_ok h4 (by decide) (Or.inl (by omega)))
  · split at h
    · rename_i h2
      obtain ⟨s1, h3, h4⟩ := CRes.and_ok h
      exact (put_ok h3 hi (Or.inr (Or.inl (by omega)))).1.trans (most_ok h4 (by decide) (Or.inr (by decide)))
    · split at h
      · exact (most_ok h (by decide) (Or.inr (by decide))).mono (by decide)
      · split at h
        · rename_i h2
          exact (put_ok h hi (Or.inr (Or.inr (by omega)))).1
        · split at h
          · exact (use_ok h).mono (by decide)
          · split at h
            · exact (use_ok h).mono (by decide)
            · obtain rfl := (Except.ok.inj h).symm
              exact (Grw.refl _).mono (by decide)
mutual
theorem ck_ok : ∀ (x : Nd) (b : Nat) (s s' : Cs), FAt rows x b → ckN rows x b s = .ok s' → s.sc ≠ [] → Grw rows (ndSize x) s s'
  | .mk k n p t ks, b, s, s', hf, h, hne => by
    have hi : b + ndsSize ks < rows.length := by have := hf.lt; rw [ndSize] at this; omega
    have hk : (rowA rows (b + ndsSize ks)).kind = k := by rw [hf.rowA]
    rw [ckN] at h
    rw [ndSize]
    split at h
    · obtain ⟨s1, h1, h2⟩ := CRes.and_ok h
      obtain ⟨s2, h3, h4⟩ := CRes.and_ok h1
      obtain rfl := (Except.ok.inj h4).symm
      have g := cks_ok ks false b _ s2 hf.kids h3 (by simp)
      have e : s2.sc.tail = s.sc := g.sc
      have g1 : Grw rows 0 s { s2 with sc := s2.sc.tail } := by
        refine ⟨by rw [e], ⟨[], by rw [e]; rfl, Nat.le_refl _⟩, fun q => ?_, fun q => by rw [e]; exact q⟩
        have q2 := g.ok ⟨fun S hS d hd => by
          rcases List.mem_cons.1 hS with rfl | hS
          · cases hd
          · exact q.mem S hS d hd, fun S hS => by
          rcases List.mem_cons.1 hS with rfl | hS
          · exact List.Pairwise.nil
          · exact q.one S hS, by simp, q.us, q.cn, q.c4⟩
        exact ⟨fun S hS => q2.mem S (List.mem_of_mem_tail hS), fun S hS => q2.one S (List.mem_of_mem_tail hS), by rw [e]; exact q.ne, q2.us, q2.cn, q2.c4⟩
      exact (g1.trans (look_ok h2 hi hk)).mono (by omega)
    · obtain ⟨s1, h1, h2⟩ := CRes.and_ok h
      exact ((cks_ok ks _ b s s1 hf.kids h1 hne).trans (look_ok h2 hi hk)).mono (by omega)
theorem cks_ok : ∀ (ks : List Nd) (c : Bool) (b : Nat) (s s' : Cs), FsAt rows ks b → ckNs rows c ks b s = .ok s' → s.sc ≠ [] → Grw rows (ndsSize ks) s s'
  | [], _, b, s, s', _, h, _ => by
    rw [ckNs] at h
    obtain rfl := (Except.ok.inj h).symm
    exact Grw.refl _
  | x :: r, c, b, s, s', hf, h, hne => by
    rw [ckNs] at h
    obtain ⟨s1, h1, h2⟩ := CRes.and_ok h
    obtain ⟨f1, f2⟩ := hf.head
    rw [ndsSize]
    split at h1
    · have g := use_ok h1
      exact (g.trans (cks_ok r false _ s1 s' f2 h2 (g.ne hne))).mono (by omega)
    · have g := ck_ok x b s s1 f1 h1 hne
      exact g.trans (cks_ok r false _ s1 s' f2 h2 (g.ne hne))
end
end
end

section
theorem scanF_len : ∀ (f i : Nat) (l : List UInt8) (acc : List Tok), (scanF f i l acc).1.length ≤ acc.length + l.length
  | 0, _, _, acc => by simp [scanF]
  | f + 1, i, l, acc => by
    rw [scanF]
    split
    · simp
    · split
      · simp
      · split
        · simp
        · rename_i k v m h
          have h1 := oneL_len h
          have h2 := scanF_len f (i + (skipL false l).1 + m) ((l.drop (skipL false l).1).drop m) (acc ++ [⟨k, v, ((i + (skipL false l).1 : Nat) : Int), (l.drop (skipL false l).1).take m⟩])
          simp only [List.length_append, List.length_cons, List.length_nil, List.length_drop] at h1 h2 ⊢
          omega
theorem scanL_len (l : List UInt8) : (scanL l).1.length ≤ 4000 := by
  unfold scanL
  split
  · simp
  · have := scanF_len (l.length + 1) 0 l []
    simp only [List.length_nil] at this
    omega
end

section
open Go.RowKit

section
variable {lp n : Nat} {P : Program} {ops : Array Oper} {Q : Exit → Act → World → Prop}
theorem upon_round {o : Oper} {a : Act} {next : Act → World → Prop} {r : Result Next} (h : o.uponIn Fence.wide n P a next Q r) : o.uponIn (Fence.wide.inRound lp) n P a next Q r := by
  cases r with
  | ok x w =>
    cases x with
    | value v => exact h
    | skip => exact h
    | defer d => exact h
    | enter f args => exact h
    | row row args => exact h
    | round l f tmps assign body => exact h
    | _ => exact h
  | halt x w => cases x <;> exact h
theorem ops_round (hd : ∀ (i : Nat) (o : Oper), ops[i]? = some o → ∀ c, o.op ≠ Op.defer c) : ∀ (l : List Nat) (a : Act) (w : World), wpOpsIn Fence.wide n P ops Q l a w → wpOpsIn (Fence.wide.inRound lp) n P ops Q l a w
  | [], _, _, h => h
  | i :: rest, a, w, h => by
    rw [wpOpsIn] at h ⊢
    cases ho : ops[i]? with
    | none =>
      rw [ho] at h
      exact ops_round hd rest a w h
    | some o =>
      rw [ho] at h
      simp only at h ⊢
      split
      · rename_i hw
        rw [if_pos hw] at h
        have h2 := Oper.wpIn_mono (fun a w => ops_round hd rest a w) h
        refine ⟨fun _ _ => trivial, ?_⟩
        have h3 := h2.2
        rw [Oper.semAt_plain _ _ _ (hd i o ho)] at h3 ⊢
        exact upon_round h3
      · rename_i hw
        rw [if_neg hw] at h
        exact ⟨fun _ _ => trivial, ops_round hd rest _ w h.2⟩
def noDef (o : Oper) : Bool := match o.op with
  | .defer _ => false
  | _ => true
theorem region_round {id : Nat} {a : Act} {w : World} {l : List Oper} (hd : l.all noDef = true) (hm : P.follows .mixedOrders = true) (hB : Region.lexB .any l.toArray = true)
    (h : wpQuietIn Fence.wide n P l.toArray (fun w' => ∃ n, w' = w.drewN n) (fun a' => ∀ w', (∃ n, w' = w.drewN n) → Q .normal a' w') l a) : (Code.region id l.toArray true).wpIn (Fence.wide.inRound lp) n P Q a w := by
  have hd2 : ∀ (i : Nat) (o : Oper), l.toArray[i]? = some o → ∀ c, o.op ≠ Op.defer c := fun i o ho c hc => by
    have hm := List.mem_of_getElem? (by simpa using ho : l[i]? = some o)
    have := List.all_eq_true.1 hd o hm
    unfold noDef at this
    rw [hc] at this
    cases this
  refine wpIn_region_draw fun t => ops_round hd2 _ _ _ ?_
  simp only [Region.schedule, hm, Bool.true_or, if_true]
  refine wpAnyIn_sound _ t _ a _ ?_
  simp only [Region.lexB, Bool.and_eq_true] at hB
  refine wpAnyIn_of_quiet (F := Fence.wide) (C := fun w' => ∃ n, w' = w.drewN n) (Q := fun a' => ∀ w', (∃ n, w' = w.drewN n) → Q .normal a' w') rfl (fun _ w' hw' h => h w' hw') _ _ _ _ ⟨1, rfl⟩ ?_
  have := wpAnyQIn_lex (F := Fence.wide) (n := n) (C := fun w' => ∃ n, w' = w.drewN n) (md := .any) hB.1 l.toArray.toList 0 (Array.replicate l.toArray.size false) a (by simp) (by simpa using hB.2) (by simpa using h)
  simpa using this
end
end

end Go.Proofs.YtggfbfjdiikaeaaGreatDoor
