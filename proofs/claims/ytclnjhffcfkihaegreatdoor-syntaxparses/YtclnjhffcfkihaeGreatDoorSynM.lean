/-
  Chapter 9's plain functions: more of what bounds them tells nothing else.
  Expressions as they are printed: their tokens, how deep they are, and that they are read as they were.
  What is read as an expression is one, and not too deep.
  Statements as they are printed: their tokens, how deep they are, and that they are read as they were.
  What is read as a statement or a block is one, and not too deep.
-/
import Derived.Test.YtclnjhffcfkihaeGreatDoorSynP
import Derived.Lib.ItoaNum
namespace Go.Proofs.YtclnjhffcfkihaeGreatDoor
section
/-- What is told is told there, too. -/
def Le {α : Type} (x y : Option α) : Prop := ∀ r, x = some r → y = some r
theorem Le.refl {α : Type} (x : Option α) : Le x x := fun _ h => h
theorem le_none {α : Type} (y : Option α) : Le none y := fun _ h => by cases h
theorem andT_le {α β : Type} {x y : Option (TRes α)} {f g : α → List Tok → Option (TRes β)} (h : Le x y) (hf : ∀ a l, Le (f a l) (g a l)) : Le (andT x f) (andT y g) := by
  intro r hr
  unfold andT at hr ⊢
  match x, h, hr with
  | some (.error q), h, hr => rw [h _ rfl]; exact hr
  | some (.ok (a, l)), h, hr => rw [h _ rfl]; exact hf _ _ _ hr
theorem thenT_le {β : Type} {x : Except (Int × Int) (List Tok)} {f g : List Tok → Option (TRes β)} (hf : ∀ l, Le (f l) (g l)) : Le (thenT x f) (thenT x g) := by
  intro r hr
  unfold thenT at hr ⊢
  match x, hr with
  | .error q, hr => exact hr
  | .ok l, hr => exact hf _ _ hr
theorem nameThen_le {β : Type} {x : TRes (List UInt8)} {f g : List UInt8 → List Tok → Option (TRes β)} (hf : ∀ s l, Le (f s l) (g s l)) : Le (nameThen x f) (nameThen x g) := by
  intro r hr
  unfold nameThen at hr ⊢
  match x, hr with
  | .error q, hr => exact hr
  | .ok (s, l), hr => exact hf _ _ _ hr
theorem ite_le {α : Type} {c : Prop} [Decidable c] {x y x' y' : Option α} (h : Le x x') (h' : Le y y') : Le (if c then x else y) (if c then x' else y') := by
  split
  · exact h
  · exact h'

theorem expr_le (e : Int) : ∀ n, (∀ k d l, Le (exprF e n k d l) (exprF e (n + 1) k d l)) ∧ (∀ k d x l, Le (loopF e n k d x l) (loopF e (n + 1) k d x l)) ∧ (∀ d l, Le (unaryF e n d l) (unaryF e (n + 1) d l)) ∧ (∀ d l, Le (heldF e n d l) (heldF e (n + 1) d l))
  | 0 => ⟨fun _ _ _ => by rw [exprF]; exact le_none _, fun _ _ _ _ => by rw [loopF]; exact le_none _, fun _ _ => by rw [unaryF]; exact le_none _, fun _ _ => by rw [heldF]; exact le_none _⟩
  | n + 1 => by
    obtain ⟨h1, h2, h3, h4⟩ := expr_le e n
    refine ⟨fun k d l => ?_, fun k d x l => ?_, fun d l => ?_, fun d l => ?_⟩
    · rw [exprF, exprF]
      exact ite_le (h3 _ _) (andT_le (h1 _ _ _) fun _ _ => h2 _ _ _ _)
    · rw [loopF, loopF]
      split
      · exact Le.refl _
      · exact andT_le (h1 _ _ _) fun _ _ => h2 _ _ _ _
    · rw [unaryF, unaryF]
      exact ite_le (thenT_le fun _ => andT_le (h3 _ _) fun _ _ => Le.refl _) (ite_le (thenT_le fun _ => andT_le (h3 _ _) fun _ _ => Le.refl _) (ite_le (h4 _ _) (Le.refl _)))
    · rw [heldF, heldF]
      exact thenT_le fun _ => andT_le (h1 _ _ _) fun _ _ => Le.refl _
theorem exprThen_le {β : Type} {e : Int} {n d : Nat} {s : List UInt8} {l : List Tok} {f g : Nd → List Tok → Option (TRes β)} (hf : ∀ x q, Le (f x q) (g x q)) : Le (exprThen e n d s l f) (exprThen e (n + 1) d s l g) :=
  andT_le ((expr_le e n).1 _ _ _) fun _ _ => thenT_le fun _ => hf _ _
theorem assign_le (e : Int) (n d : Nat) (l : List Tok) : Le (assignF e n d l) (assignF e (n + 1) d l) := by
  unfold assignF
  refine nameThen_le fun _ _ => thenT_le fun _ => ite_le ?_ ?_
  · exact thenT_le fun _ => thenT_le fun _ => nameThen_le fun _ _ => thenT_le fun _ => exprThen_le fun _ _ => exprThen_le fun _ _ => Le.refl _
  · exact exprThen_le fun _ _ => Le.refl _
theorem plain_le (e : Int) (n d : Nat) (l : List Tok) : Le (plainF e n d l) (plainF e (n + 1) d l) := by
  unfold plainF
  refine ite_le (nameThen_le fun _ _ => thenT_le fun _ => exprThen_le fun _ _ => Le.refl _) (ite_le (andT_le ((expr_le e n).2.2.2 _ _) fun _ _ => Le.refl _) (ite_le (Le.refl _) (ite_le (Le.refl _) (assign_le _ _ _ _))))
theorem stmt_le (e : Int) : ∀ n, (∀ d l, Le (stmtF e n d l) (stmtF e (n + 1) d l)) ∧ (∀ d l, Le (blockF e n d l) (blockF e (n + 1) d l)) ∧ (∀ d ks l, Le (stmtsF e n d ks l) (stmtsF e (n + 1) d ks l))
  | 0 => ⟨fun _ _ => by rw [stmtF]; exact le_none _, fun _ _ => by rw [blockF]; exact le_none _, fun _ _ _ => by rw [stmtsF]; exact le_none _⟩
  | n + 1 => by
    obtain ⟨h1, h2, h3⟩ := stmt_le e n
    refine ⟨fun d l => ?_, fun d l => ?_, fun d ks l => ?_⟩
    · rw [stmtF, stmtF]
      refine ite_le (andT_le ((expr_le e n).2.2.2 _ _) fun _ _ => andT_le (h2 _ _) fun _ _ => ite_le (andT_le (h2 _ _) fun _ _ => Le.refl _) (Le.refl _)) (ite_le (andT_le ((expr_le e n).2.2.2 _ _) fun _ _ => andT_le (h2 _ _) fun _ _ => Le.refl _) (plain_le _ _ _ _))
    · rw [blockF, blockF]
      exact thenT_le fun _ => andT_le (h3 _ _ _) fun _ _ => Le.refl _
    · rw [stmtsF, stmtsF]
      exact ite_le (Le.refl _) (andT_le (h1 _ _) fun _ _ => h3 _ _ _)
theorem threads_le (e : Int) : ∀ n ks l, Le (threadsF e n ks l) (threadsF e (n + 1) ks l)
  | 0, _, _ => by rw [threadsF]; exact le_none _
  | n + 1, ks, l => by
    rw [threadsF, threadsF]
    exact ite_le (Le.refl _) (thenT_le fun _ => andT_le ((stmt_le e n).2.1 _ _) fun _ _ => threads_le e n _ _)
theorem le_add {α : Type} {f : Nat → Option α} (h : ∀ n, Le (f n) (f (n + 1))) (n : Nat) : ∀ m, Le (f n) (f (n + m))
  | 0 => Le.refl _
  | m + 1 => fun r hr => h (n + m) r (le_add h n m r hr)
/-- Two bounds tell the same. -/
theorem le_same {α : Type} {f : Nat → Option α} (h : ∀ n, Le (f n) (f (n + 1))) {n m : Nat} {r q : α} (hr : f n = some r) (hq : f m = some q) : r = q := by
  have h1 := le_add h n m r hr
  have h2 := le_add h m n q hq
  rw [Nat.add_comm] at h2
  rw [h1] at h2
  exact Option.some.inj h2
end

section
/-- A token without its byte. -/
abbrev Tk := Int × Int × List UInt8
/-- How tight an expression binds. -/
def bindX : Nd → Int
  | .mk k _ _ t _ => if k = 19 then lvl t else 5
/-- An expression's tokens. -/
def toksX : Nd → List Tk
  | .mk k n _ t ks => if k = 15 then [(3, n, Lib.decDigits n.toNat)] else match ks with
    | [] => [(1, 0, t)]
    | [a] => (4, 0, if k = 17 then [45] else [33]) :: (if bindX a < 5 then [(4, 0, [40])] ++ toksX a ++ [(4, 0, [41])] else toksX a)
    | a :: b :: _ => (if bindX a < lvl t then [(4, 0, [40])] ++ toksX a ++ [(4, 0, [41])] else toksX a) ++ [(4, 0, t)] ++ (if bindX b < lvl t + 1 then [(4, 0, [40])] ++ toksX b ++ [(4, 0, [41])] else toksX b)
/-- What is a name. -/
def NameOk (t : List UInt8) : Prop := (∃ b r, t = b :: r ∧ isLet b = true ∧ r.all isNam = true) ∧ t.length ≤ 12 ∧ isWord t = false
theorem lvl_le (s : List UInt8) : lvl s ≤ 4 := by
  unfold lvl
  split
  · omega
  · split
    · omega
    · split
      · omega
      · split
        · omega
        · split <;> omega

/-- No sign that binds so tight stands next. -/
def NoSign (k : Nat) : List Tok → Prop
  | [] => True
  | t :: _ => t.kind = 4 → lvl t.text < (k : Int)
theorem NoSign.none {k j : Nat} {l : List Tok} (h : NoSign k l) (hj : k ≤ j) : signAt j l = none := by
  match l, h with
  | [], _ => rfl
  | t :: r, h =>
    rw [signAt, if_neg]
    rintro ⟨h1, h2⟩
    have := h h1
    omega
theorem NoSign.up {k j : Nat} {l : List Tok} (h : NoSign k l) (hj : k ≤ j) : NoSign j l := by
  match l, h with
  | [], _ => trivial
  | t :: r, h => exact fun h1 => by have := h h1; omega

section
variable {e : Int} {d : Nat}
theorem tell_more {α : Type} {f : Nat → Option α} (h : ∀ n, Le (f n) (f (n + 1))) {n m : Nat} {r : α} (hr : f n = some r) (hm : n ≤ m) : f m = some r := by
  obtain ⟨j, rfl⟩ := Nat.exists_eq_add_of_le hm
  exact le_add h n j r hr
theorem ex_up (k : Nat) (l : List Tok) : ∀ n, Le (exprF e n k d l) (exprF e (n + 1) k d l) := fun n => (expr_le e n).1 k d l
theorem lo_up (k : Nat) (x : Nd) (l : List Tok) : ∀ n, Le (loopF e n k d x l) (loopF e (n + 1) k d x l) := fun n => (expr_le e n).2.1 k d x l
theorem un_up (l : List Tok) : ∀ n, Le (unaryF e n d l) (unaryF e (n + 1) d l) := fun n => (expr_le e n).2.2.1 d l
theorem he_up (l : List Tok) : ∀ n, Le (heldF e n d l) (heldF e (n + 1) d l) := fun n => (expr_le e n).2.2.2 d l

end
end

section
/-- What is a token. -/
def TokOk (t : Tok) : Prop := (t.kind = 1 ∧ t.num = 0 ∧ NameOk t.text) ∨ (t.kind = 2 ∧ t.num = 0 ∧ isWord t.text = true) ∨ (t.kind = 3 ∧ 0 ≤ t.num ∧ t.num ≤ 999999999 ∧ t.text = Lib.decDigits t.num.toNat) ∨ (t.kind = 4 ∧ t.num = 0 ∧ (t.text ∈ twoL ∨ ∃ b, t.text = [b] ∧ b ∈ oneS))
def ToksOk (l : List Tok) : Prop := ∀ t, t ∈ l → TokOk t
theorem ToksOk.tail {l : List Tok} (h : ToksOk l) : ToksOk l.tail := fun t ht => h t (List.mem_of_mem_tail ht)

theorem andT_ok {α β : Type} {x : Option (TRes α)} {f : α → List Tok → Option (TRes β)} {y : β} {r : List Tok} (h : andT x f = some (.ok (y, r))) : ∃ a l, x = some (.ok (a, l)) ∧ f a l = some (.ok (y, r)) := by
  unfold andT at h
  match x, h with
  | some (.error q), h => cases h
  | some (.ok (a, l)), h => exact ⟨a, l, rfl, h⟩
theorem thenT_ok {β : Type} {x : Except (Int × Int) (List Tok)} {f : List Tok → Option (TRes β)} {y : β} {r : List Tok} (h : thenT x f = some (.ok (y, r))) : ∃ l, x = .ok l ∧ f l = some (.ok (y, r)) := by
  unfold thenT at h
  match x, h with
  | .error q, h => cases h
  | .ok l, h => exact ⟨l, rfl, h⟩
theorem nameThen_ok {β : Type} {x : TRes (List UInt8)} {f : List UInt8 → List Tok → Option (TRes β)} {y : β} {r : List Tok} (h : nameThen x f = some (.ok (y, r))) : ∃ s l, x = .ok (s, l) ∧ f s l = some (.ok (y, r)) := by
  unfold nameThen at h
  match x, h with
  | .error q, h => cases h
  | .ok (s, l), h => exact ⟨s, l, rfl, h⟩
theorem take_ok {e : Int} {s : List UInt8} {l r : List Tok} (h : takeT e s l = .ok r) : isTok s l = true ∧ r = l.tail := by
  unfold takeT at h
  split at h
  · rename_i h1; exact ⟨h1, by cases h; rfl⟩
  · cases h
theorem open_ok {e : Int} {s : List UInt8} {d : Nat} {l r : List Tok} (h : openT e s d l = .ok r) : isTok s l = true ∧ d ≠ 20 ∧ r = l.tail := by
  unfold openT at h
  split at h
  · cases h
  · rename_i h1
    have h2 := take_ok h
    exact ⟨h2.1, fun hd => h1 ⟨h2.1, hd⟩, h2.2⟩
theorem name_ok {e : Int} {s : List UInt8} {l r : List Tok} (hl : ToksOk l) (h : nameT e l = .ok (s, r)) : NameOk s ∧ r = l.tail := by
  match l, h with
  | t :: q, h =>
    rw [nameT] at h
    split at h
    · rename_i h1
      have h2 : (t.text, q) = (s, r) := Except.ok.inj h
      simp only [Prod.mk.injEq] at h2
      obtain ⟨rfl, rfl⟩ := h2
      rcases hl t (by simp) with h3 | h3 | h3 | h3
      · exact ⟨h3.2.2, rfl⟩
      · omega
      · omega
      · omega
    · cases h
theorem sign_at {k : Nat} {l r : List Tok} {t : Tok} (h : signAt k l = some (t, r)) : lvl t.text = (k : Int) ∧ r = l.tail := by
  match l, h with
  | u :: q, h =>
    rw [signAt] at h
    split at h
    · rename_i h1
      simp only [Option.some.injEq, Prod.mk.injEq] at h
      obtain ⟨rfl, rfl⟩ := h
      exact ⟨h1.2, rfl⟩
    · cases h
end

section
def partsT (k : Int) (t : List UInt8) (ps : List (List Tk)) : List Tk :=
  if k = 5 then (4, 0, [123]) :: (ps.flatten ++ [(4, 0, [125])])
  else if k = 6 then (2, 0, wInt) :: (1, 0, t) :: (4, 0, [61]) :: (ps.getD 0 [] ++ [(4, 0, [59])])
  else if k = 7 then (1, 0, t) :: (4, 0, [61]) :: (ps.getD 0 [] ++ [(4, 0, [59])])
  else if k = 8 then (1, 0, t) :: (4, 0, [61]) :: (2, 0, wCas) :: (4, 0, [40]) :: (ps.getD 0 [] ++ (4, 0, [44]) :: (ps.getD 1 [] ++ (4, 0, [44]) :: (ps.getD 2 [] ++ [(4, 0, [41]), (4, 0, [59])])))
  else if k = 9 then (2, 0, wIf) :: (4, 0, [40]) :: (ps.getD 0 [] ++ (4, 0, [41]) :: (ps.getD 1 [] ++ match ps.drop 2 with
    | [] => []
    | c :: _ => (2, 0, wElse) :: c))
  else if k = 10 then (2, 0, wWhile) :: (4, 0, [40]) :: (ps.getD 0 [] ++ (4, 0, [41]) :: ps.getD 1 [])
  else if k = 11 then (2, 0, wPrint) :: (4, 0, [40]) :: (ps.getD 0 [] ++ [(4, 0, [41]), (4, 0, [59])])
  else if k = 12 then [(2, 0, wLock), (4, 0, [40]), (1, 0, t), (4, 0, [41]), (4, 0, [59])]
  else if k = 13 then [(2, 0, wUnlock), (4, 0, [40]), (1, 0, t), (4, 0, [41]), (4, 0, [59])]
  else [(2, 0, wFence), (4, 0, [59])]
mutual
/-- A node's tokens. -/
def toksN : Nd → List Tk
  | .mk k n p t ks => if 15 ≤ k then toksX (.mk k n p t ks) else partsT k t (toksNs ks)
def toksNs : List Nd → List (List Tk)
  | [] => []
  | x :: r => toksN x :: toksNs r
end

section
variable {e : Int}
theorem st_up (d : Nat) (l : List Tok) : ∀ n, Le (stmtF e n d l) (stmtF e (n + 1) d l) := fun n => (stmt_le e n).1 d l
theorem bl_up (d : Nat) (l : List Tok) : ∀ n, Le (blockF e n d l) (blockF e (n + 1) d l) := fun n => (stmt_le e n).2.1 d l
theorem ss_up (d : Nat) (ks : List Nd) (l : List Tok) : ∀ n, Le (stmtsF e n d ks l) (stmtsF e (n + 1) d ks l) := fun n => (stmt_le e n).2.2 d ks l
end
end

section
section
variable {e : Int}
theorem ok_inj {α : Type} {a b : α} {l r : List Tok} (h : (some (Except.ok (a, l)) : Option (TRes α)) = some (.ok (b, r))) : a = b ∧ l = r := by
  have := Except.ok.inj (Option.some.inj h)
  simpa using this
end
end

end Go.Proofs.YtclnjhffcfkihaeGreatDoor
