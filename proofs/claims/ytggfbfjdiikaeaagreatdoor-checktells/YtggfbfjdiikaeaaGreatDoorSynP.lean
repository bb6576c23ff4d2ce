/-
  Chapter 9 as plain functions of tokens: the nodes of a text as trees, and as they are numbered.
  Chapter 9's plain functions: more of what bounds them tells nothing else.
  Expressions as they are printed: their tokens, how deep they are, and that they are read as they were.
-/
import Derived.Test.YtggfbfjdiikaeaaGreatDoorBase
import Derived.Lib.ItoaNum
namespace Go.Proofs.YtggfbfjdiikaeaaGreatDoor
section
/-- A node, with what is below it: its kind, its number, its byte, its text, its kids. -/
inductive Nd where
  | mk (kind num pos : Int) (text : List UInt8) (kids : List Nd)

mutual
/-- How many nodes there are. -/
def ndSize : Nd → Nat
  | .mk _ _ _ _ ks => ndsSize ks + 1
def ndsSize : List Nd → Nat
  | [] => 0
  | x :: r => ndSize x + ndsSize r
end
/-- A node as it is numbered: its kids by their numbers. -/
structure Row where
  kind : Int
  num : Int
  pos : Int
  text : List UInt8
  kids : List Int
/-- The numbers of trees that stand one behind the other, b nodes ahead of them. -/
def idxs (b : Nat) : List Nd → List Int
  | [] => []
  | x :: r => (((b + ndSize x : Nat) : Int) - 1) :: idxs (b + ndSize x) r
mutual
/-- A tree's nodes in their order, b nodes ahead of them. -/
def flat (b : Nat) : Nd → List Row
  | .mk k n p t ks => flats b ks ++ [⟨k, n, p, t, idxs b ks⟩]
def flats (b : Nat) : List Nd → List Row
  | [] => []
  | x :: r => flat b x ++ flats (b + ndSize x) r
end

/-- What is told: a fault's code and byte, or what was read and what is left. -/
abbrev TRes (α : Type) := Except (Int × Int) (α × List Tok)

/-- The next token's byte; e behind the last one. -/
def posOf (e : Int) : List Tok → Int
  | [] => e
  | t :: _ => t.pos
/-- Does a word or sign stand next? -/
def isTok (s : List UInt8) : List Tok → Bool
  | [] => false
  | t :: _ => (decide (t.kind = 2) || decide (t.kind = 4)) && decide (t.text = s)
def takeT (e : Int) (s : List UInt8) (l : List Tok) : Except (Int × Int) (List Tok) := if isTok s l = true then .ok l.tail else .error (5, posOf e l)
def openT (e : Int) (s : List UInt8) (d : Nat) (l : List Tok) : Except (Int × Int) (List Tok) := if isTok s l = true ∧ d = 20 then .error (6, posOf e l) else takeT e s l
def nameT (e : Int) : List Tok → TRes (List UInt8)
  | [] => .error (5, e)
  | t :: r => if t.kind = 1 then .ok (t.text, r) else .error (5, t.pos)

/-- How tight a sign binds; -1: it is none between. -/
def lvl (s : List UInt8) : Int :=
  if s = [124, 124] then 0 else if s = [38, 38] then 1
  else if s = [61, 61] ∨ s = [33, 61] ∨ s = [60] ∨ s = [60, 61] ∨ s = [62] ∨ s = [62, 61] then 2
  else if s = [43] ∨ s = [45] then 3 else if s = [42] then 4 else -1
/-- The sign of level k that stands next. -/
def signAt (k : Nat) : List Tok → Option (Tok × List Tok)
  | [] => none
  | t :: r => if t.kind = 4 ∧ lvl t.text = (k : Int) then some (t, r) else none

/-- The words. -/
abbrev wInt : List UInt8 := [105, 110, 116]
abbrev wLock : List UInt8 := [108, 111, 99, 107]
abbrev wUnlock : List UInt8 := [117, 110, 108, 111, 99, 107]
abbrev wThread : List UInt8 := [116, 104, 114, 101, 97, 100]
abbrev wIf : List UInt8 := [105, 102]
abbrev wElse : List UInt8 := [101, 108, 115, 101]
abbrev wWhile : List UInt8 := [119, 104, 105, 108, 101]
abbrev wPrint : List UInt8 := [112, 114, 105, 110, 116]
abbrev wFence : List UInt8 := [102, 101, 110, 99, 101]
abbrev wCas : List UInt8 := [99, 97, 115]

/-- The word that stands next. -/
def wordOf : List Tok → List UInt8
  | [] => []
  | t :: _ => if t.kind = 2 then t.text else []
/-- A number that stands next. -/
def tnumT (e : Int) : List Tok → TRes Int
  | [] => .error (5, e)
  | t :: r => if t.kind = 3 then .ok (t.num, r) else .error (5, t.pos)

/-- A primary one: a number, a name. -/
def primT (e : Int) (l : List Tok) : TRes Nd :=
  match tnumT e l with
  | .ok (v, r) => .ok (.mk 15 v (posOf e l) [] [], r)
  | .error _ => match nameT e l with
    | .ok (s, r) => .ok (.mk 16 0 (posOf e l) s [], r)
    | .error f => .error f

/-- One behind the other. -/
def andT {α β : Type} (x : Option (TRes α)) (f : α → List Tok → Option (TRes β)) : Option (TRes β) :=
  match x with
  | none => none
  | some (.error q) => some (.error q)
  | some (.ok (a, l)) => f a l
/-- .. behind what has no node. -/
def thenT {β : Type} (x : Except (Int × Int) (List Tok)) (f : List Tok → Option (TRes β)) : Option (TRes β) :=
  match x with
  | .error q => some (.error q)
  | .ok l => f l
/-- .. behind a name. -/
def nameThen {β : Type} (x : TRes (List UInt8)) (f : List UInt8 → List Tok → Option (TRes β)) : Option (TRes β) :=
  match x with
  | .error q => some (.error q)
  | .ok (s, l) => f s l

mutual
/-- An expression of level k, d things open around it. -/
def exprF (e : Int) : Nat → Nat → Nat → List Tok → Option (TRes Nd)
  | 0, _, _, _ => none
  | n + 1, k, d, l => if k = 5 then unaryF e n d l else andT (exprF e n (k + 1) d l) fun x r => loopF e n k d x r
/-- More of one level behind what stands. -/
def loopF (e : Int) : Nat → Nat → Nat → Nd → List Tok → Option (TRes Nd)
  | 0, _, _, _, _ => none
  | n + 1, k, d, x, l => match signAt k l with
    | none => some (.ok (x, l))
    | some (t, r) => andT (exprF e n (k + 1) d r) fun y q => loopF e n k d (.mk 19 0 t.pos t.text [x, y]) q
def unaryF (e : Int) : Nat → Nat → List Tok → Option (TRes Nd)
  | 0, _, _ => none
  | n + 1, d, l =>
    if isTok [45] l = true then thenT (openT e [45] d l) fun r => andT (unaryF e n (d + 1) r) fun x q => some (.ok (.mk 17 0 (posOf e l) [] [x], q))
    else if isTok [33] l = true then thenT (openT e [33] d l) fun r => andT (unaryF e n (d + 1) r) fun x q => some (.ok (.mk 18 0 (posOf e l) [] [x], q))
    else if isTok [40] l = true then heldF e n d l
    else some (primT e l)
/-- What stands in brackets. -/
def heldF (e : Int) : Nat → Nat → List Tok → Option (TRes Nd)
  | 0, _, _ => none
  | n + 1, d, l => thenT (openT e [40] d l) fun r => andT (exprF e n 0 (d + 1) r) fun x q => thenT (takeT e [41] q) fun p => some (.ok (x, p))
end

/-- An expression, and a sign behind it. -/
def exprThen {β : Type} (e : Int) (n d : Nat) (s : List UInt8) (l : List Tok) (f : Nd → List Tok → Option (TRes β)) : Option (TRes β) :=
  andT (exprF e n 0 d l) fun x r => thenT (takeT e s r) fun q => f x q

/-- A name, '=', and what is assigned. -/
def assignF (e : Int) (n d : Nat) (l : List Tok) : Option (TRes Nd) :=
  nameThen (nameT e l) fun s r => thenT (takeT e [61] r) fun r =>
    if isTok wCas r = true then
      thenT (takeT e wCas r) fun r => thenT (openT e [40] d r) fun r => nameThen (nameT e r) fun s2 q =>
        thenT (takeT e [44] q) fun q => exprThen e n (d + 1) [44] q fun b q => exprThen e n (d + 1) [41] q fun c q =>
          thenT (takeT e [59] q) fun q => some (.ok (.mk 8 0 (posOf e l) s [.mk 16 0 (posOf e r) s2 [], b, c], q))
    else exprThen e n d [59] r fun x q => some (.ok (.mk 7 0 (posOf e l) s [x], q))

/-- A statement that has no block. -/
def plainF (e : Int) (n d : Nat) (l : List Tok) : Option (TRes Nd) :=
  if wordOf l = wInt then nameThen (nameT e l.tail) fun s r => thenT (takeT e [61] r) fun r => exprThen e n d [59] r fun x q => some (.ok (.mk 6 0 (posOf e l) s [x], q))
  else if wordOf l = wPrint then andT (heldF e n d l.tail) fun x r => thenT (takeT e [59] r) fun q => some (.ok (.mk 11 0 (posOf e l) [] [x], q))
  else if wordOf l = wLock ∨ wordOf l = wUnlock then
    thenT (openT e [40] d l.tail) fun r => nameThen (nameT e r) fun s r => thenT (takeT e [41] r) fun r => thenT (takeT e [59] r) fun q => some (.ok (.mk (if wordOf l = wLock then 12 else 13) 0 (posOf e l) s [], q))
  else if wordOf l = wFence then thenT (takeT e [59] l.tail) fun q => some (.ok (.mk 14 0 (posOf e l) [] [], q))
  else assignF e n d l

mutual
def stmtF (e : Int) : Nat → Nat → List Tok → Option (TRes Nd)
  | 0, _, _ => none
  | n + 1, d, l =>
    if wordOf l = wIf then andT (heldF e n d l.tail) fun x r => andT (blockF e n d r) fun b r =>
      if isTok wElse r = true then andT (blockF e n d r.tail) fun c q => some (.ok (.mk 9 0 (posOf e l) [] [x, b, c], q))
      else some (.ok (.mk 9 0 (posOf e l) [] [x, b], r))
    else if wordOf l = wWhile then andT (heldF e n d l.tail) fun x r => andT (blockF e n d r) fun b q => some (.ok (.mk 10 0 (posOf e l) [] [x, b], q))
    else plainF e n d l
def blockF (e : Int) : Nat → Nat → List Tok → Option (TRes Nd)
  | 0, _, _ => none
  | n + 1, d, l => thenT (openT e [123] d l) fun r => andT (stmtsF e n (d + 1) [] r) fun ks q => thenT (takeT e [125] q) fun p => some (.ok (.mk 5 0 (posOf e l) [] ks, p))
/-- Statements up to what shuts the block. -/
def stmtsF (e : Int) : Nat → Nat → List Nd → List Tok → Option (TRes (List Nd))
  | 0, _, _, _ => none
  | n + 1, d, ks, l => if isTok [125] l = true then some (.ok (ks, l)) else andT (stmtF e n d l) fun x r => stmtsF e n d (ks ++ [x]) r
end

/-- A global. -/
def globalT (e : Int) (l : List Tok) : TRes Nd :=
  if isTok wLock l = true then
    match nameT e l.tail with
    | .error f => .error f
    | .ok (s, r) => match takeT e [59] r with
      | .error f => .error f
      | .ok q => .ok (.mk 3 0 (posOf e l) s [], q)
  else match takeT e wInt l with
    | .error f => .error f
    | .ok l1 => match nameT e l1 with
      | .error f => .error f
      | .ok (s, r) =>
        if isTok [61] r = true then
          match tnumT e (if isTok [45] r.tail = true then r.tail.tail else r.tail) with
          | .error f => .error f
          | .ok (v, q) => match takeT e [59] q with
            | .error f => .error f
            | .ok p => .ok (.mk 2 (if isTok [45] r.tail = true then -v else v) (posOf e l) s [], p)
        else match takeT e [59] r with
          | .error f => .error f
          | .ok q => .ok (.mk 2 0 (posOf e l) s [], q)
/-- Globals, as many as there are. -/
def globalsT (e : Int) : Nat → List Nd → List Tok → TRes (List Nd)
  | 0, ks, l => .ok (ks, l)
  | n + 1, ks, l => if isTok wInt l = true ∨ isTok wLock l = true then
      match globalT e l with
      | .error f => .error f
      | .ok (x, r) => globalsT e n (ks ++ [x]) r
    else .ok (ks, l)
/-- Threads up to the end. -/
def threadsF (e : Int) : Nat → List Nd → List Tok → Option (TRes (List Nd))
  | 0, _, _ => none
  | n + 1, ks, l => if l = [] then some (.ok (ks, [])) else thenT (takeT e wThread l) fun r => andT (blockF e n 0 r) fun b q => threadsF e n (ks ++ [.mk 4 0 (posOf e l) [] [b]]) q
/-- All of a text's tokens. -/
def progF (e : Int) (n : Nat) (l : List Tok) : Option (TRes (List Nd)) :=
  match globalsT e l.length [] l with
  | .error f => some (.error f)
  | .ok (ks, r) => threadsF e n ks r
/-- I1, I2: a text's nodes, or the fault's code and byte. -/
def parseF (n : Nat) (s : List UInt8) : Option (List Row × (Int × Int)) :=
  if (scanL s).2.1 ≠ 0 then some ([], (scanL s).2) else
    match progF (s.length : Int) n (scanL s).1 with
    | none => none
    | some (.error f) => some ([], f)
    | some (.ok (ks, _)) => if 600 < ndsSize ks + 1 then some ([], (10, (s.length : Int))) else some (flats 0 ks ++ [⟨1, 0, 0, [], idxs 0 ks⟩], (0, 0))
end

section
/-- What is told is told there, too. -/
def Le {α : Type} (x y : Option α) : Prop := ∀ r, x = some r → y = some r
theorem Le.refl {α : Type} (x : Option α) : Le x x := fun _ h => h
theorem le_none {α : Type} (y : Option α) : Le none y := fun _ h => by cases h
theorem andT_le {α β : Type} {x y : Option (TRes α)} {f g : α → List Tok → Option (TRes β)} (h : Le x y) (hf : ∀ a l, Le (f a l) (g a l)) : Le (andT x f) (andT y g) := by
  intro r hr
  unfold andT at hr ⊢
  match x, h, hr with
  | some (.error q), h, hr => rw [h _ rfl]; exact hr
  | some (.ok (a, l)), h, hr => rw [h _ rfl]; exact hf _ _ _ hr
theorem thenT_le {β : Type} {x : Except (Int × Int) (List Tok)} {f g : List Tok → Option (TRes β)} (hf : ∀ l, Le (f l) (g l)) : Le (thenT x f) (thenT x g) := by
  intro r hr
  unfold thenT at hr ⊢
  match x, hr with
  | .error q, hr => exact hr
  | .ok l, hr => exact hf _ _ hr
theorem nameThen_le {β : Type} {x : TRes (List UInt8)} {f g : List UInt8 → List Tok → Option (TRes β)} (hf : ∀ s l, Le (f s l) (g s l)) : Le (nameThen x f) (nameThen x g) := by
  intro r hr
  unfold nameThen at hr ⊢
  match x, hr with
  | .error q, hr => exact hr
  | .ok (s, l), hr => exact hf _ _ _ hr
theorem ite_le {α : Type} {c : Prop} [Decidable c] {x y x' y' : Option α} (h : Le x x') (h' : Le y y') : Le (if c then x else y) (if c then x' else y') := by
  split
  · exact h
  · exact h'

theorem expr_le (e : Int) : ∀ n, (∀ k d l, Le (exprF e n k d l) (exprF e (n + 1) k d l)) ∧ (∀ k d x l, Le (loopF e n k d x l) (loopF e (n + 1) k d x l)) ∧ (∀ d l, Le (unaryF e n d l) (unaryF e (n + 1) d l)) ∧ (∀ d l, Le (heldF e n d l) (heldF e (n + 1) d l))
  | 0 => ⟨fun _ _ _ => by rw [exprF]; exact le_none _, fun _ _ _ _ => by rw [loopF]; exact le_none _, fun _ _ => by rw [unaryF]; exact le_none _, fun _ _ => by rw [heldF]; exact le_none _⟩
  | n + 1 => by
    obtain ⟨h1, h2, h3, h4⟩ := expr_le e n
    refine ⟨fun k d l => ?_, fun k d x l => ?_, fun d l => ?_, fun d l => ?_⟩
    · rw [exprF, exprF]
      exact ite_le (h3 _ _) (andT_le (h1 _ _ _) fun _ _ => h2 _ _ _ _)
    · rw [loopF, loopF]
      split
      · exact Le.refl _
      · exact andT_le (h1 _ _ _) fun _ _ => h2 _ _ _ _
    · rw [unaryF, unaryF]
      exact ite_le (thenT_le fun _ => andT_le (h3 _ _) fun _ _ => Le.refl _) (ite_le (thenT_le fun _ => andT_le (h3 _ _) fun _ _ => Le.refl _) (ite_le (h4 _ _) (Le.refl _)))
    · rw [heldF, heldF]
      exact thenT_le fun _ => andT_le (h1 _ _ _) fun _ _ => Le.refl _
theorem exprThen_le {β : Type} {e : Int} {n d : Nat} {s : List UInt8} {l : List Tok} {f g : Nd → List Tok → Option (TRes β)} (hf : ∀ x q, Le (f x q) (g x q)) : Le (exprThen e n d s l f) (exprThen e (n + 1) d s l g) :=
  andT_le ((expr_le e n).1 _ _ _) fun _ _ => thenT_le fun _ => hf _ _
theorem assign_le (e : Int) (n d : Nat) (l : List Tok) : Le (assignF e n d l) (assignF e (n + 1) d l) := by
  unfold assignF
  refine nameThen_le fun _ _ => thenT_le fun _ => ite_le ?_ ?_
  · exact thenT_le fun _ => thenT_le fun _ => nameThen_le fun _ _ => thenT_le fun _ => exprThen_le fun _ _ => exprThen_le fun _ _ => Le.refl _
  · exact exprThen_le fun _ _ => Le.refl _
theorem plain_le (e : Int) (n d : Nat) (l : List Tok) : Le (plainF e n d l) (plainF e (n + 1) d l) := by
  unfold plainF
  refine ite_le (nameThen_le fun _ _ => thenT_le fun _ => exprThen_le fun _ _ => Le.refl _) (ite_le (andT_le ((expr_le e n).2.2.2 _ _) fun _ _ => Le.refl _) (ite_le (Le.refl _) (ite_le (Le.refl _) (assign_le _ _ _ _))))
theorem stmt_le (e : Int) : ∀ n, (∀ d l, Le (stmtF e n d l) (stmtF e (n + 1) d l)) ∧ (∀ d l, Le (blockF e n d l) (blockF e (n + 1) d l)) ∧ (∀ d ks l, Le (stmtsF e n d ks l) (stmtsF e (n + 1) d ks l))
  | 0 => ⟨fun _ _ => by rw [stmtF]; exact le_none _, fun _ _ => by rw [blockF]; exact le_none _, fun _ _ _ => by rw [stmtsF]; exact le_none _⟩
  | n + 1 => by
    obtain ⟨h1, h2, h3⟩ := stmt_le e n
    refine ⟨fun d l => ?_, fun d l => ?_, fun d ks l => ?_⟩
    · rw [stmtF, stmtF]
      refine ite_le (andT_le ((expr_le e n).2.2.2 _ _) fun _ _ => andT_le (h2 _ _) fun _ _ => ite_le (andT_le (h2 _ _) fun _ _ => Le.refl _) (Le.refl _)) (ite_le (andT_le ((expr_le e n).2.2.2 _ _) fun _ _ => andT_le (h2 _ _) fun _ _ => Le.refl _) (plain_le _ _ _ _))
    · rw [blockF, blockF]
      exact thenT_le fun _ => andT_le (h3 _ _ _) fun _ _ => Le.refl _
    · rw [stmtsF, stmtsF]
      exact ite_le (Le.refl _) (andT_le (h1 _ _) fun _ _ => h3 _ _ _)
theorem threads_le (e : Int) : ∀ n ks l, Le (threadsF e n ks l) (threadsF e (n + 1) ks l)
  | 0, _, _ => by rw [threadsF]; exact le_none _
  | n + 1, ks, l => by
    rw [threadsF, threadsF]
    exact ite_le (Le.refl _) (thenT_le fun _ => andT_le ((stmt_le e n).2.1 _ _) fun _ _ => threads_le e n _ _)
theorem le_add {α : Type} {f : Nat → Option α} (h : ∀ n, Le (f n) (f (n + 1))) (n : Nat) : ∀ m, Le (f n) (f (n + m))
  | 0 => Le.refl _
  | m + 1 => fun r hr => h (n + m) r (le_add h n m r hr)
/-- Two bounds tell the same. -/
theorem le_same {α : Type} {f : Nat → Option α} (h : ∀ n, Le (f n) (f (n + 1))) {n m : Nat} {r q : α} (hr : f n = some r) (hq : f m = some q) : r = q := by
  have h1 := le_add h n m r hr
  have h2 := le_add h m n q hq
  rw [Nat.add_comm] at h2
  rw [h1] at h2
  exact Option.some.inj h2
end

section
/-- A token without its byte. -/
abbrev Tk := Int × Int × List UInt8
def strip (t : Tok) : Tk := (t.kind, t.num, t.text)
mutual
/-- A tree without its bytes. -/
def erase : Nd → Nd
  | .mk k n _ t ks => .mk k n 0 t (erases ks)
def erases : List Nd → List Nd
  | [] => []
  | x :: r => erase x :: erases r
end
theorem erases_append : ∀ a b : List Nd, erases (a ++ b) = erases a ++ erases b
  | [], b => by simp [erases]
  | x :: r, b => by simp [erases, erases_append r b]

/-- How tight an expression binds. -/
def bindX : Nd → Int
  | .mk k _ _ t _ => if k = 19 then lvl t else 5
/-- An expression's tokens. -/
def toksX : Nd → List Tk
  | .mk k n _ t ks => if k = 15 then [(3, n, Lib.decDigits n.toNat)] else match ks with
    | [] => [(1, 0, t)]
    | [a] => (4, 0, if k = 17 then [45] else [33]) :: (if bindX a < 5 then [(4, 0, [40])] ++ toksX a ++ [(4, 0, [41])] else toksX a)
    | a :: b :: _ => (if bindX a < lvl t then [(4, 0, [40])] ++ toksX a ++ [(4, 0, [41])] else toksX a) ++ [(4, 0, t)] ++ (if bindX b < lvl t + 1 then [(4, 0, [40])] ++ toksX b ++ [(4, 0, [41])] else toksX b)
/-- .. where it has to bind so tight at least. -/
def sideX (x : Nd) (m : Int) : List Tk := if bindX x < m then [(4, 0, [40])] ++ toksX x ++ [(4, 0, [41])] else toksX x
/-- How many things are open within it at once. -/
def depX : Nd → Nat
  | .mk k _ _ t ks => if k = 15 then 0 else match ks with
    | [] => 0
    | [a] => 1 + (if bindX a < 5 then 1 + depX a else depX a)
    | a :: b :: _ => max (if bindX a < lvl t then 1 + depX a else depX a) (if bindX b < lvl t + 1 then 1 + depX b else depX b)
def depS (x : Nd) (m : Int) : Nat := if bindX x < m then 1 + depX x else depX x
/-- What is a name. -/
def NameOk (t : List UInt8) : Prop := (∃ b r, t = b :: r ∧ isLet b = true ∧ r.all isNam = true) ∧ t.length ≤ 12 ∧ isWord t = false
/-- What is an expression. -/
def WfX : Nd → Prop
  | .mk k n _ t ks => (k = 15 ∧ 0 ≤ n ∧ n ≤ 999999999 ∧ t = [] ∧ ks = []) ∨ (k ≠ 15 ∧ n = 0 ∧ match ks with
    | [] => k = 16 ∧ NameOk t
    | [a] => (k = 17 ∨ k = 18) ∧ t = [] ∧ WfX a
    | [a, b] => k = 19 ∧ 0 ≤ lvl t ∧ WfX a ∧ WfX b
    | _ => False)
theorem lvl_le (s : List UInt8) : lvl s ≤ 4 := by
  unfold lvl
  split
  · omega
  · split
    · omega
    · split
      · omega
      · split
        · omega
        · split <;> omega

/-- No sign that binds so tight stands next. -/
def NoSign (k : Nat) : List Tok → Prop
  | [] => True
  | t :: _ => t.kind = 4 → lvl t.text < (k : Int)
theorem NoSign.none {k j : Nat} {l : List Tok} (h : NoSign k l) (hj : k ≤ j) : signAt j l = none := by
  match l, h with
  | [], _ => rfl
  | t :: r, h =>
    rw [signAt, if_neg]
    rintro ⟨h1, h2⟩
    have := h h1
    omega
theorem NoSign.up {k j : Nat} {l : List Tok} (h : NoSign k l) (hj : k ≤ j) : NoSign j l := by
  match l, h with
  | [], _ => trivial
  | t :: r, h => exact fun h1 => by have := h h1; omega

/-- Something is told, by some bound. -/
def Tell {α : Type} (f : Nat → Option α) (r : α) : Prop := ∃ n, f n = some r
section
variable {e : Int} {d : Nat}
theorem tell_more {α : Type} {f : Nat → Option α} (h : ∀ n, Le (f n) (f (n + 1))) {n m : Nat} {r : α} (hr : f n = some r) (hm : n ≤ m) : f m = some r := by
  obtain ⟨j, rfl⟩ := Nat.exists_eq_add_of_le hm
  exact le_add h n j r hr
theorem ex_up (k : Nat) (l : List Tok) : ∀ n, Le (exprF e n k d l) (exprF e (n + 1) k d l) := fun n => (expr_le e n).1 k d l
theorem lo_up (k : Nat) (x : Nd) (l : List Tok) : ∀ n, Le (loopF e n k d x l) (loopF e (n + 1) k d x l) := fun n => (expr_le e n).2.1 k d x l
theorem un_up (l : List Tok) : ∀ n, Le (unaryF e n d l) (unaryF e (n + 1) d l) := fun n => (expr_le e n).2.2.1 d l
theorem he_up (l : List Tok) : ∀ n, Le (heldF e n d l) (heldF e (n + 1) d l) := fun n => (expr_le e n).2.2.2 d l

/-- One level down: what is read there is read here, too, if no sign of this level follows. -/
theorem expr_down {k : Nat} {l r : List Tok} {x : Nd} (hk : k < 5) (h : Tell (fun n => exprF e n (k + 1) d l) (.ok (x, r))) (hs : signAt k r = none) : Tell (fun n => exprF e n k d l) (.ok (x, r)) := by
  obtain ⟨n, hn⟩ := h
  refine ⟨n + 1 + 1, ?_⟩
  show exprF e (n + 1 + 1) k d l = _
  rw [exprF, if_neg (by omega), tell_more (ex_up (k + 1) l) hn (Nat.le_succ n)]
  show loopF e (n + 1) k d x r = _
  rw [loopF, hs]
theorem expr_five {l r : List Tok} {x : Nd} (h : Tell (fun n => unaryF e n d l) (.ok (x, r))) : Tell (fun n => exprF e n 5 d l) (.ok (x, r)) := by
  obtain ⟨n, hn⟩ := h
  exact ⟨n + 1, by show exprF e (n + 1) 5 d l = _; rw [exprF, if_pos rfl]; exact hn⟩
theorem expr_all {l r : List Tok} {x : Nd} (h : Tell (fun n => exprF e n 5 d l) (.ok (x, r))) : ∀ j k : Nat, k + j = 5 → NoSign k r → Tell (fun n => exprF e n k d l) (.ok (x, r))
  | 0, k, hk, _ => by
    obtain rfl : k = 5 := by omega
    exact h
  | j + 1, k, hk, hs => expr_down (by omega) (expr_all h j (k + 1) (by omega) (hs.up (by omega))) (hs.none (Nat.le_refl _))
end
end

end Go.Proofs.YtggfbfjdiikaeaaGreatDoor
