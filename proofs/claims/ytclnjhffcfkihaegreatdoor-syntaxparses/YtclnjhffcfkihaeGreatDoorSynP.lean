/-
  Chapter 9 as plain functions of tokens: the nodes of a text as trees, and as they are numbered.
  The program's take: over all bytes that go on.
-/
import Derived.Test.YtclnjhffcfkihaeGreatDoorLexP
import Derived.Test.YtclnjhffcfkihaeGreatDoorLexZ2
import Derived.Test.YtclnjhffcfkihaeGreatDoorLexZ3
namespace Go.Proofs.YtclnjhffcfkihaeGreatDoor
section
/-- A node, with what is below it: its kind, its number, its byte, its text, its kids. -/
inductive Nd where
  | mk (kind num pos : Int) (text : List UInt8) (kids : List Nd)

mutual
/-- How many nodes there are. -/
def ndSize : Nd → Nat
  | .mk _ _ _ _ ks => ndsSize ks + 1
def ndsSize : List Nd → Nat
  | [] => 0
  | x :: r => ndSize x + ndsSize r
end
/-- A node as it is numbered: its kids by their numbers. -/
structure Row where
  kind : Int
  num : Int
  pos : Int
  text : List UInt8
  kids : List Int
/-- The numbers of trees that stand one behind the other, b nodes ahead of them. -/
def idxs (b : Nat) : List Nd → List Int
  | [] => []
  | x :: r => (((b + ndSize x : Nat) : Int) - 1) :: idxs (b + ndSize x) r
mutual
/-- A tree's nodes in their order, b nodes ahead of them. -/
def flat (b : Nat) : Nd → List Row
  | .mk k n p t ks => flats b ks ++ [⟨k, n, p, t, idxs b ks⟩]
def flats (b : Nat) : List Nd → List Row
  | [] => []
  | x :: r => flat b x ++ flats (b + ndSize x) r
end

/-- What is told: a fault's code and byte, or what was read and what is left. -/
abbrev TRes (α : Type) := Except (Int × Int) (α × List Tok)

/-- The next token's byte; e behind the last one. -/
def posOf (e : Int) : List Tok → Int
  | [] => e
  | t :: _ => t.pos
/-- Does a word or sign stand next? -/
def isTok (s : List UInt8) : List Tok → Bool
  | [] => false
  | t :: _ => (decide (t.kind = 2) || decide (t.kind = 4)) && decide (t.text = s)
def takeT (e : Int) (s : List UInt8) (l : List Tok) : Except (Int × Int) (List Tok) := if isTok s l = true then .ok l.tail else .error (5, posOf e l)
def openT (e : Int) (s : List UInt8) (d : Nat) (l : List Tok) : Except (Int × Int) (List Tok) := if isTok s l = true ∧ d = 20 then .error (6, posOf e l) else takeT e s l
def nameT (e : Int) : List Tok → TRes (List UInt8)
  | [] => .error (5, e)
  | t :: r => if t.kind = 1 then .ok (t.text, r) else .error (5, t.pos)

/-- How tight a sign binds; -1: it is none between. -/
def lvl (s : List UInt8) : Int :=
  if s = [124, 124] then 0 else if s = [38, 38] then 1
  else if s = [61, 61] ∨ s = [33, 61] ∨ s = [60] ∨ s = [60, 61] ∨ s = [62] ∨ s = [62, 61] then 2
  else if s = [43] ∨ s = [45] then 3 else if s = [42] then 4 else -1
/-- The sign of level k that stands next. -/
def signAt (k : Nat) : List Tok → Option (Tok × List Tok)
  | [] => none
  | t :: r => if t.kind = 4 ∧ lvl t.text = (k : Int) then some (t, r) else none

/-- The words. -/
abbrev wInt : List UInt8 := [105, 110, 116]
abbrev wLock : List UInt8 := [108, 111, 99, 107]
abbrev wUnlock : List UInt8 := [117, 110, 108, 111, 99, 107]
abbrev wThread : List UInt8 := [116, 104, 114, 101, 97, 100]
abbrev wIf : List UInt8 := [105, 102]
abbrev wElse : List UInt8 := [101, 108, 115, 101]
abbrev wWhile : List UInt8 := [119, 104, 105, 108, 101]
abbrev wPrint : List UInt8 := [112, 114, 105, 110, 116]
abbrev wFence : List UInt8 := [102, 101, 110, 99, 101]
abbrev wCas : List UInt8 := [99, 97, 115]

/-- The word that stands next. -/
def wordOf : List Tok → List UInt8
  | [] => []
  | t :: _ => if t.kind = 2 then t.text else []
/-- A number that stands next. -/
def tnumT (e : Int) : List Tok → TRes Int
  | [] => .error (5, e)
  | t :: r => if t.kind = 3 then .ok (t.num, r) else .error (5, t.pos)

/-- A primary one: a number, a name. -/
def primT (e : Int) (l : List Tok) : TRes Nd :=
  match tnumT e l with
  | .ok (v, r) => .ok (.mk 15 v (posOf e l) [] [], r)
  | .error _ => match nameT e l with
    | .ok (s, r) => .ok (.mk 16 0 (posOf e l) s [], r)
    | .error f => .error f

/-- One behind the other. -/
def andT {α β : Type} (x : Option (TRes α)) (f : α → List Tok → Option (TRes β)) : Option (TRes β) :=
  match x with
  | none => none
  | some (.error q) => some (.error q)
  | some (.ok (a, l)) => f a l
/-- .. behind what has no node. -/
def thenT {β : Type} (x : Except (Int × Int) (List Tok)) (f : List Tok → Option (TRes β)) : Option (TRes β) :=
  match x with
  | .error q => some (.error q)
  | .ok l => f l
/-- .. behind a name. -/
def nameThen {β : Type} (x : TRes (List UInt8)) (f : List UInt8 → List Tok → Option (TRes β)) : Option (TRes β) :=
  match x with
  | .error q => some (.error q)
  | .ok (s, l) => f s l

mutual
/-- An expression of level k, d things open around it. -/
def exprF (e : Int) : Nat → Nat → Nat → List Tok → Option (TRes Nd)
  | 0, _, _, _ => none
  | n + 1, k, d, l => if k = 5 then unaryF e n d l else andT (exprF e n (k + 1) d l) fun x r => loopF e n k d x r
/-- More of one level behind what stands. -/
def loopF (e : Int) : Nat → Nat → Nat → Nd → List Tok → Option (TRes Nd)
  | 0, _, _, _, _ => none
  | n + 1, k, d, x, l => match signAt k l with
    | none => some (.ok (x, l))
    | some (t, r) => andT (exprF e n (k + 1) d r) fun y q => loopF e n k d (.mk 19 0 t.pos t.text [x, y]) q
def unaryF (e : Int) : Nat → Nat → List Tok → Option (TRes Nd)
  | 0, _, _ => none
  | n + 1, d, l =>
    if isTok [45] l = true then thenT (openT e [45] d l) fun r => andT (unaryF e n (d + 1) r) fun x q => some (.ok (.mk 17 0 (posOf e l) [] [x], q))
    else if isTok [33] l = true then thenT (openT e [33] d l) fun r => andT (unaryF e n (d + 1) r) fun x q => some (.ok (.mk 18 0 (posOf e l) [] [x], q))
    else if isTok [40] l = true then heldF e n d l
    else some (primT e l)
/-- What stands in brackets. -/
def heldF (e : Int) : Nat → Nat → List Tok → Option (TRes Nd)
  | 0, _, _ => none
  | n + 1, d, l => thenT (openT e [40] d l) fun r => andT (exprF e n 0 (d + 1) r) fun x q => thenT (takeT e [41] q) fun p => some (.ok (x, p))
end

/-- An expression, and a sign behind it. -/
def exprThen {β : Type} (e : Int) (n d : Nat) (s : List UInt8) (l : List Tok) (f : Nd → List Tok → Option (TRes β)) : Option (TRes β) :=
  andT (exprF e n 0 d l) fun x r => thenT (takeT e s r) fun q => f x q

/-- A name, '=', and what is assigned. -/
def assignF (e : Int) (n d : Nat) (l : List Tok) : Option (TRes Nd) :=
  nameThen (nameT e l) fun s r => thenT (takeT e [61] r) fun r =>
    if isTok wCas r = true then
      thenT (takeT e wCas r) fun r => thenT (openT e [40] d r) fun r => nameThen (nameT e r) fun s2 q =>
        thenT (takeT e [44] q) fun q => exprThen e n (d + 1) [44] q fun b q => exprThen e n (d + 1) [41] q fun c q =>
          thenT (takeT e [59] q) fun q => some (.ok (.mk 8 0 (posOf e l) s [.mk 16 0 (posOf e r) s2 [], b, c], q))
    else exprThen e n d [59] r fun x q => some (.ok (.mk 7 0 (posOf e l) s [x], q))

/-- A statement that has no block. -/
def plainF (e : Int) (n d : Nat) (l : List Tok) : Option (TRes Nd) :=
  if wordOf l = wInt then nameThen (nameT e l.tail) fun s r => thenT (takeT e [61] r) fun r => exprThen e n d [59] r fun x q => some (.ok (.mk 6 0 (posOf e l) s [x], q))
  else if wordOf l = wPrint then andT (heldF e n d l.tail) fun x r => thenT (takeT e [59] r) fun q => some (.ok (.mk 11 0 (posOf e l) [] [x], q))
  else if wordOf l = wLock ∨ wordOf l = wUnlock then
    thenT (openT e [40] d l.tail) fun r => nameThen (nameT e r) fun s r => thenT (takeT e [41] r) fun r => thenT (takeT e [59] r) fun q => some (.ok (.mk (if wordOf l = wLock then 12 else 13) 0 (posOf e l) s [], q))
  else if wordOf l = wFence then thenT (takeT e [59] l.tail) fun q => some (.ok (.mk 14 0 (posOf e l) [] [], q))
  else assignF e n d l

mutual
def stmtF (e : Int) : Nat → Nat → List Tok → Option (TRes Nd)
  | 0, _, _ => none
  | n + 1, d, l =>
    if wordOf l = wIf then andT (heldF e n d l.tail) fun x r => andT (blockF e n d r) fun b r =>
      if isTok wElse r = true then andT (blockF e n d r.tail) fun c q => some (.ok (.mk 9 0 (posOf e l) [] [x, b, c], q))
      else some (.ok (.mk 9 0 (posOf e l) [] [x, b], r))
    else if wordOf l = wWhile then andT (heldF e n d l.tail) fun x r => andT (blockF e n d r) fun b q => some (.ok (.mk 10 0 (posOf e l) [] [x, b], q))
    else plainF e n d l
def blockF (e : Int) : Nat → Nat → List Tok → Option (TRes Nd)
  | 0, _, _ => none
  | n + 1, d, l => thenT (openT e [123] d l) fun r => andT (stmtsF e n (d + 1) [] r) fun ks q => thenT (takeT e [125] q) fun p => some (.ok (.mk 5 0 (posOf e l) [] ks, p))
/-- Statements up to what shuts the block. -/
def stmtsF (e : Int) : Nat → Nat → List Nd → List Tok → Option (TRes (List Nd))
  | 0, _, _, _ => none
  | n + 1, d, ks, l => if isTok [125] l = true then some (.ok (ks, l)) else andT (stmtF e n d l) fun x r => stmtsF e n d (ks ++ [x]) r
end

/-- A global. -/
def globalT (e : Int) (l : List Tok) : TRes Nd :=
  if isTok wLock l = true then
    match nameT e l.tail with
    | .error f => .error f
    | .ok (s, r) => match takeT e [59] r with
      | .error f => .error f
      | .ok q => .ok (.mk 3 0 (posOf e l) s [], q)
  else match takeT e wInt l with
    | .error f => .error f
    | .ok l1 => match nameT e l1 with
      | .error f => .error f
      | .ok (s, r) =>
        if isTok [61] r = true then
          match tnumT e (if isTok [45] r.tail = true then r.tail.tail else r.tail) with
          | .error f => .error f
          | .ok (v, q) => match takeT e [59] q with
            | .error f => .error f
            | .ok p => .ok (.mk 2 (if isTok [45] r.tail = true then -v else v) (posOf e l) s [], p)
        else match takeT e [59] r with
          | .error f => .error f
          | .ok q => .ok (.mk 2 0 (posOf e l) s [], q)
/-- Globals, as many as there are. -/
def globalsT (e : Int) : Nat → List Nd → List Tok → TRes (List Nd)
  | 0, ks, l => .ok (ks, l)
  | n + 1, ks, l => if isTok wInt l = true ∨ isTok wLock l = true then
      match globalT e l with
      | .error f => .error f
      | .ok (x, r) => globalsT e n (ks ++ [x]) r
    else .ok (ks, l)
/-- Threads up to the end. -/
def threadsF (e : Int) : Nat → List Nd → List Tok → Option (TRes (List Nd))
  | 0, _, _ => none
  | n + 1, ks, l => if l = [] then some (.ok (ks, [])) else thenT (takeT e wThread l) fun r => andT (blockF e n 0 r) fun b q => threadsF e n (ks ++ [.mk 4 0 (posOf e l) [] [b]]) q
end

section
open Go.RowKit

def atOf (w : World) (sb : Nat) : Nat := match w.cell? ⟨sb, 1, none⟩ with
  | some (.int _ i) => i.toNat
  | _ => 0
theorem Sc.at {w : World} {sb : Nat} {s : ByteArray} {k : Nat} (h : Sc w sb s k) : atOf w sb = k := by
  unfold atOf; rw [h.c1]; simp

set_option maxRecDepth 100000 in
set_option maxHeartbeats 1600000 in
theorem take_dig (sb : Nat) (s : ByteArray) (hs : s.size ≤ 4000) (k : Nat) (hk : k ≤ s.size) (N : Nat) (HN : Hid (k + twAt isDig s k = N)) (w : World) (h : Sc w sb s k) :
    Calls Tryz.prog 108 #[.pointer (some ⟨sb, 0, none⟩), .func (.func 84) #[] #[]] w fun e w' => e = .returned (.string (s.extract k N)) ∧ Sc w' sb s N ∧ w.grownBy w' (some sb) := by
  have HS := Hid.out (p := Hid _) h
  have h0 := h.c0
  have h1 := h.c1
  clear h
  go_enter Tryz.func108, Tryz.ntmps108
  go_wp2
  clear h0 h1
  obtain ⟨W, rfl⟩ : ∃ V, V = w := ⟨_, rfl⟩
  go_loopw [10] (fun _ wr => ∃ j : Nat, k ≤ j ∧ j ≤ s.size ∧ Hid (j + twAt isDig s j = N) ∧ Hid (Sc wr sb s j ∧ W.grownBy wr (some sb))) (fun _ wr => s.size - atOf wr sb)
  case atStart => exact ⟨k, Nat.le_refl _, hk, HN, ⟨HS.out, World.grownBy.refl _ _⟩⟩
  case round =>
    obtain ⟨j, hj1, hj2, HJ, HW⟩ := hrel
    have h0 := HW.out.1.c0
    have h1 := HW.out.1.c1
    have hf := HW.out.1.fr
    by_cases hlt : j < s.size
    · have hlt' : (j : Int) < (s.size : Int) := by omega
      cases hd : isDig s[j] with
      | true =>
        have HJ2 : Hid (j + 1 + twAt isDig s (j + 1) = N) := by
          have := HJ.out
          rw [twAt_more hlt hd] at this
          show _ = _
          omega
        have HW2 : Hid (Sc (wr.setCell ⟨sb, 1, none⟩ (.int .i64 ((j : Int) + 1))).drew sb s (j + 1) ∧ W.grownBy (wr.setCell ⟨sb, 1, none⟩ (.int .i64 ((j : Int) + 1))).drew (some sb)) :=
          ⟨(HW.out.1.set (j + 1)).below (Below.refl _ _).drew, grown_then HW.out.2 (grown_then (grown_set _ _ _ _) (grown_of_below (Below.refl _ _).drew _))⟩
        have ha : atOf wr sb = j := HW.out.1.at
        go_wp2_with fail
        refine region_tail 21 (by kernel_rfl) (by kernel_rfl) ?_
        simp only [List.take_succ_cons, List.take_zero, List.drop_succ_cons, List.drop_zero]
        repeat still_step
        refine wpStill_nil ?_
        go_wp2_with fail
        refine Calls.mono (pdig_any s[j] _) ?_
        rintro e w' ⟨rfl, rfl⟩
        rw [hd]
        go_wp2_with fail
        go_roundw
        case rel => exact ⟨j + 1, by omega, by omega, HJ2, HW2⟩
        case measure => rw [HW2.out.1.at, ha]; omega
      | false =>
        have HJN : Hid (j = N) := by
          have := HJ.out
          rw [twAt_stop hlt hd] at this
          show _ = _
          omega
        go_wp2_with fail
        refine region_tail 21 (by kernel_rfl) (by kernel_rfl) ?_
        simp only [List.take_succ_cons, List.take_zero, List.drop_succ_cons, List.drop_zero]
        repeat still_step
        refine wpStill_nil ?_
        go_wp2_with fail
        refine Calls.mono (pdig_any s[j] _) ?_
        rintro e w' ⟨rfl, rfl⟩
        rw [hd]
        go_wp2_with fail
        have hle1 : (k : Int) ≤ (j : Int) := by omega
        have hle2 : (j : Int) ≤ (s.size : Int) := by omega
        go_quiet (fail)
        go_wp2
        go_ret
        obtain rfl := HJN.out
        exact ⟨rfl, HW.out.1.below (below_drewN (Below.refl _ _).drew), grown_then HW.out.2 (grown_of_below (below_drewN (Below.refl _ _).drew) _)⟩
    · have hlt' : decide ((j : Int) < (s.size : Int)) = false := by simpa using hlt
      have HJN : Hid (j = N) := by
        have := HJ.out
        rw [twAt_end (by omega)] at this
        show _ = _
        omega
      go_wp2_with fail
      go_quiet (fail)
      go_wp2_with fail
      have hle1 : (k : Int) ≤ (j : Int) := by omega
      have hle2 : (j : Int) ≤ (s.size : Int) := by omega
      go_quiet (fail)
      go_wp2
      go_ret
      obtain rfl := HJN.out
      exact ⟨rfl, HW.out.1.below (below_drewN (below_drewN (Below.refl _ _))), grown_then HW.out.2 (grown_of_below (below_drewN (below_drewN (Below.refl _ _))) _)⟩

theorem pnam_any (c : UInt8) (w : World) :
    Calls Tryz.prog 110 #[.int .u8 (c.toNat : Int)] w fun e w' => e = .returned (.bool (isNam c)) ∧ w' = w := by
  cases hl : isLet c
  all_goals cases hd : isDig c
  all_goals
    go_enter Tryz.func110, Tryz.ntmps110
    go_wp2_with (first | (go_at_call 82; refine (plet_any c _).mono ?_; rintro e w' ⟨rfl, rfl⟩; rw [hl]) | (go_at_call 84; refine (pdig_any c _).mono ?_; rintro e w' ⟨rfl, rfl⟩; rw [hd]))
    go_ret
    exact ⟨ret_bool (by simp [isNam, hl, hd]), rfl⟩

set_option maxRecDepth 100000 in
set_option maxHeartbeats 1600000 in
theorem take_nam (sb : Nat) (s : ByteArray) (hs : s.size ≤ 4000) (k : Nat) (hk : k ≤ s.size) (N : Nat) (HN : Hid (k + twAt isNam s k = N)) (w : World) (h : Sc w sb s k) :
    Calls Tryz.prog 108 #[.pointer (some ⟨sb, 0, none⟩), .func (.func 110) #[] #[]] w fun e w' => e = .returned (.string (s.extract k N)) ∧ Sc w' sb s N ∧ w.grownBy w' (some sb) := by
  have HS := Hid.out (p := Hid _) h
  have h0 := h.c0
  have h1 := h.c1
  clear h
  go_enter Tryz.func108, Tryz.ntmps108
  go_wp2
  clear h0 h1
  obtain ⟨W, rfl⟩ : ∃ V, V = w := ⟨_, rfl⟩
  go_loopw [10] (fun _ wr => ∃ j : Nat, k ≤ j ∧ j ≤ s.size ∧ Hid (j + twAt isNam s j = N) ∧ Hid (Sc wr sb s j ∧ W.grownBy wr (some sb))) (fun _ wr => s.size - atOf wr sb)
  case atStart => exact ⟨k, Nat.le_refl _, hk, HN, ⟨HS.out, World.grownBy.refl _ _⟩⟩
  case round =>
    obtain ⟨j, hj1, hj2, HJ, HW⟩ := hrel
    have h0 := HW.out.1.c0
    have h1 := HW.out.1.c1
    have hf := HW.out.1.fr
    by_cases hlt : j < s.size
    · have hlt' : (j : Int) < (s.size : Int) := by omega
      cases hd : isNam s[j] with
      | true =>
        have HJ2 : Hid (j + 1 + twAt isNam s (j + 1) = N) := by
          have := HJ.out
          rw [twAt_more hlt hd] at this
          show _ = _
          omega
        have HW2 : Hid (Sc (wr.setCell ⟨sb, 1, none⟩ (.int .i64 ((j : Int) + 1))).drew sb s (j + 1) ∧ W.grownBy (wr.setCell ⟨sb, 1, none⟩ (.int .i64 ((j : Int) + 1))).drew (some sb)) :=
          ⟨(HW.out.1.set (j + 1)).below (Below.refl _ _).drew, grown_then HW.out.2 (grown_then (grown_set _ _ _ _) (grown_of_below (Below.refl _ _).drew _))⟩
        have ha : atOf wr sb = j := HW.out.1.at
        go_wp2_with fail
        refine region_tail 21 (by kernel_rfl) (by kernel_rfl) ?_
        simp only [List.take_succ_cons, List.take_zero, List.drop_succ_cons, List.drop_zero]
        repeat still_step
        refine wpStill_nil ?_
        go_wp2_with fail
        refine Calls.mono (pnam_any s[j] _) ?_
        rintro e w' ⟨rfl, rfl⟩
        rw [hd]
        go_wp2_with fail
        go_roundw
        case rel => exact ⟨j + 1, by omega, by omega, HJ2, HW2⟩
        case measure => rw [HW2.out.1.at, ha]; omega
      | false =>
        have HJN : Hid (j = N) := by
          have := HJ.out
          rw [twAt_stop hlt hd] at this
          show _ = _
          omega
        go_wp2_with fail
        refine region_tail 21 (by kernel_rfl) (by kernel_rfl) ?_
        simp only [List.take_succ_cons, List.take_zero, List.drop_succ_cons, List.drop_zero]
        repeat still_step
        refine wpStill_nil ?_
        go_wp2_with fail
        refine Calls.mono (pnam_any s[j] _) ?_
        rintro e w' ⟨rfl, rfl⟩
        rw [hd]
        go_wp2_with fail
        have hle1 : (k : Int) ≤ (j : Int) := by omega
        have hle2 : (j : Int) ≤ (s.size : Int) := by omega
        go_quiet (fail)
        go_wp2
        go_ret
        obtain rfl := HJN.out
        exact ⟨rfl, HW.out.1.below (below_drewN (Below.refl _ _).drew), grown_then HW.out.2 (grown_of_below (below_drewN (Below.refl _ _).drew) _)⟩
    · have hlt' : decide ((j : Int) < (s.size : Int)) = false := by simpa using hlt
      have HJN : Hid (j = N) := by
        have := HJ.out
        rw [twAt_end (by omega)] at this
        show _ = _
        omega
      go_wp2_with fail
      go_quiet (fail)
      go_wp2_with fail
      have hle1 : (k : Int) ≤ (j : Int) := by omega
      have hle2 : (j : Int) ≤ (s.size : Int) := by omega
      go_quiet (fail)
      go_wp2
      go_ret
      obtain rfl := HJN.out
      exact ⟨rfl, HW.out.1.below (below_drewN (below_drewN (Below.refl _ _))), grown_then HW.out.2 (grown_of_below (below_drewN (below_drewN (Below.refl _ _))) _)⟩
end

end Go.Proofs.YtclnjhffcfkihaeGreatDoor
