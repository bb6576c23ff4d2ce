/-
  Statements as they are printed: their tokens, how deep they are, and that they are read as they were.
  Blocks and what has them are read as they were.
-/
import Derived.Test.YtclnjhffcfkihaeGreatDoorSynR
namespace Go.Proofs.YtclnjhffcfkihaeGreatDoor
section
def kindN : Nd → Int
  | .mk k _ _ _ _ => k
def partsT (k : Int) (t : List UInt8) (ps : List (List Tk)) : List Tk :=
  if k = 5 then (4, 0, [123]) :: (ps.flatten ++ [(4, 0, [125])])
  else if k = 6 then (2, 0, wInt) :: (1, 0, t) :: (4, 0, [61]) :: (ps.getD 0 [] ++ [(4, 0, [59])])
  else if k = 7 then (1, 0, t) :: (4, 0, [61]) :: (ps.getD 0 [] ++ [(4, 0, [59])])
  else if k = 8 then (1, 0, t) :: (4, 0, [61]) :: (2, 0, wCas) :: (4, 0, [40]) :: (ps.getD 0 [] ++ (4, 0, [44]) :: (ps.getD 1 [] ++ (4, 0, [44]) :: (ps.getD 2 [] ++ [(4, 0, [41]), (4, 0, [59])])))
  else if k = 9 then (2, 0, wIf) :: (4, 0, [40]) :: (ps.getD 0 [] ++ (4, 0, [41]) :: (ps.getD 1 [] ++ match ps.drop 2 with
    | [] => []
    | c :: _ => (2, 0, wElse) :: c))
  else if k = 10 then (2, 0, wWhile) :: (4, 0, [40]) :: (ps.getD 0 [] ++ (4, 0, [41]) :: ps.getD 1 [])
  else if k = 11 then (2, 0, wPrint) :: (4, 0, [40]) :: (ps.getD 0 [] ++ [(4, 0, [41]), (4, 0, [59])])
  else if k = 12 then [(2, 0, wLock), (4, 0, [40]), (1, 0, t), (4, 0, [41]), (4, 0, [59])]
  else if k = 13 then [(2, 0, wUnlock), (4, 0, [40]), (1, 0, t), (4, 0, [41]), (4, 0, [59])]
  else [(2, 0, wFence), (4, 0, [59])]
mutual
/-- A node's tokens. -/
def toksN : Nd → List Tk
  | .mk k n p t ks => if 15 ≤ k then toksX (.mk k n p t ks) else partsT k t (toksNs ks)
def toksNs : List Nd → List (List Tk)
  | [] => []
  | x :: r => toksN x :: toksNs r
end
def ShapeN (k : Int) (t : List UInt8) (qs : List Int) : Prop :=
  (k = 5 ∧ t = [] ∧ ∀ q, q ∈ qs → 6 ≤ q ∧ q ≤ 14) ∨ (k = 6 ∧ NameOk t ∧ ∃ a, qs = [a] ∧ 15 ≤ a) ∨ (k = 7 ∧ NameOk t ∧ ∃ a, qs = [a] ∧ 15 ≤ a) ∨
  (k = 8 ∧ NameOk t ∧ ∃ b c, qs = [16, b, c] ∧ 15 ≤ b ∧ 15 ≤ c) ∨ (k = 9 ∧ t = [] ∧ ∃ a, 15 ≤ a ∧ (qs = [a, 5] ∨ qs = [a, 5, 5])) ∨ (k = 10 ∧ t = [] ∧ ∃ a, 15 ≤ a ∧ qs = [a, 5]) ∨
  (k = 11 ∧ t = [] ∧ ∃ a, qs = [a] ∧ 15 ≤ a) ∨ ((k = 12 ∨ k = 13) ∧ NameOk t ∧ qs = []) ∨ (k = 14 ∧ t = [] ∧ qs = [])
mutual
/-- What is a statement, a block, an expression. -/
def WfN : Nd → Prop
  | .mk k n p t ks => if 15 ≤ k then WfX (.mk k n p t ks) else n = 0 ∧ ShapeN k t (ks.map kindN) ∧ WfNs ks
def WfNs : List Nd → Prop
  | [] => True
  | x :: r => WfN x ∧ WfNs r
end
def maxL : List Nat → Nat
  | [] => 0
  | a :: r => max a (maxL r)
def depK (k : Int) (ds : List Nat) : Nat :=
  if k = 5 then 1 + maxL ds else if k = 6 ∨ k = 7 then maxL ds else if k = 9 ∨ k = 10 then max (1 + ds.getD 0 0) (maxL (ds.drop 1))
  else if k = 14 then 0 else 1 + maxL ds
mutual
/-- How many things are open within it at once. -/
def depN : Nd → Nat
  | .mk k n p t ks => if 15 ≤ k then depX (.mk k n p t ks) else depK k (depNs ks)
def depNs : List Nd → List Nat
  | [] => []
  | x :: r => depN x :: depNs r
end

theorem bind_nn {x : Nd} (h : WfX x) : 0 ≤ bindX x := by
  match x, h with
  | .mk k n p t ks, h =>
    unfold WfX at h
    rw [bindX]
    split
    · rename_i hk
      subst hk
      rcases h with h | ⟨_, _, h⟩
      · exact absurd h.1 (by decide)
      · match ks, h with
        | [], h => exact absurd h.1 (by decide)
        | [a], h => exact absurd h.1 (by decide)
        | [a, b], h => exact h.2.1
    · decide
theorem wfN_x {x : Nd} (h : WfN x) (hk : 15 ≤ kindN x) : WfX x ∧ toksN x = toksX x ∧ depN x = depX x := by
  match x, h, hk with
  | .mk k n p t ks, h, hk =>
    have hk' : 15 ≤ k := hk
    rw [WfN, if_pos hk'] at h
    exact ⟨h, by rw [toksN, if_pos hk'], by rw [depN, if_pos hk']⟩

section
variable {e : Int}
theorem word_is {t : Tok} {s : List UInt8} {v : Int} (h : strip t = (2, v, s)) (r : List Tok) : wordOf (t :: r) = s := by
  simp only [strip, Prod.mk.injEq] at h
  simp [wordOf, h.1, h.2.2]
theorem word_no {t : Tok} {s : List UInt8} {v : Int} (h : strip t = (1, v, s)) (r : List Tok) : wordOf (t :: r) = [] := by
  simp only [strip, Prod.mk.injEq] at h
  simp [wordOf, h.1]
theorem name_is {t : Tok} {s : List UInt8} {v : Int} (h : strip t = (1, v, s)) (r : List Tok) : nameT e (t :: r) = .ok (s, r) := by
  simp only [strip, Prod.mk.injEq] at h
  rw [nameT, if_pos h.1, h.2.2]

/-- An expression ahead of a sign that is none between. -/
theorem tell_x {x : Nd} (hw : WfX x) {d : Nat} {l1 rest : List Tok} {c : Tok} {s : List UInt8} (hl : l1.map strip = toksX x) (hd : d + depX x ≤ 20) (hc : strip c = (4, 0, s)) (hs : lvl s < 0) :
    ∃ x', Tell (fun n => exprF e n 0 d (l1 ++ c :: rest)) (.ok (x', c :: rest)) ∧ erase x' = erase x := by
  have h0 := bind_nn hw
  have e0 : ¬ bindX x < ((0 : Nat) : Int) := by simp; exact h0
  refine (read_all e (ndSize x) x (Nat.le_refl _) hw).2.1 0 (by omega) d l1 (c :: rest) (by unfold sideX; rw [if_neg e0]; exact hl) (by unfold depS; rw [if_neg e0]; exact hd) ?_
  intro _
  have : c.text = s := by simp only [strip, Prod.mk.injEq] at hc; exact hc.2.2
  rw [this]
  simpa using hs

/-- What reads a statement, a block. -/
def RdS (e : Int) (x : Nd) : Prop := ∀ (d : Nat) (l1 rest : List Tok), l1.map strip = toksN x → d + depN x ≤ 20 → isTok wElse rest = false → ∃ x', Tell (fun n => stmtF e n d (l1 ++ rest)) (.ok (x', rest)) ∧ erase x' = erase x
def RdB (e : Int) (x : Nd) : Prop := ∀ (d : Nat) (l1 rest : List Tok), l1.map strip = toksN x → d + depN x ≤ 20 → ∃ x', Tell (fun n => blockF e n d (l1 ++ rest)) (.ok (x', rest)) ∧ erase x' = erase x
theorem st_up (d : Nat) (l : List Tok) : ∀ n, Le (stmtF e n d l) (stmtF e (n + 1) d l) := fun n => (stmt_le e n).1 d l
theorem bl_up (d : Nat) (l : List Tok) : ∀ n, Le (blockF e n d l) (blockF e (n + 1) d l) := fun n => (stmt_le e n).2.1 d l
theorem ss_up (d : Nat) (ks : List Nd) (l : List Tok) : ∀ n, Le (stmtsF e n d ks l) (stmtsF e (n + 1) d ks l) := fun n => (stmt_le e n).2.2 d ks l
theorem st_plain {d n : Nat} {l : List Tok} {r : TRes Nd} (h1 : wordOf l ≠ wIf) (h2 : wordOf l ≠ wWhile) (h : plainF e n d l = some r) : Tell (fun n => stmtF e n d l) r :=
  ⟨n + 1, by show stmtF e (n + 1) d l = _; rw [stmtF, if_neg h1, if_neg h2]; exact h⟩
theorem held_x {x : Nd} (hw : WfX x) {d : Nat} {l1 rest : List Tok} {o c : Tok} (hl : l1.map strip = toksX x) (hd : d + (1 + depX x) ≤ 20) (ho : strip o = (4, 0, [40])) (hc : strip c = (4, 0, [41])) :
    ∃ x', Tell (fun n => heldF e n d (o :: (l1 ++ c :: rest))) (.ok (x', rest)) ∧ erase x' = erase x := by
  obtain ⟨x', ⟨n, hn⟩, he⟩ := tell_x (e := e) hw (d := d + 1) (rest := rest) hl (by omega) hc (by decide)
  refine ⟨x', ⟨n + 1, ?_⟩, he⟩
  have hn2 : exprF e n 0 (d + 1) (l1 ++ c :: rest) = some (.ok (x', c :: rest)) := hn
  show heldF e (n + 1) d (o :: (l1 ++ c :: rest)) = _
  rw [heldF, open_yes (is_yes (Or.inl ho) _) (by omega)]
  simp only [thenT, hn2, andT, take_yes (is_yes (Or.inl hc) rest)]

theorem read_six {p : Int} {t : List UInt8} {x : Nd} (hx : WfX x) (ht : toksN x = toksX x) (hdx : depN x = depX x) : RdS e (.mk 6 0 p t [x]) := by
  intro d l1 rest hl hd _
  rw [toksN, if_neg (by decide)] at hl
  simp only [partsT, toksNs, ht, List.getD_cons_zero] at hl
  rw [depN, if_neg (by decide)] at hd
  simp only [depK, depNs, hdx, maxL] at hd
  obtain ⟨t0, q, rfl, h0, hl⟩ := strip_cons (by simpa using hl)
  obtain ⟨t1, q, rfl, h1, hl⟩ := strip_cons hl
  obtain ⟨t2, q, rfl, h2, hl⟩ := strip_cons hl
  obtain ⟨u, v, rfl, hu, hv⟩ := strip_app hl
  obtain ⟨c, v, rfl, hc, hv⟩ := strip_cons hv
  obtain rfl : v = [] := by simpa using hv
  obtain ⟨x', ⟨n, hn⟩, he⟩ := tell_x (e := e) hx (d := d) (rest := rest) hu (by simpa using hd) hc (by decide)
  have hn2 : exprF e n 0 d (u ++ c :: rest) = some (.ok (x', c :: rest)) := hn
  have hw := word_is h0 (t1 :: t2 :: (u ++ c :: rest))
  refine ⟨.mk 6 0 t0.pos t [x'], ?_, by simp [erase, erases, he]⟩
  have el : t0 :: t1 :: t2 :: (u ++ [c]) ++ rest = t0 :: t1 :: t2 :: (u ++ c :: rest) := by simp
  rw [el]
  refine st_plain (n := n) (by rw [hw]; decide) (by rw [hw]; decide) ?_
  unfold plainF
  rw [if_pos hw]
  simp only [List.tail_cons, nameThen, name_is h1, thenT, take_yes (is_yes (Or.inl h2) _), exprThen, hn2, andT, take_yes (is_yes (Or.inl hc) rest), posOf]
theorem read_seven {p : Int} {t : List UInt8} {x : Nd} (hx : WfX x) (ht : toksN x = toksX x) (hdx : depN x = depX x) (hnc : ∀ (l : List Tok) r, l.map strip = toksX x → isTok wCas (l ++ r) = false) : RdS e (.mk 7 0 p t [x]) := by
  intro d l1 rest hl hd _
  rw [toksN, if_neg (by decide)] at hl
  simp only [partsT, toksNs, ht, List.getD_cons_zero] at hl
  rw [depN, if_neg (by decide)] at hd
  simp only [depK, depNs, hdx, maxL] at hd
  obtain ⟨t1, q, rfl, h1, hl⟩ := strip_cons (by simpa using hl)
  obtain ⟨t2, q, rfl, h2, hl⟩ := strip_cons hl
  obtain ⟨u, v, rfl, hu, hv⟩ := strip_app hl
  obtain ⟨c, v, rfl, hc, hv⟩ := strip_cons hv
  obtain rfl : v = [] := by simpa using hv
  obtain ⟨x', ⟨n, hn⟩, he⟩ := tell_x (e := e) hx (d := d) (rest := rest) hu (by simpa using hd) hc (by decide)
  have hn2 : exprF e n 0 d (u ++ c :: rest) = some (.ok (x', c :: rest)) := hn
  have hw := word_no h1 (t2 :: (u ++ c :: rest))
  refine ⟨.mk 7 0 t1.pos t [x'], ?_, by simp [erase, erases, he]⟩
  have el : t1 :: t2 :: (u ++ [c]) ++ rest = t1 :: t2 :: (u ++ c :: rest) := by simp
  rw [el]
  refine st_plain (n := n) (by rw [hw]; decide) (by rw [hw]; decide) ?_
  unfold plainF
  rw [hw, if_neg (by decide), if_neg (by decide), if_neg (by decide), if_neg (by decide)]
  unfold assignF
  simp only [nameThen, name_is h1, thenT, take_yes (is_yes (Or.inl h2) _), hnc u (c :: rest) hu, exprThen, hn2, andT, take_yes (is_yes (Or.inl hc) rest), posOf, Bool.false_eq_true, if_false]
theorem read_eight {p p2 : Int} {t s : List UInt8} {x y : Nd} (hx : WfX x) (ht : toksN x = toksX x) (hdx : depN x = depX x) (hy : WfX y) (hty : toksN y = toksX y) (hdy : depN y = depX y) : RdS e (.mk 8 0 p t [.mk 16 0 p2 s [], x, y]) := by
  intro d l1 rest hl hd _
  have hs1 : toksN (.mk 16 0 p2 s []) = [(1, 0, s)] := by rw [toksN, if_pos (by decide), toksX, if_neg (by decide)]
  have hs2 : depN (.mk 16 0 p2 s []) = 0 := by rw [depN, if_pos (by decide), depX, if_neg (by decide)]
  rw [toksN, if_neg (by decide)] at hl
  simp only [partsT, toksNs, ht, hty, hs1, List.getD_cons_zero, List.getD_cons_succ] at hl
  rw [depN, if_neg (by decide)] at hd
  simp only [depK, depNs, hdx, hdy, hs2, maxL] at hd
  obtain ⟨t1, q, rfl, h1, hl⟩ := strip_cons (by simpa using hl)
  obtain ⟨t2, q, rfl, h2, hl⟩ := strip_cons hl
  obtain ⟨t3, q, rfl, h3, hl⟩ := strip_cons hl
  obtain ⟨t4, q, rfl, h4, hl⟩ := strip_cons hl
  obtain ⟨t5, q, rfl, h5, hl⟩ := strip_cons hl
  obtain ⟨t6, q, rfl, h6, hl⟩ := strip_cons hl
  obtain ⟨u, q, rfl, hu, hl⟩ := strip_app hl
  obtain ⟨c1, q, rfl, hc1, hl⟩ := strip_cons hl
  obtain ⟨z, q, rfl, hz, hl⟩ := strip_app hl
  obtain ⟨c2, q, rfl, hc2, hl⟩ := strip_cons hl
  obtain ⟨c3, q, rfl, hc3, hl⟩ := strip_cons hl
  obtain rfl : q = [] := by simpa using hl
  have hd' : d + (1 + max 0 (max (depX x) (max (depX y) 0))) ≤ 20 := by simpa using hd
  obtain ⟨x', ⟨n, hn⟩, he⟩ := tell_x (e := e) hx (d := d + 1) (rest := z ++ c2 :: c3 :: rest) hu (by omega) hc1 (by decide)
  obtain ⟨y', ⟨m, hm⟩, hey⟩ := tell_x (e := e) hy (d := d + 1) (rest := c3 :: rest) hz (by omega) hc2 (by decide)
  have hn2 : exprF e (n + m) 0 (d + 1) (u ++ c1 :: (z ++ c2 :: c3 :: rest)) = some (.ok (x', c1 :: (z ++ c2 :: c3 :: rest))) := tell_more (ex_up 0 _) hn (by omega)
  have hm2 : exprF e (n + m) 0 (d + 1) (z ++ c2 :: c3 :: rest) = some (.ok (y', c2 :: c3 :: rest)) := tell_more (ex_up 0 _) hm (by omega)
  have hw := word_no h1 (t2 :: t3 :: t4 :: t5 :: t6 :: (u ++ c1 :: (z ++ c2 :: c3 :: rest)))
  refine ⟨.mk 8 0 t1.pos t [.mk 16 0 t5.pos s [], x', y'], ?_, by simp [erase, erases, he, hey]⟩
  have el : t1 :: t2 :: t3 :: t4 :: t5 :: t6 :: (u ++ c1 :: (z ++ [c2, c3])) ++ rest = t1 :: t2 :: t3 :: t4 :: t5 :: t6 :: (u ++ c1 :: (z ++ c2 :: c3 :: rest)) := by simp
  rw [el]
  refine st_plain (n := n + m) (by rw [hw]; decide) (by rw [hw]; decide) ?_
  unfold plainF
  rw [hw, if_neg (by decide), if_neg (by decide), if_neg (by decide), if_neg (by decide)]
  unfold assignF
  simp only [nameThen, name_is h1, name_is h5, thenT, take_yes (is_yes (Or.inl h2) _), is_yes (Or.inr h3) _, if_true, take_yes (is_yes (Or.inr h3) _), open_yes (d := d) (is_yes (Or.inl h4) _) (by omega), take_yes (is_yes (Or.inl h6) _), exprThen, hn2, hm2, andT, take_yes (is_yes (Or.inl hc1) _), take_yes (is_yes (Or.inl hc2) _), take_yes (is_yes (Or.inl hc3) _), posOf]
theorem read_print {p : Int} {x : Nd} (hx : WfX x) (ht : toksN x = toksX x) (hdx : depN x = depX x) : RdS e (.mk 11 0 p [] [x]) := by
  intro d l1 rest hl hd _
  rw [toksN, if_neg (by decide)] at hl
  simp only [partsT, toksNs, ht, List.getD_cons_zero] at hl
  rw [depN, if_neg (by decide)] at hd
  simp only [depK, depNs, hdx, maxL] at hd
  obtain ⟨t0, q, rfl, h0, hl⟩ := strip_cons (by simpa using hl)
  obtain ⟨t1, q, rfl, h1, hl⟩ := strip_cons hl
  obtain ⟨u, v, rfl, hu, hv⟩ := strip_app hl
  obtain ⟨c, v, rfl, hc, hv⟩ := strip_cons hv
  obtain ⟨c2, v, rfl, hc2, hv⟩ := strip_cons hv
  obtain rfl : v = [] := by simpa using hv
  obtain ⟨x', ⟨n, hn⟩, he⟩ := held_x (e := e) hx (d := d) (rest := c2 :: rest) hu (by simpa using hd) h1 hc
  have hn2 : heldF e n d (t1 :: (u ++ c :: c2 :: rest)) = some (.ok (x', c2 :: rest)) := hn
  have hw := word_is h0 (t1 :: (u ++ c :: c2 :: rest))
  refine ⟨.mk 11 0 t0.pos [] [x'], ?_, by simp [erase, erases, he]⟩
  have el : t0 :: t1 :: (u ++ [c, c2]) ++ rest = t0 :: t1 :: (u ++ c :: c2 :: rest) := by simp
  rw [el]
  refine st_plain (n := n) (by rw [hw]; decide) (by rw [hw]; decide) ?_
  unfold plainF
  rw [hw, if_neg (by decide), if_pos rfl]
  simp only [List.tail_cons, hn2, andT, thenT, take_yes (is_yes (Or.inl hc2) rest), posOf]
theorem read_lock {k p : Int} {t : List UInt8} (hk : k = 12 ∨ k = 13) : RdS e (.mk k 0 p t []) := by
  intro d l1 rest hl hd _
  rw [toksN, if_neg (by omega)] at hl
  rw [depN, if_neg (by omega)] at hd
  have hd' : d + 1 ≤ 20 := by
    rcases hk with rfl | rfl <;> simpa [depK, depNs, maxL] using hd
  have hl' : l1.map strip = [(2, 0, if k = 12 then wLock else wUnlock), (4, 0, [40]), (1, 0, t), (4, 0, [41]), (4, 0, [59])] := by
    rcases hk with rfl | rfl <;> simpa [partsT] using hl
  obtain ⟨t0, q, rfl, h0, hl⟩ := strip_cons hl'
  obtain ⟨t1, q, rfl, h1, hl⟩ := strip_cons hl
  obtain ⟨t2, q, rfl, h2, hl⟩ := strip_cons hl
  obtain ⟨t3, q, rfl, h3, hl⟩ := strip_cons hl
  obtain ⟨t4, q, rfl, h4, hl⟩ := strip_cons hl
  obtain rfl : q = [] := by simpa using hl
  have hw := word_is h0 (t1 :: t2 :: t3 :: t4 :: rest)
  refine ⟨.mk k 0 t0.pos t [], ?_, by simp [erase, erases]⟩
  show Tell (fun n => stmtF e n d (t0 :: t1 :: t2 :: t3 :: t4 :: rest)) _
  rcases hk with rfl | rfl
  · rw [if_pos rfl] at hw
    refine st_plain (n := 0) (by rw [hw]; decide) (by rw [hw]; decide) ?_
    unfold plainF
    rw [hw, if_neg (by decide), if_neg (by decide), if_pos (Or.inl rfl)]
    simp only [List.tail_cons, open_yes (d := d) (is_yes (Or.inl h1) _) (by omega), thenT, nameThen, name_is h2, take_yes (is_yes (Or.inl h3) _), take_yes (is_yes (Or.inl h4) _), posOf, if_true]
  · rw [if_neg (by decide)] at hw
    refine st_plain (n := 0) (by rw [hw]; decide) (by rw [hw]; decide) ?_
    unfold plainF
    rw [hw, if_neg (by decide), if_neg (by decide), if_pos (Or.inr rfl)]
    simp only [List.tail_cons, open_yes (d := d) (is_yes (Or.inl h1) _) (by omega), thenT, nameThen, name_is h2, take_yes (is_yes (Or.inl h3) _), take_yes (is_yes (Or.inl h4) _), posOf]
    rw [if_neg (by decide)]
theorem read_fence {p : Int} : RdS e (.mk 14 0 p [] []) := by
  intro d l1 rest hl _ _
  rw [toksN, if_neg (by decide)] at hl
  simp only [partsT] at hl
  obtain ⟨t0, q, rfl, h0, hl⟩ := strip_cons (by simpa using hl)
  obtain ⟨t1, q, rfl, h1, hl⟩ := strip_cons hl
  obtain rfl : q = [] := by simpa using hl
  have hw := word_is h0 (t1 :: rest)
  refine ⟨.mk 14 0 t0.pos [] [], ?_, by simp [erase, erases]⟩
  show Tell (fun n => stmtF e n d (t0 :: t1 :: rest)) _
  refine st_plain (n := 0) (by rw [hw]; decide) (by rw [hw]; decide) ?_
  unfold plainF
  rw [hw, if_neg (by decide), if_neg (by decide), if_neg (by decide), if_pos rfl]
  simp only [List.tail_cons, thenT, take_yes (is_yes (Or.inl h1) rest), posOf]
end
end

section
/-- How an expression begins. -/
theorem head_x : ∀ N x, ndSize x ≤ N → WfX x → ∃ a A, toksX x = a :: A ∧ (a.1 = 1 ∨ a.1 = 3 ∨ (a.1 = 4 ∧ (a.2.2 = [45] ∨ a.2.2 = [33] ∨ a.2.2 = [40])))
  | 0, .mk _ _ _ _ _, hN, _ => by simp [ndSize] at hN
  | N + 1, .mk k n p t ks, hN, hw => by
    unfold WfX at hw
    rcases hw with ⟨rfl, _, _, rfl, rfl⟩ | ⟨hk15, rfl, hw⟩
    · exact ⟨_, _, by rw [toksX, if_pos rfl], Or.inr (Or.inl rfl)⟩
    · match ks, hw with
      | [], hw => exact ⟨_, _, by rw [toksX, if_neg hk15], Or.inl rfl⟩
      | [a], hw =>
        refine ⟨(4, 0, if k = 17 then [45] else [33]), _, by rw [toksX, if_neg hk15], Or.inr (Or.inr ⟨rfl, ?_⟩)⟩
        by_cases h : k = 17
        · exact Or.inl (if_pos h)
        · exact Or.inr (Or.inl (if_neg h))
      | [a, b], hw =>
        obtain ⟨rfl, hl0, hwa, hwb⟩ := hw
        obtain ⟨h, A, hA, hh⟩ := head_x N a (by simp only [ndSize, ndsSize] at hN; omega) hwa
        rw [toksX, if_neg (by decide)]
        split
        · exact ⟨(4, 0, [40]), _, by simp only [List.cons_append, List.nil_append]; rfl, Or.inr (Or.inr ⟨rfl, Or.inr (Or.inr rfl)⟩)⟩
        · exact ⟨h, _, by rw [hA]; simp only [List.cons_append]; rfl, hh⟩
theorem no_cas {x : Nd} (hw : WfX x) (l r : List Tok) (hl : l.map strip = toksX x) : isTok wCas (l ++ r) = false := by
  obtain ⟨a, A, hA, ha⟩ := head_x (ndSize x) x (Nat.le_refl _) hw
  rw [hA] at hl
  obtain ⟨t, q, rfl, ht, _⟩ := strip_cons hl
  obtain ⟨a1, a2, a3⟩ := a
  rcases ha with h | h | ⟨h, h2⟩
  · exact is_kind ht (Or.inl h) _
  · exact is_kind ht (Or.inr h) _
  · refine is_other ht (fun e1 => ?_) _
    have h2' : a3 = [45] ∨ a3 = [33] ∨ a3 = [40] := h2
    rw [e1] at h2'
    revert h2'
    decide

/-- How a statement begins. -/
theorem head_s {x : Nd} (hw : WfN x) (h6 : 6 ≤ kindN x) (h14 : kindN x ≤ 14) : ∃ a A, toksN x = a :: A ∧ (a.1 = 1 ∨ (a.2.2 ≠ wElse ∧ a.2.2 ≠ [125])) := by
  match x, hw, h6, h14 with
  | .mk k n p t ks, hw, h6, h14 =>
    have h6' : 6 ≤ k := h6
    have h14' : k ≤ 14 := h14
    rw [toksN, if_neg (by omega)]
    have hk : k = 6 ∨ k = 7 ∨ k = 8 ∨ k = 9 ∨ k = 10 ∨ k = 11 ∨ k = 12 ∨ k = 13 ∨ k = 14 := by omega
    rcases hk with rfl | rfl | rfl | rfl | rfl | rfl | rfl | rfl | rfl
    · exact ⟨(2, 0, wInt), _, rfl, Or.inr (by decide)⟩
    · exact ⟨(1, 0, t), _, rfl, Or.inl rfl⟩
    · exact ⟨(1, 0, t), _, rfl, Or.inl rfl⟩
    · exact ⟨(2, 0, wIf), _, rfl, Or.inr (by decide)⟩
    · exact ⟨(2, 0, wWhile), _, rfl, Or.inr (by decide)⟩
    · exact ⟨(2, 0, wPrint), _, rfl, Or.inr (by decide)⟩
    · exact ⟨(2, 0, wLock), _, rfl, Or.inr (by decide)⟩
    · exact ⟨(2, 0, wUnlock), _, rfl, Or.inr (by decide)⟩
    · exact ⟨(2, 0, wFence), _, rfl, Or.inr (by decide)⟩
theorem head_is {x : Nd} (hw : WfN x) (h6 : 6 ≤ kindN x) (h14 : kindN x ≤ 14) {l : List Tok} (hl : l.map strip = toksN x) (r : List Tok) : isTok wElse (l ++ r) = false ∧ isTok [125] (l ++ r) = false := by
  obtain ⟨a, A, hA, ha⟩ := head_s hw h6 h14
  rw [hA] at hl
  obtain ⟨t, q, rfl, ht, _⟩ := strip_cons hl
  obtain ⟨a1, a2, a3⟩ := a
  rcases ha with h | ⟨h, h2⟩
  · exact ⟨is_kind ht (Or.inl h) _, is_kind ht (Or.inl h) _⟩
  · exact ⟨is_other ht h _, is_other ht h2 _⟩

section
variable {e : Int}
theorem read_list {c : Tok} (hc : strip c = (4, 0, [125])) (rest : List Tok) (d : Nat) : ∀ (ks : List Nd), (∀ x, x ∈ ks → RdS e x ∧ WfN x ∧ 6 ≤ kindN x ∧ kindN x ≤ 14 ∧ d + depN x ≤ 20) →
    ∀ (acc : List Nd) (l1 : List Tok), l1.map strip = (toksNs ks).flatten → ∃ ks', Tell (fun n => stmtsF e n d acc (l1 ++ c :: rest)) (.ok (acc ++ ks', c :: rest)) ∧ erases ks' = erases ks
  | [], _, acc, l1, hl => by
    obtain rfl : l1 = [] := by simpa [toksNs] using hl
    refine ⟨[], ⟨1, ?_⟩, rfl⟩
    show stmtsF e 1 d acc (c :: rest) = _
    rw [stmtsF, if_pos (is_yes (Or.inl hc) rest), List.append_nil]
  | x :: ks, h, acc, l1, hl => by
    obtain ⟨hx, hw, h6, h14, hdx⟩ := h x (by simp)
    have hl' : l1.map strip = toksN x ++ (toksNs ks).flatten := by simpa [toksNs] using hl
    obtain ⟨u, v, rfl, hu, hv⟩ := strip_app hl'
    have hh := head_is hw h6 h14 hu (v ++ c :: rest)
    have helse : isTok wElse (v ++ c :: rest) = false := by
      match ks, h, hv with
      | [], _, hv =>
        obtain rfl : v = [] := by simpa [toksNs] using hv
        exact is_other hc (by decide) rest
      | y :: r, h, hv =>
        obtain ⟨_, hwy, h6y, h14y, _⟩ := h y (by simp)
        have hv' : v.map strip = toksN y ++ (toksNs r).flatten := by simpa [toksNs] using hv
        obtain ⟨v1, v2, rfl, hv1, _⟩ := strip_app hv'
        rw [List.append_assoc]
        exact (head_is hwy h6y h14y hv1 _).1
    obtain ⟨x', ⟨n, hn⟩, he⟩ := hx d u (v ++ c :: rest) hu hdx helse
    obtain ⟨ks', ⟨m, hm⟩, hes⟩ := read_list hc rest d ks (fun y hy => h y (by simp [hy])) (acc ++ [x']) v hv
    refine ⟨x' :: ks', ⟨n + m + 1, ?_⟩, by simp [erases, he, hes]⟩
    show stmtsF e (n + m + 1) d acc (u ++ v ++ c :: rest) = _
    rw [List.append_assoc, stmtsF, if_neg (by rw [hh.2]; simp), tell_more (st_up d _) hn (by omega)]
    have hm2 : stmtsF e (n + m) d (acc ++ [x']) (v ++ c :: rest) = some (.ok (acc ++ [x'] ++ ks', c :: rest)) := tell_more (ss_up d _ _) hm (by omega)
    simp only [andT, hm2, List.append_assoc, List.cons_append, List.nil_append]
theorem maxL_le {ds : List Nat} {a m : Nat} (h : a ∈ ds) (hm : maxL ds ≤ m) : a ≤ m := by
  induction ds with
  | nil => cases h
  | cons b r ih =>
    simp only [maxL] at hm
    rcases List.mem_cons.1 h with rfl | h1
    · omega
    · exact ih h1 (by omega)
theorem depNs_mem : ∀ {ks : List Nd} {x : Nd}, x ∈ ks → depN x ∈ depNs ks
  | [], x, h => by cases h
  | y :: r, x, h => by
    rw [depNs]
    rcases List.mem_cons.1 h with rfl | h1
    · simp
    · simp [depNs_mem h1]
theorem wfNs_mem : ∀ {ks : List Nd} {x : Nd}, WfNs ks → x ∈ ks → WfN x
  | [], x, _, h => by cases h
  | y :: r, x, hw, h => by
    rw [WfNs] at hw
    rcases List.mem_cons.1 h with rfl | h1
    · exact hw.1
    · exact wfNs_mem hw.2 h1
theorem size_mem : ∀ {ks : List Nd} {x : Nd}, x ∈ ks → ndSize x ≤ ndsSize ks
  | [], x, h => by cases h
  | y :: r, x, h => by
    rw [ndsSize]
    rcases List.mem_cons.1 h with rfl | h1
    · omega
    · have := size_mem h1; omega
theorem read_block {p : Int} {ks : List Nd} (hw : WfNs ks) (hk : ∀ x, x ∈ ks → 6 ≤ kindN x ∧ kindN x ≤ 14) (h : ∀ x, x ∈ ks → RdS e x) : RdB e (.mk 5 0 p [] ks) := by
  intro d l1 rest hl hd
  rw [toksN, if_neg (by decide)] at hl
  simp only [partsT, if_true] at hl
  rw [depN, if_neg (by decide)] at hd
  simp only [depK, if_true] at hd
  obtain ⟨t0, q, rfl, h0, hl⟩ := strip_cons hl
  obtain ⟨u, v, rfl, hu, hv⟩ := strip_app hl
  obtain ⟨c, v, rfl, hc, hv⟩ := strip_cons hv
  obtain rfl : v = [] := by simpa using hv
  obtain ⟨ks', ⟨n, hn⟩, he⟩ := read_list (e := e) hc rest (d + 1) ks (fun x hx => ⟨h x hx, wfNs_mem hw hx, (hk x hx).1, (hk x hx).2, by have := maxL_le (depNs_mem hx) (Nat.le_refl _); omega⟩) [] u hu
  have hn2 : stmtsF e n (d + 1) [] (u ++ c :: rest) = some (.ok (ks', c :: rest)) := by simpa using hn
  refine ⟨.mk 5 0 t0.pos [] ks', ⟨n + 1, ?_⟩, by simp [erase, he]⟩
  have el : t0 :: (u ++ [c]) ++ rest = t0 :: (u ++ c :: rest) := by simp
  show blockF e (n + 1) d (t0 :: (u ++ [c]) ++ rest) = _
  rw [el, blockF, open_yes (is_yes (Or.inl h0) _) (by omega)]
  simp only [thenT, hn2, andT, take_yes (is_yes (Or.inl hc) rest), posOf]
theorem read_while {p : Int} {x b : Nd} (hx : WfX x) (ht : toksN x = toksX x) (hdx : depN x = depX x) (hb : RdB e b) : RdS e (.mk 10 0 p [] [x, b]) := by
  intro d l1 rest hl hd _
  rw [toksN, if_neg (by decide)] at hl
  simp only [partsT, toksNs, ht, List.getD_cons_zero, List.getD_cons_succ] at hl
  rw [depN, if_neg (by decide)] at hd
  simp only [depK, depNs, hdx, maxL, List.getD_cons_zero, List.drop_succ_cons, List.drop_zero] at hd
  obtain ⟨t0, q, rfl, h0, hl⟩ := strip_cons (by simpa using hl)
  obtain ⟨t1, q, rfl, h1, hl⟩ := strip_cons hl
  obtain ⟨u, v, rfl, hu, hv⟩ := strip_app hl
  obtain ⟨c, v, rfl, hc, hv⟩ := strip_cons hv
  have hd' : d + max (1 + depX x) (max (depN b) 0) ≤ 20 := by simpa using hd
  obtain ⟨x', ⟨n, hn⟩, he⟩ := held_x (e := e) hx (d := d) (rest := v ++ rest) hu (by omega) h1 hc
  obtain ⟨b', ⟨m, hm⟩, heb⟩ := hb d v rest hv (by omega)
  have hn2 : heldF e (n + m) d (t1 :: (u ++ c :: (v ++ rest))) = some (.ok (x', v ++ rest)) := tell_more (he_up _) hn (by omega)
  have hm2 : blockF e (n + m) d (v ++ rest) = some (.ok (b', rest)) := tell_more (bl_up d _) hm (by omega)
  have hw := word_is h0 (t1 :: (u ++ c :: (v ++ rest)))
  refine ⟨.mk 10 0 t0.pos [] [x', b'], ⟨n + m + 1, ?_⟩, by simp [erase, erases, he, heb]⟩
  have el : t0 :: t1 :: (u ++ c :: v) ++ rest = t0 :: t1 :: (u ++ c :: (v ++ rest)) := by simp
  show stmtF e (n + m + 1) d (t0 :: t1 :: (u ++ c :: v) ++ rest) = _
  rw [el, stmtF, hw, if_neg (by decide), if_pos rfl]
  simp only [List.tail_cons, hn2, andT, hm2, posOf]
theorem read_if {p : Int} {x b : Nd} (hx : WfX x) (ht : toksN x = toksX x) (hdx : depN x = depX x) (hb : RdB e b) : RdS e (.mk 9 0 p [] [x, b]) := by
  intro d l1 rest hl hd hel
  rw [toksN, if_neg (by decide)] at hl
  simp only [partsT, toksNs, ht, List.getD_cons_zero, List.getD_cons_succ, List.drop_succ_cons, List.drop_zero] at hl
  rw [depN, if_neg (by decide)] at hd
  simp only [depK, depNs, hdx, maxL, List.getD_cons_zero, List.drop_succ_cons, List.drop_zero] at hd
  obtain ⟨t0, q, rfl, h0, hl⟩ := strip_cons (by simpa using hl)
  obtain ⟨t1, q, rfl, h1, hl⟩ := strip_cons hl
  obtain ⟨u, v, rfl, hu, hv⟩ := strip_app hl
  obtain ⟨c, v, rfl, hc, hv⟩ := strip_cons hv
  have hd' : d + max (1 + depX x) (max (depN b) 0) ≤ 20 := by simpa using hd
  obtain ⟨x', ⟨n, hn⟩, he⟩ := held_x (e := e) hx (d := d) (rest := v ++ rest) hu (by omega) h1 hc
  obtain ⟨b', ⟨m, hm⟩, heb⟩ := hb d v rest (by simpa using hv) (by omega)
  have hn2 : heldF e (n + m) d (t1 :: (u ++ c :: (v ++ rest))) = some (.ok (x', v ++ rest)) := tell_more (he_up _) hn (by omega)
  have hm2 : blockF e (n + m) d (v ++ rest) = some (.ok (b', rest)) := tell_more (bl_up d _) hm (by omega)
  have hw := word_is h0 (t1 :: (u ++ c :: (v ++ rest)))
  refine ⟨.mk 9 0 t0.pos [] [x', b'], ⟨n + m + 1, ?_⟩, by simp [erase, erases, he, heb]⟩
  have el : t0 :: t1 :: (u ++ c :: v) ++ rest = t0 :: t1 :: (u ++ c :: (v ++ rest)) := by simp
  show stmtF e (n + m + 1) d (t0 :: t1 :: (u ++ c :: v) ++ rest) = _
  rw [el, stmtF, hw, if_pos rfl]
  simp only [List.tail_cons, hn2, andT, hm2, posOf, hel, Bool.false_eq_true, if_false]
theorem map1 {ks : List Nd} {a : Int} (h : ks.map kindN = [a]) : ∃ x, ks = [x] ∧ kindN x = a := by
  obtain ⟨x, r, rfl, h1, h2⟩ := List.map_eq_cons_iff.1 h
  obtain rfl : r = [] := by simpa using h2
  exact ⟨x, rfl, h1⟩
theorem map2 {ks : List Nd} {a b : Int} (h : ks.map kindN = [a, b]) : ∃ x y, ks = [x, y] ∧ kindN x = a ∧ kindN y = b := by
  obtain ⟨x, r, rfl, h1, h2⟩ := List.map_eq_cons_iff.1 h
  obtain ⟨y, rfl, h3⟩ := map1 h2
  exact ⟨x, y, rfl, h1, h3⟩
theorem map3 {ks : List Nd} {a b c : Int} (h : ks.map kindN = [a, b, c]) : ∃ x y z, ks = [x, y, z] ∧ kindN x = a ∧ kindN y = b ∧ kindN z = c := by
  obtain ⟨x, r, rfl, h1, h2⟩ := List.map_eq_cons_iff.1 h
  obtain ⟨y, z, rfl, h3, h4⟩ := map2 h2
  exact ⟨x, y, z, rfl, h1, h3, h4⟩
theorem read_else {p : Int} {x b b2 : Nd} (hx : WfX x) (ht : toksN x = toksX x) (hdx : depN x = depX x) (hb : RdB e b) (hb2 : RdB e b2) : RdS e (.mk 9 0 p [] [x, b, b2]) := by
  intro d l1 rest hl hd _
  rw [toksN, if_neg (by decide)] at hl
  simp only [partsT, toksNs, ht, List.getD_cons_zero, List.getD_cons_succ, List.drop_succ_cons, List.drop_zero] at hl
  rw [depN, if_neg (by decide)] at hd
  simp only [depK, depNs, hdx, maxL, List.getD_cons_zero, List.drop_succ_cons, List.drop_zero] at hd
  obtain ⟨t0, q, rfl, h0, hl⟩ := strip_cons (by simpa using hl)
  obtain ⟨t1, q, rfl, h1, hl⟩ := strip_cons hl
  obtain ⟨u, v, rfl, hu, hv⟩ := strip_app hl
  obtain ⟨c, v, rfl, hc, hv⟩ := strip_cons hv
  obtain ⟨v1, z, rfl, hv1, hz⟩ := strip_app hv
  obtain ⟨el0, z, rfl, hel, hz⟩ := strip_cons hz
  have hd' : d + max (1 + depX x) (max (depN b) (max (depN b2) 0)) ≤ 20 := by simpa using hd
  obtain ⟨x', ⟨n, hn⟩, he⟩ := held_x (e := e) hx (d := d) (rest := v1 ++ el0 :: (z ++ rest)) hu (by omega) h1 hc
  obtain ⟨b', ⟨m, hm⟩, heb⟩ := hb d v1 (el0 :: (z ++ rest)) hv1 (by omega)
  obtain ⟨b2', ⟨m2, hm2⟩, heb2⟩ := hb2 d z rest hz (by omega)
  have k1 : heldF e (n + m + m2) d (t1 :: (u ++ c :: (v1 ++ el0 :: (z ++ rest)))) = some (.ok (x', v1 ++ el0 :: (z ++ rest))) := tell_more (he_up _) hn (by omega)
  have k2 : blockF e (n + m + m2) d (v1 ++ el0 :: (z ++ rest)) = some (.ok (b', el0 :: (z ++ rest))) := tell_more (bl_up d _) hm (by omega)
  have k3 : blockF e (n + m + m2) d (z ++ rest) = some (.ok (b2', rest)) := tell_more (bl_up d _) hm2 (by omega)
  have hw := word_is h0 (t1 :: (u ++ c :: (v1 ++ el0 :: (z ++ rest))))
  refine ⟨.mk 9 0 t0.pos [] [x', b', b2'], ⟨n + m + m2 + 1, ?_⟩, by simp [erase, erases, he, heb, heb2]⟩
  have el : t0 :: t1 :: (u ++ c :: (v1 ++ el0 :: z)) ++ rest = t0 :: t1 :: (u ++ c :: (v1 ++ el0 :: (z ++ rest))) := by simp
  show stmtF e (n + m + m2 + 1) d (t0 :: t1 :: (u ++ c :: (v1 ++ el0 :: z)) ++ rest) = _
  rw [el, stmtF, hw, if_pos rfl]
  simp only [List.tail_cons, k1, andT, k2, posOf, is_yes (Or.inr hel) (z ++ rest), if_true, k3]

/-- WHAT IS PRINTED OF A STATEMENT, A BLOCK IS READ AS IT WAS. -/
theorem read_n (e : Int) : ∀ N x, ndSize x ≤ N → WfN x → (6 ≤ kindN x → kindN x ≤ 14 → RdS e x) ∧ (kindN x = 5 → RdB e x)
  | 0, .mk _ _ _ _ _, hN, _ => by simp [ndSize] at hN
  | N + 1, .mk k n p t ks, hN, hw => by
    have kid : ∀ x, x ∈ ks → WfN x ∧ ((6 ≤ kindN x → kindN x ≤ 14 → RdS e x) ∧ (kindN x = 5 → RdB e x)) ∨ 15 ≤ k := fun x hx => by
      by_cases h15 : 15 ≤ k
      · exact Or.inr h15
      · rw [WfN, if_neg h15] at hw
        have hs := size_mem hx
        exact Or.inl ⟨wfNs_mem hw.2.2 hx, read_n e N x (by simp only [ndSize] at hN; omega) (wfNs_mem hw.2.2 hx)⟩
    by_cases h15 : 15 ≤ k
    · exact ⟨fun _ h => absurd (show k ≤ 14 from h) (by omega), fun h => absurd (show k = 5 from h) (by omega)⟩
    rw [WfN, if_neg h15] at hw
    obtain ⟨rfl, hsh, hws⟩ := hw
    have kid2 : ∀ x, x ∈ ks → WfN x ∧ ((6 ≤ kindN x → kindN x ≤ 14 → RdS e x) ∧ (kindN x = 5 → RdB e x)) := fun x hx => (kid x hx).resolve_right h15
    rcases hsh with ⟨rfl, rfl, h⟩ | ⟨rfl, _, a, h, h2⟩ | ⟨rfl, _, a, h, h2⟩ | ⟨rfl, _, b, c, h, h2, h3⟩ | ⟨rfl, rfl, a, h2, h⟩ | ⟨rfl, rfl, a, h2, h⟩ | ⟨rfl, rfl, a, h, h2⟩ | ⟨h, _, h2⟩ | ⟨rfl, rfl, h⟩
    · refine ⟨fun h6 _ => absurd (show (6 : Int) ≤ 5 from h6) (by decide), fun _ => read_block hws (fun x hx => h _ (List.mem_map.2 ⟨x, hx, rfl⟩)) (fun x hx => ?_)⟩
      have hk := h _ (List.mem_map.2 ⟨x, hx, rfl⟩)
      exact (kid2 x hx).2.1 hk.1 hk.2
    · refine ⟨fun _ _ => ?_, fun h5 => absurd (show (6 : Int) = 5 from h5) (by decide)⟩
      · obtain ⟨x, rfl, rfl⟩ := map1 h
        obtain ⟨w1, w2, w3⟩ := wfN_x (kid2 x (by simp)).1 h2
        exact read_six w1 w2 w3
    · refine ⟨fun _ _ => ?_, fun h5 => absurd (show (7 : Int) = 5 from h5) (by decide)⟩
      · obtain ⟨x, rfl, rfl⟩ := map1 h
        obtain ⟨w1, w2, w3⟩ := wfN_x (kid2 x (by simp)).1 h2
        exact read_seven w1 w2 w3 (no_cas w1)
    · refine ⟨fun _ _ => ?_, fun h5 => absurd (show (8 : Int) = 5 from h5) (by decide)⟩
      · obtain ⟨y, x, z, rfl, hy, rfl, rfl⟩ := map3 h
        obtain ⟨w1, w2, w3⟩ := wfN_x (kid2 x (by simp)).1 h2
        obtain ⟨v1, v2, v3⟩ := wfN_x (kid2 z (by simp)).1 h3
        obtain ⟨u1, _, _⟩ := wfN_x (kid2 y (by simp)).1 (by omega)
        match y, hy, u1 with
        | .mk ky ny py ty ksy, hy, u1 =>
          obtain rfl : ky = 16 := hy
          unfold WfX at u1
          rcases u1 with u1 | ⟨_, rfl, u1⟩
          · exact absurd u1.1 (by decide)
          · match ksy, u1 with
            | [], u1 => exact read_eight w1 w2 w3 v1 v2 v3
            | [_], u1 => exact absurd u1.1 (by decide)
            | [_, _], u1 => exact absurd u1.1 (by decide)
    · refine ⟨fun _ _ => ?_, fun h5 => absurd (show (9 : Int) = 5 from h5) (by decide)⟩
      rcases h with h | h
      · obtain ⟨x, b, rfl, rfl, hb⟩ := map2 h
        · obtain ⟨w1, w2, w3⟩ := wfN_x (kid2 x (by simp)).1 h2
          exact read_if w1 w2 w3 ((kid2 b (by simp)).2.2 hb)
      · obtain ⟨x, b, c, rfl, rfl, hb, hc⟩ := map3 h
        · obtain ⟨w1, w2, w3⟩ := wfN_x (kid2 x (by simp)).1 h2
          exact read_else w1 w2 w3 ((kid2 b (by simp)).2.2 hb) ((kid2 c (by simp)).2.2 hc)
    · refine ⟨fun _ _ => ?_, fun h5 => absurd (show (10 : Int) = 5 from h5) (by decide)⟩
      · obtain ⟨x, b, rfl, rfl, hb⟩ := map2 h
        obtain ⟨w1, w2, w3⟩ := wfN_x (kid2 x (by simp)).1 h2
        exact read_while w1 w2 w3 ((kid2 b (by simp)).2.2 hb)
    · refine ⟨fun _ _ => ?_, fun h5 => absurd (show (11 : Int) = 5 from h5) (by decide)⟩
      · obtain ⟨x, rfl, rfl⟩ := map1 h
        obtain ⟨w1, w2, w3⟩ := wfN_x (kid2 x (by simp)).1 h2
        exact read_print w1 w2 w3
    · obtain rfl : ks = [] := by simpa using h2
      exact ⟨fun _ _ => read_lock h, fun h5 => absurd (show k = 5 from h5) (by omega)⟩
    · obtain rfl : ks = [] := by simpa using h
      exact ⟨fun _ _ => read_fence, fun h5 => absurd (show (14 : Int) = 5 from h5) (by decide)⟩
end
end

end Go.Proofs.YtclnjhffcfkihaeGreatDoor
