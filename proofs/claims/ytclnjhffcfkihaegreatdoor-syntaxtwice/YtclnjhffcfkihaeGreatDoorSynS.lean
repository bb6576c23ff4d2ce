/-
  Statements as they are printed: their tokens, how deep they are, and that they are read as they were.
-/
import Derived.Test.YtclnjhffcfkihaeGreatDoorSynR
namespace Go.Proofs.YtclnjhffcfkihaeGreatDoor
def kindN : Nd → Int
  | .mk k _ _ _ _ => k
def partsT (k : Int) (t : List UInt8) (ps : List (List Tk)) : List Tk :=
  if k = 5 then (4, 0, [123]) :: (ps.flatten ++ [(4, 0, [125])])
  else if k = 6 then (2, 0, wInt) :: (1, 0, t) :: (4, 0, [61]) :: (ps.getD 0 [] ++ [(4, 0, [59])])
  else if k = 7 then (1, 0, t) :: (4, 0, [61]) :: (ps.getD 0 [] ++ [(4, 0, [59])])
  else if k = 8 then (1, 0, t) :: (4, 0, [61]) :: (2, 0, wCas) :: (4, 0, [40]) :: (ps.getD 0 [] ++ (4, 0, [44]) :: (ps.getD 1 [] ++ (4, 0, [44]) :: (ps.getD 2 [] ++ [(4, 0, [41]), (4, 0, [59])])))
  else if k = 9 then (2, 0, wIf) :: (4, 0, [40]) :: (ps.getD 0 [] ++ (4, 0, [41]) :: (ps.getD 1 [] ++ match ps.drop 2 with
    | [] => []
    | c :: _ => (2, 0, wElse) :: c))
  else if k = 10 then (2, 0, wWhile) :: (4, 0, [40]) :: (ps.getD 0 [] ++ (4, 0, [41]) :: ps.getD 1 [])
  else if k = 11 then (2, 0, wPrint) :: (4, 0, [40]) :: (ps.getD 0 [] ++ [(4, 0, [41]), (4, 0, [59])])
  else if k = 12 then [(2, 0, wLock), (4, 0, [40]), (1, 0, t), (4, 0, [41]), (4, 0, [59])]
  else if k = 13 then [(2, 0, wUnlock), (4, 0, [40]), (1, 0, t), (4, 0, [41]), (4, 0, [59])]
  else [(2, 0, wFence), (4, 0, [59])]
mutual
/-- A node's tokens. -/
def toksN : Nd → List Tk
  | .mk k n p t ks => if 15 ≤ k then toksX (.mk k n p t ks) else partsT k t (toksNs ks)
def toksNs : List Nd → List (List Tk)
  | [] => []
  | x :: r => toksN x :: toksNs r
end
def ShapeN (k : Int) (t : List UInt8) (qs : List Int) : Prop :=
  (k = 5 ∧ t = [] ∧ ∀ q, q ∈ qs → 6 ≤ q ∧ q ≤ 14) ∨ (k = 6 ∧ NameOk t ∧ ∃ a, qs = [a] ∧ 15 ≤ a) ∨ (k = 7 ∧ NameOk t ∧ ∃ a, qs = [a] ∧ 15 ≤ a) ∨
  (k = 8 ∧ NameOk t ∧ ∃ b c, qs = [16, b, c] ∧ 15 ≤ b ∧ 15 ≤ c) ∨ (k = 9 ∧ t = [] ∧ ∃ a, 15 ≤ a ∧ (qs = [a, 5] ∨ qs = [a, 5, 5])) ∨ (k = 10 ∧ t = [] ∧ ∃ a, 15 ≤ a ∧ qs = [a, 5]) ∨
  (k = 11 ∧ t = [] ∧ ∃ a, qs = [a] ∧ 15 ≤ a) ∨ ((k = 12 ∨ k = 13) ∧ NameOk t ∧ qs = []) ∨ (k = 14 ∧ t = [] ∧ qs = [])
mutual
/-- What is a statement, a block, an expression. -/
def WfN : Nd → Prop
  | .mk k n p t ks => if 15 ≤ k then WfX (.mk k n p t ks) else n = 0 ∧ ShapeN k t (ks.map kindN) ∧ WfNs ks
def WfNs : List Nd → Prop
  | [] => True
  | x :: r => WfN x ∧ WfNs r
end
def maxL : List Nat → Nat
  | [] => 0
  | a :: r => max a (maxL r)
def depK (k : Int) (ds : List Nat) : Nat :=
  if k = 5 then 1 + maxL ds else if k = 6 ∨ k = 7 then maxL ds else if k = 9 ∨ k = 10 then max (1 + ds.getD 0 0) (maxL (ds.drop 1))
  else if k = 14 then 0 else 1 + maxL ds
mutual
/-- How many things are open within it at once. -/
def depN : Nd → Nat
  | .mk k n p t ks => if 15 ≤ k then depX (.mk k n p t ks) else depK k (depNs ks)
def depNs : List Nd → List Nat
  | [] => []
  | x :: r => depN x :: depNs r
end

theorem bind_nn {x : Nd} (h : WfX x) : 0 ≤ bindX x := by
  match x, h with
  | .mk k n p t ks, h =>
    unfold WfX at h
    rw [bindX]
    split
    · rename_i hk
      subst hk
      rcases h with h | ⟨_, _, h⟩
      · exact absurd h.1 (by decide)
      · match ks, h with
        | [], h => exact absurd h.1 (by decide)
        | [a], h => exact absurd h.1 (by decide)
        | [a, b], h => exact h.2.1
    · decide
theorem wfN_x {x : Nd} (h : WfN x) (hk : 15 ≤ kindN x) : WfX x ∧ toksN x = toksX x ∧ depN x = depX x := by
  match x, h, hk with
  | .mk k n p t ks, h, hk =>
    have hk' : 15 ≤ k := hk
    rw [WfN, if_pos hk'] at h
    exact ⟨h, by rw [toksN, if_pos hk'], by rw [depN, if_pos hk']⟩

section
variable {e : Int}
theorem word_is {t : Tok} {s : List UInt8} {v : Int} (h : strip t = (2, v, s)) (r : List Tok) : wordOf (t :: r) = s := by
  simp only [strip, Prod.mk.injEq] at h
  simp [wordOf, h.1, h.2.2]
theorem word_no {t : Tok} {s : List UInt8} {v : Int} (h : strip t = (1, v, s)) (r : List Tok) : wordOf (t :: r) = [] := by
  simp only [strip, Prod.mk.injEq] at h
  simp [wordOf, h.1]
theorem name_is {t : Tok} {s : List UInt8} {v : Int} (h : strip t = (1, v, s)) (r : List Tok) : nameT e (t :: r) = .ok (s, r) := by
  simp only [strip, Prod.mk.injEq] at h
  rw [nameT, if_pos h.1, h.2.2]

/-- An expression ahead of a sign that is none between. -/
theorem tell_x {x : Nd} (hw : WfX x) {d : Nat} {l1 rest : List Tok} {c : Tok} {s : List UInt8} (hl : l1.map strip = toksX x) (hd : d + depX x ≤ 20) (hc : strip c = (4, 0, s)) (hs : lvl s < 0) :
    ∃ x', Tell (fun n => exprF e n 0 d (l1 ++ c :: rest)) (.ok (x', c :: rest)) ∧ erase x' = erase x := by
  have h0 := bind_nn hw
  have e0 : ¬ bindX x < ((0 : Nat) : Int) := by simp; exact h0
  refine (read_all e (ndSize x) x (Nat.le_refl _) hw).2.1 0 (by omega) d l1 (c :: rest) (by unfold sideX; rw [if_neg e0]; exact hl) (by unfold depS; rw [if_neg e0]; exact hd) ?_
  intro _
  have : c.text = s := by simp only [strip, Prod.mk.injEq] at hc; exact hc.2.2
  rw [this]
  simpa using hs

/-- What reads a statement, a block. -/
def RdS (e : Int) (x : Nd) : Prop := ∀ (d : Nat) (l1 rest : List Tok), l1.map strip = toksN x → d + depN x ≤ 20 → isTok wElse rest = false → ∃ x', Tell (fun n => stmtF e n d (l1 ++ rest)) (.ok (x', rest)) ∧ erase x' = erase x
def RdB (e : Int) (x : Nd) : Prop := ∀ (d : Nat) (l1 rest : List Tok), l1.map strip = toksN x → d + depN x ≤ 20 → ∃ x', Tell (fun n => blockF e n d (l1 ++ rest)) (.ok (x', rest)) ∧ erase x' = erase x
theorem st_up (d : Nat) (l : List Tok) : ∀ n, Le (stmtF e n d l) (stmtF e (n + 1) d l) := fun n => (stmt_le e n).1 d l
theorem bl_up (d : Nat) (l : List Tok) : ∀ n, Le (blockF e n d l) (blockF e (n + 1) d l) := fun n => (stmt_le e n).2.1 d l
theorem ss_up (d : Nat) (ks : List Nd) (l : List Tok) : ∀ n, Le (stmtsF e n d ks l) (stmtsF e (n + 1) d ks l) := fun n => (stmt_le e n).2.2 d ks l
theorem st_plain {d n : Nat} {l : List Tok} {r : TRes Nd} (h1 : wordOf l ≠ wIf) (h2 : wordOf l ≠ wWhile) (h : plainF e n d l = some r) : Tell (fun n => stmtF e n d l) r :=
  ⟨n + 1, by show stmtF e (n + 1) d l = _; rw [stmtF, if_neg h1, if_neg h2]; exact h⟩
theorem held_x {x : Nd} (hw : WfX x) {d : Nat} {l1 rest : List Tok} {o c : Tok} (hl : l1.map strip = toksX x) (hd : d + (1 + depX x) ≤ 20) (ho : strip o = (4, 0, [40])) (hc : strip c = (4, 0, [41])) :
    ∃ x', Tell (fun n => heldF e n d (o :: (l1 ++ c :: rest))) (.ok (x', rest)) ∧ erase x' = erase x := by
  obtain ⟨x', ⟨n, hn⟩, he⟩ := tell_x (e := e) hw (d := d + 1) (rest := rest) hl (by omega) hc (by decide)
  refine ⟨x', ⟨n + 1, ?_⟩, he⟩
  have hn2 : exprF e n 0 (d + 1) (l1 ++ c :: rest) = some (.ok (x', c :: rest)) := hn
  show heldF e (n + 1) d (o :: (l1 ++ c :: rest)) = _
  rw [heldF, open_yes (is_yes (Or.inl ho) _) (by omega)]
  simp only [thenT, hn2, andT, take_yes (is_yes (Or.inl hc) rest)]

theorem read_six {p : Int} {t : List UInt8} {x : Nd} (hx : WfX x) (ht : toksN x = toksX x) (hdx : depN x = depX x) : RdS e (.mk 6 0 p t [x]) := by
  intro d l1 rest hl hd _
  rw [toksN, if_neg (by decide)] at hl
  simp only [partsT, toksNs, ht, List.getD_cons_zero] at hl
  rw [depN, if_neg (by decide)] at hd
  simp only [depK, depNs, hdx, maxL] at hd
  obtain ⟨t0, q, rfl, h0, hl⟩ := strip_cons (by simpa using hl)
  obtain ⟨t1, q, rfl, h1, hl⟩ := strip_cons hl
  obtain ⟨t2, q, rfl, h2, hl⟩ := strip_cons hl
  obtain ⟨u, v, rfl, hu, hv⟩ := strip_app hl
  obtain ⟨c, v, rfl, hc, hv⟩ := strip_cons hv
  obtain rfl : v = [] := by simpa using hv
  obtain ⟨x', ⟨n, hn⟩, he⟩ := tell_x (e := e) hx (d := d) (rest := rest) hu (by simpa using hd) hc (by decide)
  have hn2 : exprF e n 0 d (u ++ c :: rest) = some (.ok (x', c :: rest)) := hn
  have hw := word_is h0 (t1 :: t2 :: (u ++ c :: rest))
  refine ⟨.mk 6 0 t0.pos t [x'], ?_, by simp [erase, erases, he]⟩
  have el : t0 :: t1 :: t2 :: (u ++ [c]) ++ rest = t0 :: t1 :: t2 :: (u ++ c :: rest) := by simp
  rw [el]
  refine st_plain (n := n) (by rw [hw]; decide) (by rw [hw]; decide) ?_
  unfold plainF
  rw [if_pos hw]
  simp only [List.tail_cons, nameThen, name_is h1, thenT, take_yes (is_yes (Or.inl h2) _), exprThen, hn2, andT, take_yes (is_yes (Or.inl hc) rest), posOf]
theorem read_seven {p : Int} {t : List UInt8} {x : Nd} (hx : WfX x) (ht : toksN x = toksX x) (hdx : depN x = depX x) (hnc : ∀ (l : List Tok) r, l.map strip = toksX x → isTok wCas (l ++ r) = false) : RdS e (.mk 7 0 p t [x]) := by
  intro d l1 rest hl hd _
  rw [toksN, if_neg (by decide)] at hl
  simp only [partsT, toksNs, ht, List.getD_cons_zero] at hl
  rw [depN, if_neg (by decide)] at hd
  simp only [depK, depNs, hdx, maxL] at hd
  obtain ⟨t1, q, rfl, h1, hl⟩ := strip_cons (by simpa using hl)
  obtain ⟨t2, q, rfl, h2, hl⟩ := strip_cons hl
  obtain ⟨u, v, rfl, hu, hv⟩ := strip_app hl
  obtain ⟨c, v, rfl, hc, hv⟩ := strip_cons hv
  obtain rfl : v = [] := by simpa using hv
  obtain ⟨x', ⟨n, hn⟩, he⟩ := tell_x (e := e) hx (d := d) (rest := rest) hu (by simpa using hd) hc (by decide)
  have hn2 : exprF e n 0 d (u ++ c :: rest) = some (.ok (x', c :: rest)) := hn
  have hw := word_no h1 (t2 :: (u ++ c :: rest))
  refine ⟨.mk 7 0 t1.pos t [x'], ?_, by simp [erase, erases, he]⟩
  have el : t1 :: t2 :: (u ++ [c]) ++ rest = t1 :: t2 :: (u ++ c :: rest) := by simp
  rw [el]
  refine st_plain (n := n) (by rw [hw]; decide) (by rw [hw]; decide) ?_
  unfold plainF
  rw [hw, if_neg (by decide), if_neg (by decide), if_neg (by decide), if_neg (by decide)]
  unfold assignF
  simp only [nameThen, name_is h1, thenT, take_yes (is_yes (Or.inl h2) _), hnc u (c :: rest) hu, exprThen, hn2, andT, take_yes (is_yes (Or.inl hc) rest), posOf, Bool.false_eq_true, if_false]
theorem read_eight {p p2 : Int} {t s : List UInt8} {x y : Nd} (hx : WfX x) (ht : toksN x = toksX x) (hdx : depN x = depX x) (hy : WfX y) (hty : toksN y = toksX y) (hdy : depN y = depX y) : RdS e (.mk 8 0 p t [.mk 16 0 p2 s [], x, y]) := by
  intro d l1 rest hl hd _
  have hs1 : toksN (.mk 16 0 p2 s []) = [(1, 0, s)] := by rw [toksN, if_pos (by decide), toksX, if_neg (by decide)]
  have hs2 : depN (.mk 16 0 p2 s []) = 0 := by rw [depN, if_pos (by decide), depX, if_neg (by decide)]
  rw [toksN, if_neg (by decide)] at hl
  simp only [partsT, toksNs, ht, hty, hs1, List.getD_cons_zero, List.getD_cons_succ] at hl
  rw [depN, if_neg (by decide)] at hd
  simp only [depK, depNs, hdx, hdy, hs2, maxL] at hd
  obtain ⟨t1, q, rfl, h1, hl⟩ := strip_cons (by simpa using hl)
  obtain ⟨t2, q, rfl, h2, hl⟩ := strip_cons hl
  obtain ⟨t3, q, rfl, h3, hl⟩ := strip_cons hl
  obtain ⟨t4, q, rfl, h4, hl⟩ := strip_cons hl
  obtain ⟨t5, q, rfl, h5, hl⟩ := strip_cons hl
  obtain ⟨t6, q, rfl, h6, hl⟩ := strip_cons hl
  obtain ⟨u, q, rfl, hu, hl⟩ := strip_app hl
  obtain ⟨c1, q, rfl, hc1, hl⟩ := strip_cons hl
  obtain ⟨z, q, rfl, hz, hl⟩ := strip_app hl
  obtain ⟨c2, q, rfl, hc2, hl⟩ := strip_cons hl
  obtain ⟨c3, q, rfl, hc3, hl⟩ := strip_cons hl
  obtain rfl : q = [] := by simpa using hl
  have hd' : d + (1 + max 0 (max (depX x) (max (depX y) 0))) ≤ 20 := by simpa using hd
  obtain ⟨x', ⟨n, hn⟩, he⟩ := tell_x (e := e) hx (d := d + 1) (rest := z ++ c2 :: c3 :: rest) hu (by omega) hc1 (by decide)
  obtain ⟨y', ⟨m, hm⟩, hey⟩ := tell_x (e := e) hy (d := d + 1) (rest := c3 :: rest) hz (by omega) hc2 (by decide)
  have hn2 : exprF e (n + m) 0 (d + 1) (u ++ c1 :: (z ++ c2 :: c3 :: rest)) = some (.ok (x', c1 :: (z ++ c2 :: c3 :: rest))) := tell_more (ex_up 0 _) hn (by omega)
  have hm2 : exprF e (n + m) 0 (d + 1) (z ++ c2 :: c3 :: rest) = some (.ok (y', c2 :: c3 :: rest)) := tell_more (ex_up 0 _) hm (by omega)
  have hw := word_no h1 (t2 :: t3 :: t4 :: t5 :: t6 :: (u ++ c1 :: (z ++ c2 :: c3 :: rest)))
  refine ⟨.mk 8 0 t1.pos t [.mk 16 0 t5.pos s [], x', y'], ?_, by simp [erase, erases, he, hey]⟩
  have el : t1 :: t2 :: t3 :: t4 :: t5 :: t6 :: (u ++ c1 :: (z ++ [c2, c3])) ++ rest = t1 :: t2 :: t3 :: t4 :: t5 :: t6 :: (u ++ c1 :: (z ++ c2 :: c3 :: rest)) := by simp
  rw [el]
  refine st_plain (n := n + m) (by rw [hw]; decide) (by rw [hw]; decide) ?_
  unfold plainF
  rw [hw, if_neg (by decide), if_neg (by decide), if_neg (by decide), if_neg (by decide)]
  unfold assignF
  simp only [nameThen, name_is h1, name_is h5, thenT, take_yes (is_yes (Or.inl h2) _), is_yes (Or.inr h3) _, if_true, take_yes (is_yes (Or.inr h3) _), open_yes (d := d) (is_yes (Or.inl h4) _) (by omega), take_yes (is_yes (Or.inl h6) _), exprThen, hn2, hm2, andT, take_yes (is_yes (Or.inl hc1) _), take_yes (is_yes (Or.inl hc2) _), take_yes (is_yes (Or.inl hc3) _), posOf]
theorem read_print {p : Int} {x : Nd} (hx : WfX x) (ht : toksN x = toksX x) (hdx : depN x = depX x) : RdS e (.mk 11 0 p [] [x]) := by
  intro d l1 rest hl hd _
  rw [toksN, if_neg (by decide)] at hl
  simp only [partsT, toksNs, ht, List.getD_cons_zero] at hl
  rw [depN, if_neg (by decide)] at hd
  simp only [depK, depNs, hdx, maxL] at hd
  obtain ⟨t0, q, rfl, h0, hl⟩ := strip_cons (by simpa using hl)
  obtain ⟨t1, q, rfl, h1, hl⟩ := strip_cons hl
  obtain ⟨u, v, rfl, hu, hv⟩ := strip_app hl
  obtain ⟨c, v, rfl, hc, hv⟩ := strip_cons hv
  obtain ⟨c2, v, rfl, hc2, hv⟩ := strip_cons hv
  obtain rfl : v = [] := by simpa using hv
  obtain ⟨x', ⟨n, hn⟩, he⟩ := held_x (e := e) hx (d := d) (rest := c2 :: rest) hu (by simpa using hd) h1 hc
  have hn2 : heldF e n d (t1 :: (u ++ c :: c2 :: rest)) = some (.ok (x', c2 :: rest)) := hn
  have hw := word_is h0 (t1 :: (u ++ c :: c2 :: rest))
  refine ⟨.mk 11 0 t0.pos [] [x'], ?_, by simp [erase, erases, he]⟩
  have el : t0 :: t1 :: (u ++ [c, c2]) ++ rest = t0 :: t1 :: (u ++ c :: c2 :: rest) := by simp
  rw [el]
  refine st_plain (n := n) (by rw [hw]; decide) (by rw [hw]; decide) ?_
  unfold plainF
  rw [hw, if_neg (by decide), if_pos rfl]
  simp only [List.tail_cons, hn2, andT, thenT, take_yes (is_yes (Or.inl hc2) rest), posOf]
theorem read_lock {k p : Int} {t : List UInt8} (hk : k = 12 ∨ k = 13) : RdS e (.mk k 0 p t []) := by
  intro d l1 rest hl hd _
  rw [toksN, if_neg (by omega)] at hl
  rw [depN, if_neg (by omega)] at hd
  have hd' : d + 1 ≤ 20 := by
    rcases hk with rfl | rfl <;> simpa [depK, depNs, maxL] using hd
  have hl' : l1.map strip = [(2, 0, if k = 12 then wLock else wUnlock), (4, 0, [40]), (1, 0, t), (4, 0, [41]), (4, 0, [59])] := by
    rcases hk with rfl | rfl <;> simpa [partsT] using hl
  obtain ⟨t0, q, rfl, h0, hl⟩ := strip_cons hl'
  obtain ⟨t1, q, rfl, h1, hl⟩ := strip_cons hl
  obtain ⟨t2, q, rfl, h2, hl⟩ := strip_cons hl
  obtain ⟨t3, q, rfl, h3, hl⟩ := strip_cons hl
  obtain ⟨t4, q, rfl, h4, hl⟩ := strip_cons hl
  obtain rfl : q = [] := by simpa using hl
  have hw := word_is h0 (t1 :: t2 :: t3 :: t4 :: rest)
  refine ⟨.mk k 0 t0.pos t [], ?_, by simp [erase, erases]⟩
  show Tell (fun n => stmtF e n d (t0 :: t1 :: t2 :: t3 :: t4 :: rest)) _
  rcases hk with rfl | rfl
  · rw [if_pos rfl] at hw
    refine st_plain (n := 0) (by rw [hw]; decide) (by rw [hw]; decide) ?_
    unfold plainF
    rw [hw, if_neg (by decide), if_neg (by decide), if_pos (Or.inl rfl)]
    simp only [List.tail_cons, open_yes (d := d) (is_yes (Or.inl h1) _) (by omega), thenT, nameThen, name_is h2, take_yes (is_yes (Or.inl h3) _), take_yes (is_yes (Or.inl h4) _), posOf, if_true]
  · rw [if_neg (by decide)] at hw
    refine st_plain (n := 0) (by rw [hw]; decide) (by rw [hw]; decide) ?_
    unfold plainF
    rw [hw, if_neg (by decide), if_neg (by decide), if_pos (Or.inr rfl)]
    simp only [List.tail_cons, open_yes (d := d) (is_yes (Or.inl h1) _) (by omega), thenT, nameThen, name_is h2, take_yes (is_yes (Or.inl h3) _), take_yes (is_yes (Or.inl h4) _), posOf]
    rw [if_neg (by decide)]
theorem read_fence {p : Int} : RdS e (.mk 14 0 p [] []) := by
  intro d l1 rest hl _ _
  rw [toksN, if_neg (by decide)] at hl
  simp only [partsT] at hl
  obtain ⟨t0, q, rfl, h0, hl⟩ := strip_cons (by simpa using hl)
  obtain ⟨t1, q, rfl, h1, hl⟩ := strip_cons hl
  obtain rfl : q = [] := by simpa using hl
  have hw := word_is h0 (t1 :: rest)
  refine ⟨.mk 14 0 t0.pos [] [], ?_, by simp [erase, erases]⟩
  show Tell (fun n => stmtF e n d (t0 :: t1 :: rest)) _
  refine st_plain (n := 0) (by rw [hw]; decide) (by rw [hw]; decide) ?_
  unfold plainF
  rw [hw, if_neg (by decide), if_neg (by decide), if_neg (by decide), if_pos rfl]
  simp only [List.tail_cons, thenT, take_yes (is_yes (Or.inl h1) rest), posOf]
end

end Go.Proofs.YtclnjhffcfkihaeGreatDoor
