/-
  Statements, blocks and programs as pieces of a text; what is printed is read as it was.
-/
import Derived.Test.YtclnjhffcfkihaeGreatDoorSynT
namespace Go.Proofs.YtclnjhffcfkihaeGreatDoor
/-- A tab for each block around. -/
def tabsP (i : Nat) : List Pc := List.replicate i (.b 9)
theorem tabs_t : ∀ (i : Nat) (r : List Pc), pcsT (tabsP i ++ r) = pcsT r
  | 0, _ => rfl
  | i + 1, r => by
    show pcsT (.b 9 :: (tabsP i ++ r)) = _
    rw [pcsT]; exact tabs_t i r
theorem tabs_ok {s : List UInt8} : ∀ (i : Nat) {r : List Pc}, PcOk s r → PcOk s (tabsP i ++ r)
  | 0, _, h => h
  | i + 1, r, h => by
    show PcOk s (.b 9 :: (tabsP i ++ r))
    exact ⟨by decide, tabs_ok i h⟩
abbrev pS (c : UInt8) : Pc := .t (4, 0, [c])
abbrev pW (w : List UInt8) : Pc := .t (2, 0, w)
abbrev pNm (t : List UInt8) : Pc := .t (1, 0, t)
/-- A node's pieces, of those of its kids; i blocks around. -/
def partsP (i : Nat) (k : Int) (t : List UInt8) (ps : List (List Pc)) : List Pc :=
  if k = 5 then pS 123 :: .b 10 :: (ps.flatten ++ (tabsP i ++ [pS 125]))
  else tabsP i ++ (
  if k = 6 then pW wInt :: .b 32 :: pNm t :: .b 32 :: pS 61 :: .b 32 :: (ps.getD 0 [] ++ [pS 59, .b 10])
  else if k = 7 then pNm t :: .b 32 :: pS 61 :: .b 32 :: (ps.getD 0 [] ++ [pS 59, .b 10])
  else if k = 8 then pNm t :: .b 32 :: pS 61 :: .b 32 :: pW wCas :: pS 40 :: (ps.getD 0 [] ++ pS 44 :: .b 32 :: (ps.getD 1 [] ++ pS 44 :: .b 32 :: (ps.getD 2 [] ++ [pS 41, pS 59, .b 10])))
  else if k = 9 then pW wIf :: .b 32 :: pS 40 :: (ps.getD 0 [] ++ pS 41 :: .b 32 :: (ps.getD 1 [] ++ match ps.drop 2 with
    | [] => [.b 10]
    | c :: _ => .b 32 :: pW wElse :: .b 32 :: (c ++ [.b 10])))
  else if k = 10 then pW wWhile :: .b 32 :: pS 40 :: (ps.getD 0 [] ++ pS 41 :: .b 32 :: (ps.getD 1 [] ++ [.b 10]))
  else if k = 11 then pW wPrint :: pS 40 :: (ps.getD 0 [] ++ [pS 41, pS 59, .b 10])
  else if k = 12 then [pW wLock, pS 40, pNm t, pS 41, pS 59, .b 10]
  else if k = 13 then [pW wUnlock, pS 40, pNm t, pS 41, pS 59, .b 10]
  else [pW wFence, pS 59, .b 10])
mutual
/-- A node's pieces, i blocks around. -/
def pcsN (i : Nat) : Nd → List Pc
  | .mk k n p t ks => if 15 ≤ k then pcsX (.mk k n p t ks) else partsP i k t (pcsNs (if k = 5 then i + 1 else i) ks)
def pcsNs (i : Nat) : List Nd → List (List Pc)
  | [] => []
  | x :: r => pcsN i x :: pcsNs i r
end

theorem fol_b {a : Tk} (h : TkOk a) {c : UInt8} (hc : endB c = true) {q : List UInt8} : folB a (c :: q) :=
  fol_any h fun d hd => by simp only [List.head?_cons, Option.some.injEq] at hd; rw [← hd]; exact hc
theorem fol_s {a : Tk} (h : TkOk a) (h4 : a.1 = 4) {c : UInt8} (hc : endS c = true) {q : List UInt8} : folB a (c :: q) :=
  fol_sign h h4 fun d hd => by simp only [List.head?_cons, Option.some.injEq] at hd; rw [← hd]; exact hc
theorem head_b {c : UInt8} (hc : endB c = true) {q : List UInt8} : ∀ d, (c :: q).head? = some d → endB d = true := fun d hd => by
  simp only [List.head?_cons, Option.some.injEq] at hd; rw [← hd]; exact hc
theorem tk_s {c : UInt8} (h : c ∈ oneS) : TkOk (4, 0, [c]) := Or.inr (Or.inr (Or.inr ⟨rfl, rfl, Or.inr ⟨c, rfl, h⟩⟩))
theorem tk_w {w : List UInt8} (h : isWord w = true) : TkOk (2, 0, w) := Or.inr (Or.inl ⟨rfl, rfl, h⟩)
theorem tk_n {t : List UInt8} (h : NameOk t) : TkOk (1, 0, t) := Or.inl ⟨rfl, rfl, h⟩
/-- A sign ahead of an expression. -/
theorem fol_x {a : Tk} (h : TkOk a) (h4 : a.1 = 4) {P : List Pc} {T : List Tk} (hP : GoodX P T) {r : List Pc} {s : List UInt8} : folB a (pcsB (P ++ r) ++ s) := by
  obtain ⟨_, ⟨c, q, h2, h3⟩, _⟩ := hP
  rw [pcsB_app, h2]
  exact fol_s h h4 (beg_end h3)
/-- An expression, and what stands behind it. -/
theorem x_then {P r : List Pc} {T : List Tk} {s : List UInt8} (hP : GoodX P T) (hr : ∀ c, (pcsB r ++ s).head? = some c → endB c = true) (h : PcOk s r) : PcOk s (P ++ r) := PcOk.app (hP.2.2 _ hr) h

/-- What is well of a block's pieces. -/
def PcB (P : List Pc) (T : List Tk) : Prop := pcsT P = T ∧ ∀ s, (∀ c, s.head? = some c → endB c = true) → PcOk s P
/-- .. of a statement's. -/
def PcS (P : List Pc) (T : List Tk) : Prop := pcsT P = T ∧ ∀ s, PcOk s P
theorem b_then {P r : List Pc} {T : List Tk} {s : List UInt8} (hP : PcB P T) (hr : ∀ c, (pcsB r ++ s).head? = some c → endB c = true) (h : PcOk s r) : PcOk s (P ++ r) := PcOk.app (hP.2 _ hr) h
def AllS : List (List Pc) → List (List Tk) → Prop
  | [], [] => True
  | p :: ps, t :: ts => PcS p t ∧ AllS ps ts
  | _, _ => False
theorem good_all : ∀ {ps : List (List Pc)} {ts : List (List Tk)}, AllS ps ts → PcS ps.flatten ts.flatten
  | [], [], _ => ⟨rfl, fun _ => trivial⟩
  | p :: ps, t :: ts, h => by
    obtain ⟨h1, h2⟩ := good_all h.2
    refine ⟨by rw [List.flatten_cons, pcsT_app, h.1.1, h1, List.flatten_cons], fun s => ?_⟩
    rw [List.flatten_cons]
    exact PcOk.app (h.1.2 _) (h2 s)

/-- What is well of a node's pieces. -/
def PcN (i : Nat) (x : Nd) : Prop := (15 ≤ kindN x → GoodX (pcsN i x) (toksN x)) ∧ (kindN x = 5 → PcB (pcsN i x) (toksN x)) ∧ (6 ≤ kindN x ∧ kindN x ≤ 14 → PcS (pcsN i x) (toksN x))
theorem stmts_ok {i : Nat} : ∀ {ks : List Nd}, (∀ x, x ∈ ks → PcN i x ∧ 6 ≤ kindN x ∧ kindN x ≤ 14) → AllS (pcsNs i ks) (toksNs ks)
  | [], _ => trivial
  | x :: r, h => by
    rw [pcsNs, toksNs]
    exact ⟨(h x (by simp)).1.2.2 (h x (by simp)).2, stmts_ok fun y hy => h y (by simp [hy])⟩
theorem one_kid {ks : List Nd} {a : Int} (h : ks.map kindN = [a]) : ∃ x, ks = [x] ∧ kindN x = a := by
  match ks, h with
  | [x], h => exact ⟨x, rfl, by simpa using h⟩
theorem two_kids {ks : List Nd} {a b : Int} (h : ks.map kindN = [a, b]) : ∃ x y, ks = [x, y] ∧ kindN x = a ∧ kindN y = b := by
  match ks, h with
  | [x, y], h => exact ⟨x, y, rfl, by simpa using h⟩
theorem three_kids {ks : List Nd} {a b c : Int} (h : ks.map kindN = [a, b, c]) : ∃ x y z, ks = [x, y, z] ∧ kindN x = a ∧ kindN y = b ∧ kindN z = c := by
  match ks, h with
  | [x, y, z], h => exact ⟨x, y, z, rfl, by simpa using h⟩
/-- A bracket ahead of a name. -/
theorem fol_name {t : List UInt8} (ht : NameOk t) {r : List Pc} {s : List UInt8} : folB (4, 0, [40]) (pcsB (pNm t :: r) ++ s) := by
  obtain ⟨⟨b, q, rfl, hl, _⟩, _⟩ := ht
  exact fol_s (tk_s (by decide)) rfl (c := b) (beg_end (by simp [begB, hl]))
/-- A statement's or block's pieces are well, if those of its kids are. -/
theorem good_node {i : Nat} {k p : Int} {t : List UInt8} {ks : List Nd} (hk : ¬ 15 ≤ k) (hs : ShapeN k t (ks.map kindN)) (hks : ∀ x, x ∈ ks → PcN (if k = 5 then i + 1 else i) x) : PcN i (.mk k 0 p t ks) := by
  refine ⟨fun h => absurd h hk, fun h5 => ?_, fun h6 => ?_⟩
  · obtain rfl : k = 5 := h5
    have hq : ∀ x, x ∈ ks → 6 ≤ kindN x ∧ kindN x ≤ 14 := by
      rcases hs with h | h | h | h | h | h | h | h | h
      · exact fun x hx => h.2.2 _ (List.mem_map_of_mem hx)
      all_goals omega
    have ha := good_all (stmts_ok (i := i + 1) (ks := ks) fun x hx => ⟨hks x hx, hq x hx⟩)
    rw [pcsN, if_neg hk, toksN, if_neg hk, if_pos rfl, partsP, if_pos rfl, partsT, if_pos rfl]
    refine ⟨?_, fun s hh => ?_⟩
    · show (4, 0, [123]) :: pcsT ((pcsNs (i + 1) ks).flatten ++ (tabsP i ++ [pS 125])) = _
      rw [pcsT_app, ha.1, tabs_t]; rfl
    · refine ⟨tk_s (by decide), fol_b (tk_s (by decide)) (c := 10) (by decide), by decide, PcOk.app (ha.2 _) (tabs_ok i ⟨tk_s (by decide), fol_any (tk_s (by decide)) hh, trivial⟩)⟩
  · have h6' : 6 ≤ k ∧ k ≤ 14 := h6
    have h5 : ¬ k = 5 := by omega
    rw [if_neg h5] at hks
    rw [pcsN, if_neg hk, toksN, if_neg hk, if_neg h5, partsP, if_neg h5, partsT, if_neg h5]
    rcases hs with h | ⟨rfl, ht, a, hq, ha⟩ | ⟨rfl, ht, a, hq, ha⟩ | ⟨rfl, ht, b, c, hq, hb, hc⟩ | ⟨rfl, rfl, a, ha, hq⟩ | ⟨rfl, rfl, a, ha, hq⟩ | ⟨rfl, rfl, a, hq, ha⟩ | ⟨hk2, ht, hq⟩ | ⟨rfl, rfl, hq⟩
    · omega
    · obtain ⟨x, rfl, rfl⟩ := one_kid hq
      have hx := (hks x (by simp)).1 ha
      simp only [pcsNs, toksNs, List.getD_cons_zero, if_true]
      refine ⟨?_, fun s => tabs_ok i ⟨tk_w (by decide), fol_b (tk_w (by decide)) (c := 32) (by decide), by decide, tk_n ht, fol_b (tk_n ht) (c := 32) (by decide), by decide, tk_s (by decide), fol_b (tk_s (by decide)) (c := 32) (by decide), by decide, x_then hx (head_b (c := 59) (by decide)) ⟨tk_s (by decide), fol_b (tk_s (by decide)) (c := 10) (by decide), by decide, trivial⟩⟩⟩
      rw [tabs_t]
      simp only [pcsT, pcsT_app, hx.1]
    · obtain ⟨x, rfl, rfl⟩ := one_kid hq
      have hx := (hks x (by simp)).1 ha
      simp only [pcsNs, toksNs, List.getD_cons_zero, if_true, show ¬ (7 : Int) = 6 by decide, if_false]
      refine ⟨?_, fun s => tabs_ok i ⟨tk_n ht, fol_b (tk_n ht) (c := 32) (by decide), by decide, tk_s (by decide), fol_b (tk_s (by decide)) (c := 32) (by decide), by decide, x_then hx (head_b (c := 59) (by decide)) ⟨tk_s (by decide), fol_b (tk_s (by decide)) (c := 10) (by decide), by decide, trivial⟩⟩⟩
      rw [tabs_t]
      simp only [pcsT, pcsT_app, hx.1]
    · obtain ⟨x, y, z, rfl, hx16, rfl, rfl⟩ := three_kids hq
      have hx := (hks x (by simp)).1 (by omega)
      have hy := (hks y (by simp)).1 hb
      have hz := (hks z (by simp)).1 hc
      simp only [pcsNs, toksNs, List.getD_cons_zero, List.getD_cons_succ, if_true, show ¬ (8 : Int) = 6 by decide, show ¬ (8 : Int) = 7 by decide, if_false]
      refine ⟨?_, fun s => tabs_ok i ⟨tk_n ht, fol_b (tk_n ht) (c := 32) (by decide), by decide, tk_s (by decide), fol_b (tk_s (by decide)) (c := 32) (by decide), by decide, tk_w (by decide), fol_b (tk_w (by decide)) (c := 40) (by decide), tk_s (by decide), fol_x (tk_s (by decide)) rfl hx, x_then hx (head_b (c := 44) (by decide)) ⟨tk_s (by decide), fol_b (tk_s (by decide)) (c := 32) (by decide), by decide, x_then hy (head_b (c := 44) (by decide)) ⟨tk_s (by decide), fol_b (tk_s (by decide)) (c := 32) (by decide), by decide, x_then hz (head_b (c := 41) (by decide)) ⟨tk_s (by decide), fol_b (tk_s (by decide)) (c := 59) (by decide), tk_s (by decide), fol_b (tk_s (by decide)) (c := 10) (by decide), by decide, trivial⟩⟩⟩⟩⟩
      rw [tabs_t]
      simp only [pcsT, pcsT_app, hx.1, hy.1, hz.1]
    · rcases hq with hq | hq
      · obtain ⟨x, y, rfl, rfl, hy5⟩ := two_kids hq
        have hx := (hks x (by simp)).1 ha
        have hy := (hks y (by simp)).2.1 hy5
        simp only [pcsNs, toksNs, List.getD_cons_zero, List.getD_cons_succ, List.drop_succ_cons, List.drop_zero, if_true, show ¬ (9 : Int) = 6 by decide, show ¬ (9 : Int) = 7 by decide, show ¬ (9 : Int) = 8 by decide, if_false]
        refine ⟨?_, fun s => tabs_ok i ⟨tk_w (by decide), fol_b (tk_w (by decide)) (c := 32) (by decide), by decide, tk_s (by decide), fol_x (tk_s (by decide)) rfl hx, x_then hx (head_b (c := 41) (by decide)) ⟨tk_s (by decide), fol_b (tk_s (by decide)) (c := 32) (by decide), by decide, b_then hy (head_b (c := 10) (by decide)) ⟨by decide, trivial⟩⟩⟩⟩
        rw [tabs_t]
        simp only [pcsT, pcsT_app, hx.1, hy.1, List.append_nil]
      · obtain ⟨x, y, z, rfl, rfl, hy5, hz5⟩ := three_kids hq
        have hx := (hks x (by simp)).1 ha
        have hy := (hks y (by simp)).2.1 hy5
        have hz := (hks z (by simp)).2.1 hz5
        simp only [pcsNs, toksNs, List.getD_cons_zero, List.getD_cons_succ, List.drop_succ_cons, List.drop_zero, if_true, show ¬ (9 : Int) = 6 by decide, show ¬ (9 : Int) = 7 by decide, show ¬ (9 : Int) = 8 by decide, if_false]
        refine ⟨?_, fun s => tabs_ok i ⟨tk_w (by decide), fol_b (tk_w (by decide)) (c := 32) (by decide), by decide, tk_s (by decide), fol_x (tk_s (by decide)) rfl hx, x_then hx (head_b (c := 41) (by decide)) ⟨tk_s (by decide), fol_b (tk_s (by decide)) (c := 32) (by decide), by decide, b_then hy (head_b (c := 32) (by decide)) ⟨by decide, tk_w (by decide), fol_b (tk_w (by decide)) (c := 32) (by decide), by decide, b_then hz (head_b (c := 10) (by decide)) ⟨by decide, trivial⟩⟩⟩⟩⟩
        rw [tabs_t]
        simp only [pcsT, pcsT_app, hx.1, hy.1, hz.1, List.append_nil]
    · obtain ⟨x, y, rfl, rfl, hy5⟩ := two_kids hq
      have hx := (hks x (by simp)).1 ha
      have hy := (hks y (by simp)).2.1 hy5
      simp only [pcsNs, toksNs, List.getD_cons_zero, List.getD_cons_succ, if_true, show ¬ (10 : Int) = 6 by decide, show ¬ (10 : Int) = 7 by decide, show ¬ (10 : Int) = 8 by decide, show ¬ (10 : Int) = 9 by decide, if_false]
      refine ⟨?_, fun s => tabs_ok i ⟨tk_w (by decide), fol_b (tk_w (by decide)) (c := 32) (by decide), by decide, tk_s (by decide), fol_x (tk_s (by decide)) rfl hx, x_then hx (head_b (c := 41) (by decide)) ⟨tk_s (by decide), fol_b (tk_s (by decide)) (c := 32) (by decide), by decide, b_then hy (head_b (c := 10) (by decide)) ⟨by decide, trivial⟩⟩⟩⟩
      rw [tabs_t]
      simp only [pcsT, pcsT_app, hx.1, hy.1, List.append_nil]
    · obtain ⟨x, rfl, rfl⟩ := one_kid hq
      have hx := (hks x (by simp)).1 ha
      simp only [pcsNs, toksNs, List.getD_cons_zero, if_true, show ¬ (11 : Int) = 6 by decide, show ¬ (11 : Int) = 7 by decide, show ¬ (11 : Int) = 8 by decide, show ¬ (11 : Int) = 9 by decide, show ¬ (11 : Int) = 10 by decide, if_false]
      refine ⟨?_, fun s => tabs_ok i ⟨tk_w (by decide), fol_b (tk_w (by decide)) (c := 40) (by decide), tk_s (by decide), fol_x (tk_s (by decide)) rfl hx, x_then hx (head_b (c := 41) (by decide)) ⟨tk_s (by decide), fol_b (tk_s (by decide)) (c := 59) (by decide), tk_s (by decide), fol_b (tk_s (by decide)) (c := 10) (by decide), by decide, trivial⟩⟩⟩
      rw [tabs_t]
      simp only [pcsT, pcsT_app, hx.1]
    · rcases hk2 with rfl | rfl
      · simp only [if_true, show ¬ (12 : Int) = 6 by decide, show ¬ (12 : Int) = 7 by decide, show ¬ (12 : Int) = 8 by decide, show ¬ (12 : Int) = 9 by decide, show ¬ (12 : Int) = 10 by decide, show ¬ (12 : Int) = 11 by decide, if_false]
        refine ⟨?_, fun s => tabs_ok i ⟨tk_w (by decide), fol_b (tk_w (by decide)) (c := 40) (by decide), tk_s (by decide), fol_name ht, tk_n ht, fol_b (tk_n ht) (c := 41) (by decide), tk_s (by decide), fol_b (tk_s (by decide)) (c := 59) (by decide), tk_s (by decide), fol_b (tk_s (by decide)) (c := 10) (by decide), by decide, trivial⟩⟩
        rw [tabs_t]
        rfl
      · simp only [if_true, show ¬ (13 : Int) = 6 by decide, show ¬ (13 : Int) = 7 by decide, show ¬ (13 : Int) = 8 by decide, show ¬ (13 : Int) = 9 by decide, show ¬ (13 : Int) = 10 by decide, show ¬ (13 : Int) = 11 by decide, show ¬ (13 : Int) = 12 by decide, if_false]
        refine ⟨?_, fun s => tabs_ok i ⟨tk_w (by decide), fol_b (tk_w (by decide)) (c := 40) (by decide), tk_s (by decide), fol_name ht, tk_n ht, fol_b (tk_n ht) (c := 41) (by decide), tk_s (by decide), fol_b (tk_s (by decide)) (c := 59) (by decide), tk_s (by decide), fol_b (tk_s (by decide)) (c := 10) (by decide), by decide, trivial⟩⟩
        rw [tabs_t]
        rfl
    · simp only [show ¬ (14 : Int) = 6 by decide, show ¬ (14 : Int) = 7 by decide, show ¬ (14 : Int) = 8 by decide, show ¬ (14 : Int) = 9 by decide, show ¬ (14 : Int) = 10 by decide, show ¬ (14 : Int) = 11 by decide, show ¬ (14 : Int) = 12 by decide, show ¬ (14 : Int) = 13 by decide, if_false]
      refine ⟨?_, fun s => tabs_ok i ⟨tk_w (by decide), fol_b (tk_w (by decide)) (c := 59) (by decide), tk_s (by decide), fol_b (tk_s (by decide)) (c := 10) (by decide), by decide, trivial⟩⟩
      rw [tabs_t]
      rfl

end Go.Proofs.YtclnjhffcfkihaeGreatDoor
