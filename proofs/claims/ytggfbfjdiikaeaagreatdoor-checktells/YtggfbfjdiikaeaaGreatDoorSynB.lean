/-
  Blocks and what has them are read as they were.
  What is read as a statement or a block is one, and not too deep.
-/
import Derived.Test.YtggfbfjdiikaeaaGreatDoorSynR
namespace Go.Proofs.YtggfbfjdiikaeaaGreatDoor
section
/-- How an expression begins. -/
theorem head_x : ∀ N x, ndSize x ≤ N → WfX x → ∃ a A, toksX x = a :: A ∧ (a.1 = 1 ∨ a.1 = 3 ∨ (a.1 = 4 ∧ (a.2.2 = [45] ∨ a.2.2 = [33] ∨ a.2.2 = [40])))
  | 0, .mk _ _ _ _ _, hN, _ => by simp [ndSize] at hN
  | N + 1, .mk k n p t ks, hN, hw => by
    unfold WfX at hw
    rcases hw with ⟨rfl, _, _, rfl, rfl⟩ | ⟨hk15, rfl, hw⟩
    · exact ⟨_, _, by rw [toksX, if_pos rfl], Or.inr (Or.inl rfl)⟩
    · match ks, hw with
      | [], hw => exact ⟨_, _, by rw [toksX, if_neg hk15], Or.inl rfl⟩
      | [a], hw =>
        refine ⟨(4, 0, if k = 17 then [45] else [33]), _, by rw [toksX, if_neg hk15], Or.inr (Or.inr ⟨rfl, ?_⟩)⟩
        by_cases h : k = 17
        · exact Or.inl (if_pos h)
        · exact Or.inr (Or.inl (if_neg h))
      | [a, b], hw =>
        obtain ⟨rfl, hl0, hwa, hwb⟩ := hw
        obtain ⟨h, A, hA, hh⟩ := head_x N a (by simp only [ndSize, ndsSize] at hN; omega) hwa
        rw [toksX, if_neg (by decide)]
        split
        · exact ⟨(4, 0, [40]), _, by simp only [List.cons_append, List.nil_append]; rfl, Or.inr (Or.inr ⟨rfl, Or.inr (Or.inr rfl)⟩)⟩
        · exact ⟨h, _, by rw [hA]; simp only [List.cons_append]; rfl, hh⟩
theorem no_cas {x : Nd} (hw : WfX x) (l r : List Tok) (hl : l.map strip = toksX x) : isTok wCas (l ++ r) = false := by
  obtain ⟨a, A, hA, ha⟩ := head_x (ndSize x) x (Nat.le_refl _) hw
  rw [hA] at hl
  obtain ⟨t, q, rfl, ht, _⟩ := strip_cons hl
  obtain ⟨a1, a2, a3⟩ := a
  rcases ha with h | h | ⟨h, h2⟩
  · exact is_kind ht (Or.inl h) _
  · exact is_kind ht (Or.inr h) _
  · refine is_other ht (fun e1 => ?_) _
    have h2' : a3 = [45] ∨ a3 = [33] ∨ a3 = [40] := h2
    rw [e1] at h2'
    revert h2'
    decide

/-- How a statement begins. -/
theorem head_s {x : Nd} (hw : WfN x) (h6 : 6 ≤ kindN x) (h14 : kindN x ≤ 14) : ∃ a A, toksN x = a :: A ∧ (a.1 = 1 ∨ (a.2.2 ≠ wElse ∧ a.2.2 ≠ [125])) := by
  match x, hw, h6, h14 with
  | .mk k n p t ks, hw, h6, h14 =>
    have h6' : 6 ≤ k := h6
    have h14' : k ≤ 14 := h14
    rw [toksN, if_neg (by omega)]
    have hk : k = 6 ∨ k = 7 ∨ k = 8 ∨ k = 9 ∨ k = 10 ∨ k = 11 ∨ k = 12 ∨ k = 13 ∨ k = 14 := by omega
    rcases hk with rfl | rfl | rfl | rfl | rfl | rfl | rfl | rfl | rfl
    · exact ⟨(2, 0, wInt), _, rfl, Or.inr (by decide)⟩
    · exact ⟨(1, 0, t), _, rfl, Or.inl rfl⟩
    · exact ⟨(1, 0, t), _, rfl, Or.inl rfl⟩
    · exact ⟨(2, 0, wIf), _, rfl, Or.inr (by decide)⟩
    · exact ⟨(2, 0, wWhile), _, rfl, Or.inr (by decide)⟩
    · exact ⟨(2, 0, wPrint), _, rfl, Or.inr (by decide)⟩
    · exact ⟨(2, 0, wLock), _, rfl, Or.inr (by decide)⟩
    · exact ⟨(2, 0, wUnlock), _, rfl, Or.inr (by decide)⟩
    · exact ⟨(2, 0, wFence), _, rfl, Or.inr (by decide)⟩
theorem head_is {x : Nd} (hw : WfN x) (h6 : 6 ≤ kindN x) (h14 : kindN x ≤ 14) {l : List Tok} (hl : l.map strip = toksN x) (r : List Tok) : isTok wElse (l ++ r) = false ∧ isTok [125] (l ++ r) = false := by
  obtain ⟨a, A, hA, ha⟩ := head_s hw h6 h14
  rw [hA] at hl
  obtain ⟨t, q, rfl, ht, _⟩ := strip_cons hl
  obtain ⟨a1, a2, a3⟩ := a
  rcases ha with h | ⟨h, h2⟩
  · exact ⟨is_kind ht (Or.inl h) _, is_kind ht (Or.inl h) _⟩
  · exact ⟨is_other ht h _, is_other ht h2 _⟩

section
variable {e : Int}
theorem read_list {c : Tok} (hc : strip c = (4, 0, [125])) (rest : List Tok) (d : Nat) : ∀ (ks : List Nd), (∀ x, x ∈ ks → RdS e x ∧ WfN x ∧ 6 ≤ kindN x ∧ kindN x ≤ 14 ∧ d + depN x ≤ 20) →
    ∀ (acc : List Nd) (l1 : List Tok), l1.map strip = (toksNs ks).flatten → ∃ ks', Tell (fun n => stmtsF e n d acc (l1 ++ c :: rest)) (.ok (acc ++ ks', c :: rest)) ∧ erases ks' = erases ks
  | [], _, acc, l1, hl => by
    obtain rfl : l1 = [] := by simpa [toksNs] using hl
    refine ⟨[], ⟨1, ?_⟩, rfl⟩
    show stmtsF e 1 d acc (c :: rest) = _
    rw [stmtsF, if_pos (is_yes (Or.inl hc) rest), List.append_nil]
  | x :: ks, h, acc, l1, hl => by
    obtain ⟨hx, hw, h6, h14, hdx⟩ := h x (by simp)
    have hl' : l1.map strip = toksN x ++ (toksNs ks).flatten := by simpa [toksNs] using hl
    obtain ⟨u, v, rfl, hu, hv⟩ := strip_app hl'
    have hh := head_is hw h6 h14 hu (v ++ c :: rest)
    have helse : isTok wElse (v ++ c :: rest) = false := by
      match ks, h, hv with
      | [], _, hv =>
        obtain rfl : v = [] := by simpa [toksNs] using hv
        exact is_other hc (by decide) rest
      | y :: r, h, hv =>
        obtain ⟨_, hwy, h6y, h14y, _⟩ := h y (by simp)
        have hv' : v.map strip = toksN y ++ (toksNs r).flatten := by simpa [toksNs] using hv
        obtain ⟨v1, v2, rfl, hv1, _⟩ := strip_app hv'
        rw [List.append_assoc]
        exact (head_is hwy h6y h14y hv1 _).1
    obtain ⟨x', ⟨n, hn⟩, he⟩ := hx d u (v ++ c :: rest) hu hdx helse
    obtain ⟨ks', ⟨m, hm⟩, hes⟩ := read_list hc rest d ks (fun y hy => h y (by simp [hy])) (acc ++ [x']) v hv
    refine ⟨x' :: ks', ⟨n + m + 1, ?_⟩, by simp [erases, he, hes]⟩
    show stmtsF e (n + m + 1) d acc (u ++ v ++ c :: rest) = _
    rw [List.append_assoc, stmtsF, if_neg (by rw [hh.2]; simp), tell_more (st_up d _) hn (by omega)]
    have hm2 : stmtsF e (n + m) d (acc ++ [x']) (v ++ c :: rest) = some (.ok (acc ++ [x'] ++ ks', c :: rest)) := tell_more (ss_up d _ _) hm (by omega)
    simp only [andT, hm2, List.append_assoc, List.cons_append, List.nil_append]
theorem maxL_le {ds : List Nat} {a m : Nat} (h : a ∈ ds) (hm : maxL ds ≤ m) : a ≤ m := by
  induction ds with
  | nil => cases h
  | cons b r ih =>
    simp only [maxL] at hm
    rcases List.mem_cons.1 h with rfl | h1
    · omega
    · exact ih h1 (by omega)
theorem depNs_mem : ∀ {ks : List Nd} {x : Nd}, x ∈ ks → depN x ∈ depNs ks
  | [], x, h => by cases h
  | y :: r, x, h => by
    rw [depNs]
    rcases List.mem_cons.1 h with rfl | h1
    · simp
    · simp [depNs_mem h1]
theorem wfNs_mem : ∀ {ks : List Nd} {x : Nd}, WfNs ks → x ∈ ks → WfN x
  | [], x, _, h => by cases h
  | y :: r, x, hw, h => by
    rw [WfNs] at hw
    rcases List.mem_cons.1 h with rfl | h1
    · exact hw.1
    · exact wfNs_mem hw.2 h1
theorem size_mem : ∀ {ks : List Nd} {x : Nd}, x ∈ ks → ndSize x ≤ ndsSize ks
  | [], x, h => by cases h
  | y :: r, x, h => by
    rw [ndsSize]
    rcases List.mem_cons.1 h with rfl | h1
    · omega
    · have := size_mem h1; omega
theorem read_block {p : Int} {ks : List Nd} (hw : WfNs ks) (hk : ∀ x, x ∈ ks → 6 ≤ kindN x ∧ kindN x ≤ 14) (h : ∀ x, x ∈ ks → RdS e x) : RdB e (.mk 5 0 p [] ks) := by
  intro d l1 rest hl hd
  rw [toksN, if_neg (by decide)] at hl
  simp only [partsT, if_true] at hl
  rw [depN, if_neg (by decide)] at hd
  simp only [depK, if_true] at hd
  obtain ⟨t0, q, rfl, h0, hl⟩ := strip_cons hl
  obtain ⟨u, v, rfl, hu, hv⟩ := strip_app hl
  obtain ⟨c, v, rfl, hc, hv⟩ := strip_cons hv
  obtain rfl : v = [] := by simpa using hv
  obtain ⟨ks', ⟨n, hn⟩, he⟩ := read_list (e := e) hc rest (d + 1) ks (fun x hx => ⟨h x hx, wfNs_mem hw hx, (hk x hx).1, (hk x hx).2, by have := maxL_le (depNs_mem hx) (Nat.le_refl _); omega⟩) [] u hu
  have hn2 : stmtsF e n (d + 1) [] (u ++ c :: rest) = some (.ok (ks', c :: rest)) := by simpa using hn
  refine ⟨.mk 5 0 t0.pos [] ks', ⟨n + 1, ?_⟩, by simp [erase, he]⟩
  have el : t0 :: (u ++ [c]) ++ rest = t0 :: (u ++ c :: rest) := by simp
  show blockF e (n + 1) d (t0 :: (u ++ [c]) ++ rest) = _
  rw [el, blockF, open_yes (is_yes (Or.inl h0) _) (by omega)]
  simp only [thenT, hn2, andT, take_yes (is_yes (Or.inl hc) rest), posOf]
theorem read_while {p : Int} {x b : Nd} (hx : WfX x) (ht : toksN x = toksX x) (hdx : depN x = depX x) (hb : RdB e b) : RdS e (.mk 10 0 p [] [x, b]) := by
  intro d l1 rest hl hd _
  rw [toksN, if_neg (by decide)] at hl
  simp only [partsT, toksNs, ht, List.getD_cons_zero, List.getD_cons_succ] at hl
  rw [depN, if_neg (by decide)] at hd
  simp only [depK, depNs, hdx, maxL, List.getD_cons_zero, List.drop_succ_cons, List.drop_zero] at hd
  obtain ⟨t0, q, rfl, h0, hl⟩ := strip_cons (by simpa using hl)
  obtain ⟨t1, q, rfl, h1, hl⟩ := strip_cons hl
  obtain ⟨u, v, rfl, hu, hv⟩ := strip_app hl
  obtain ⟨c, v, rfl, hc, hv⟩ := strip_cons hv
  have hd' : d + max (1 + depX x) (max (depN b) 0) ≤ 20 := by simpa using hd
  obtain ⟨x', ⟨n, hn⟩, he⟩ := held_x (e := e) hx (d := d) (rest := v ++ rest) hu (by omega) h1 hc
  obtain ⟨b', ⟨m, hm⟩, heb⟩ := hb d v rest hv (by omega)
  have hn2 : heldF e (n + m) d (t1 :: (u ++ c :: (v ++ rest))) = some (.ok (x', v ++ rest)) := tell_more (he_up _) hn (by omega)
  have hm2 : blockF e (n + m) d (v ++ rest) = some (.ok (b', rest)) := tell_more (bl_up d _) hm (by omega)
  have hw := word_is h0 (t1 :: (u ++ c :: (v ++ rest)))
  refine ⟨.mk 10 0 t0.pos [] [x', b'], ⟨n + m + 1, ?_⟩, by simp [erase, erases, he, heb]⟩
  have el : t0 :: t1 :: (u ++ c :: v) ++ rest = t0 :: t1 :: (u ++ c :: (v ++ rest)) := by simp
  show stmtF e (n + m + 1) d (t0 :: t1 :: (u ++ c :: v) ++ rest) = _
  rw [el, stmtF, hw, if_neg (by decide), if_pos rfl]
  simp only [List.tail_cons, hn2, andT, hm2, posOf]
theorem read_if {p : Int} {x b : Nd} (hx : WfX x) (ht : toksN x = toksX x) (hdx : depN x = depX x) (hb : RdB e b) : RdS e (.mk 9 0 p [] [x, b]) := by
  intro d l1 rest hl hd hel
  rw [toksN, if_neg (by decide)] at hl
  simp only [partsT, toksNs, ht, List.getD_cons_zero, List.getD_cons_succ, List.drop_succ_cons, List.drop_zero] at hl
  rw [depN, if_neg (by decide)] at hd
  simp only [depK, depNs, hdx, maxL, List.getD_cons_zero, List.drop_succ_cons, List.drop_zero] at hd
  obtain ⟨t0, q, rfl, h0, hl⟩ := strip_cons (by simpa using hl)
  obtain ⟨t1, q, rfl, h1, hl⟩ := strip_cons hl
  obtain ⟨u, v, rfl, hu, hv⟩ := strip_app hl
  obtain ⟨c, v, rfl, hc, hv⟩ := strip_cons hv
  have hd' : d + max (1 + depX x) (max (depN b) 0) ≤ 20 := by simpa using hd
  obtain ⟨x', ⟨n, hn⟩, he⟩ := held_x (e := e) hx (d := d) (rest := v ++ rest) hu (by omega) h1 hc
  obtain ⟨b', ⟨m, hm⟩, heb⟩ := hb d v rest (by simpa using hv) (by omega)
  have hn2 : heldF e (n + m) d (t1 :: (u ++ c :: (v ++ rest))) = some (.ok (x', v ++ rest)) := tell_more (he_up _) hn (by omega)
  have hm2 : blockF e (n + m) d (v ++ rest) = some (.ok (b', rest)) := tell_more (bl_up d _) hm (by omega)
  have hw := word_is h0 (t1 :: (u ++ c :: (v ++ rest)))
  refine ⟨.mk 9 0 t0.pos [] [x', b'], ⟨n + m + 1, ?_⟩, by simp [erase, erases, he, heb]⟩
  have el : t0 :: t1 :: (u ++ c :: v) ++ rest = t0 :: t1 :: (u ++ c :: (v ++ rest)) := by simp
  show stmtF e (n + m + 1) d (t0 :: t1 :: (u ++ c :: v) ++ rest) = _
  rw [el, stmtF, hw, if_pos rfl]
  simp only [List.tail_cons, hn2, andT, hm2, posOf, hel, Bool.false_eq_true, if_false]
theorem map1 {ks : List Nd} {a : Int} (h : ks.map kindN = [a]) : ∃ x, ks = [x] ∧ kindN x = a := by
  obtain ⟨x, r, rfl, h1, h2⟩ := List.map_eq_cons_iff.1 h
  obtain rfl : r = [] := by simpa using h2
  exact ⟨x, rfl, h1⟩
theorem map2 {ks : List Nd} {a b : Int} (h : ks.map kindN = [a, b]) : ∃ x y, ks = [x, y] ∧ kindN x = a ∧ kindN y = b := by
  obtain ⟨x, r, rfl, h1, h2⟩ := List.map_eq_cons_iff.1 h
  obtain ⟨y, rfl, h3⟩ := map1 h2
  exact ⟨x, y, rfl, h1, h3⟩
theorem map3 {ks : List Nd} {a b c : Int} (h : ks.map kindN = [a, b, c]) : ∃ x y z, ks = [x, y, z] ∧ kindN x = a ∧ kindN y = b ∧ kindN z = c := by
  obtain ⟨x, r, rfl, h1, h2⟩ := List.map_eq_cons_iff.1 h
  obtain ⟨y, z, rfl, h3, h4⟩ := map2 h2
  exact ⟨x, y, z, rfl, h1, h3, h4⟩
theorem read_else {p : Int} {x b b2 : Nd} (hx : WfX x) (ht : toksN x = toksX x) (hdx : depN x = depX x) (hb : RdB e b) (hb2 : RdB e b2) : RdS e (.mk 9 0 p [] [x, b, b2]) := by
  intro d l1 rest hl hd _
  rw [toksN, if_neg (by decide)] at hl
  simp only [partsT, toksNs, ht, List.getD_cons_zero, List.getD_cons_succ, List.drop_succ_cons, List.drop_zero] at hl
  rw [depN, if_neg (by decide)] at hd
  simp only [depK, depNs, hdx, maxL, List.getD_cons_zero, List.drop_succ_cons, List.drop_zero] at hd
  obtain ⟨t0, q, rfl, h0, hl⟩ := strip_cons (by simpa using hl)
  obtain ⟨t1, q, rfl, h1, hl⟩ := strip_cons hl
  obtain ⟨u, v, rfl, hu, hv⟩ := strip_app hl
  obtain ⟨c, v, rfl, hc, hv⟩ := strip_cons hv
  obtain ⟨v1, z, rfl, hv1, hz⟩ := strip_app hv
  obtain ⟨el0, z, rfl, hel, hz⟩ := strip_cons hz
  have hd' : d + max (1 + depX x) (max (depN b) (max (depN b2) 0)) ≤ 20 := by simpa using hd
  obtain ⟨x', ⟨n, hn⟩, he⟩ := held_x (e := e) hx (d := d) (rest := v1 ++ el0 :: (z ++ rest)) hu (by omega) h1 hc
  obtain ⟨b', ⟨m, hm⟩, heb⟩ := hb d v1 (el0 :: (z ++ rest)) hv1 (by omega)
  obtain ⟨b2', ⟨m2, hm2⟩, heb2⟩ := hb2 d z rest hz (by omega)
  have k1 : heldF e (n + m + m2) d (t1 :: (u ++ c :: (v1 ++ el0 :: (z ++ rest)))) = some (.ok (x', v1 ++ el0 :: (z ++ rest))) := tell_more (he_up _) hn (by omega)
  have k2 : blockF e (n + m + m2) d (v1 ++ el0 :: (z ++ rest)) = some (.ok (b', el0 :: (z ++ rest))) := tell_more (bl_up d _) hm (by omega)
  have k3 : blockF e (n + m + m2) d (z ++ rest) = some (.ok (b2', rest)) := tell_more (bl_up d _) hm2 (by omega)
  have hw := word_is h0 (t1 :: (u ++ c :: (v1 ++ el0 :: (z ++ rest))))
  refine ⟨.mk 9 0 t0.pos [] [x', b', b2'], ⟨n + m + m2 + 1, ?_⟩, by simp [erase, erases, he, heb, heb2]⟩
  have el : t0 :: t1 :: (u ++ c :: (v1 ++ el0 :: z)) ++ rest = t0 :: t1 :: (u ++ c :: (v1 ++ el0 :: (z ++ rest))) := by simp
  show stmtF e (n + m + m2 + 1) d (t0 :: t1 :: (u ++ c :: (v1 ++ el0 :: z)) ++ rest) = _
  rw [el, stmtF, hw, if_pos rfl]
  simp only [List.tail_cons, k1, andT, k2, posOf, is_yes (Or.inr hel) (z ++ rest), if_true, k3]

/-- WHAT IS PRINTED OF A STATEMENT, A BLOCK IS READ AS IT WAS. -/
theorem read_n (e : Int) : ∀ N x, ndSize x ≤ N → WfN x → (6 ≤ kindN x → kindN x ≤ 14 → RdS e x) ∧ (kindN x = 5 → RdB e x)
  | 0, .mk _ _ _ _ _, hN, _ => by simp [ndSize] at hN
  | N + 1, .mk k n p t ks, hN, hw => by
    have kid : ∀ x, x ∈ ks → WfN x ∧ ((6 ≤ kindN x → kindN x ≤ 14 → RdS e x) ∧ (kindN x = 5 → RdB e x)) ∨ 15 ≤ k := fun x hx => by
      by_cases h15 : 15 ≤ k
      · exact Or.inr h15
      · rw [WfN, if_neg h15] at hw
        have hs := size_mem hx
        exact Or.inl ⟨wfNs_mem hw.2.2 hx, read_n e N x (by simp only [ndSize] at hN; omega) (wfNs_mem hw.2.2 hx)⟩
    by_cases h15 : 15 ≤ k
    · exact ⟨fun _ h => absurd (show k ≤ 14 from h) (by omega), fun h => absurd (show k = 5 from h) (by omega)⟩
    rw [WfN, if_neg h15] at hw
    obtain ⟨rfl, hsh, hws⟩ := hw
    have kid2 : ∀ x, x ∈ ks → WfN x ∧ ((6 ≤ kindN x → kindN x ≤ 14 → RdS e x) ∧ (kindN x = 5 → RdB e x)) := fun x hx => (kid x hx).resolve_right h15
    rcases hsh with ⟨rfl, rfl, h⟩ | ⟨rfl, _, a, h, h2⟩ | ⟨rfl, _, a, h, h2⟩ | ⟨rfl, _, b, c, h, h2, h3⟩ | ⟨rfl, rfl, a, h2, h⟩ | ⟨rfl, rfl, a, h2, h⟩ | ⟨rfl, rfl, a, h, h2⟩ | ⟨h, _, h2⟩ | ⟨rfl, rfl, h⟩
    · refine ⟨fun h6 _ => absurd (show (6 : Int) ≤ 5 from h6) (by decide), fun _ => read_block hws (fun x hx => h _ (List.mem_map.2 ⟨x, hx, rfl⟩)) (fun x hx => ?_)⟩
      have hk := h _ (List.mem_map.2 ⟨x, hx, rfl⟩)
      exact (kid2 x hx).2.1 hk.1 hk.2
    · refine ⟨fun _ _ => ?_, fun h5 => absurd (show (6 : Int) = 5 from h5) (by decide)⟩
      · obtain ⟨x, rfl, rfl⟩ := map1 h
        obtain ⟨w1, w2, w3⟩ := wfN_x (kid2 x (by simp)).1 h2
        exact read_six w1 w2 w3
    · refine ⟨fun _ _ => ?_, fun h5 => absurd (show (7 : Int) = 5 from h5) (by decide)⟩
      · obtain ⟨x, rfl, rfl⟩ := map1 h
        obtain ⟨w1, w2, w3⟩ := wfN_x (kid2 x (by simp)).1 h2
        exact read_seven w1 w2 w3 (no_cas w1)
    · refine ⟨fun _ _ => ?_, fun h5 => absurd (show (8 : Int) = 5 from h5) (by decide)⟩
      · obtain ⟨y, x, z, rfl, hy, rfl, rfl⟩ := map3 h
        obtain ⟨w1, w2, w3⟩ := wfN_x (kid2 x (by simp)).1 h2
        obtain ⟨v1, v2, v3⟩ := wfN_x (kid2 z (by simp)).1 h3
        obtain ⟨u1, _, _⟩ := wfN_x (kid2 y (by simp)).1 (by omega)
        match y, hy, u1 with
        | .mk ky ny py ty ksy, hy, u1 =>
          obtain rfl : ky = 16 := hy
          unfold WfX at u1
          rcases u1 with u1 | ⟨_, rfl, u1⟩
          · exact absurd u1.1 (by decide)
          · match ksy, u1 with
            | [], u1 => exact read_eight w1 w2 w3 v1 v2 v3
            | [_], u1 => exact absurd u1.1 (by decide)
            | [_, _], u1 => exact absurd u1.1 (by decide)
    · refine ⟨fun _ _ => ?_, fun h5 => absurd (show (9 : Int) = 5 from h5) (by decide)⟩
      rcases h with h | h
      · obtain ⟨x, b, rfl, rfl, hb⟩ := map2 h
        · obtain ⟨w1, w2, w3⟩ := wfN_x (kid2 x (by simp)).1 h2
          exact read_if w1 w2 w3 ((kid2 b (by simp)).2.2 hb)
      · obtain ⟨x, b, c, rfl, rfl, hb, hc⟩ := map3 h
        · obtain ⟨w1, w2, w3⟩ := wfN_x (kid2 x (by simp)).1 h2
          exact read_else w1 w2 w3 ((kid2 b (by simp)).2.2 hb) ((kid2 c (by simp)).2.2 hc)
    · refine ⟨fun _ _ => ?_, fun h5 => absurd (show (10 : Int) = 5 from h5) (by decide)⟩
      · obtain ⟨x, b, rfl, rfl, hb⟩ := map2 h
        obtain ⟨w1, w2, w3⟩ := wfN_x (kid2 x (by simp)).1 h2
        exact read_while w1 w2 w3 ((kid2 b (by simp)).2.2 hb)
    · refine ⟨fun _ _ => ?_, fun h5 => absurd (show (11 : Int) = 5 from h5) (by decide)⟩
      · obtain ⟨x, rfl, rfl⟩ := map1 h
        obtain ⟨w1, w2, w3⟩ := wfN_x (kid2 x (by simp)).1 h2
        exact read_print w1 w2 w3
    · obtain rfl : ks = [] := by simpa using h2
      exact ⟨fun _ _ => read_lock h, fun h5 => absurd (show k = 5 from h5) (by omega)⟩
    · obtain rfl : ks = [] := by simpa using h
      exact ⟨fun _ _ => read_fence, fun h5 => absurd (show (14 : Int) = 5 from h5) (by decide)⟩
end
end

section
section
variable {e : Int}
theorem ok_inj {α : Type} {a b : α} {l r : List Tok} (h : (some (Except.ok (a, l)) : Option (TRes α)) = some (.ok (b, r))) : a = b ∧ l = r := by
  have := Except.ok.inj (Option.some.inj h)
  simpa using this
theorem kind_x {x : Nd} (h : WfX x) : 15 ≤ kindN x ∧ WfN x ∧ depN x = depX x := by
  match x, h with
  | .mk k n p t ks, h =>
    have hk : 15 ≤ k := by
      unfold WfX at h
      rcases h with h | ⟨_, _, h⟩
      · omega
      · match ks, h with
        | [], h => omega
        | [a], h => omega
        | [a, b], h => omega
    exact ⟨hk, by rw [WfN, if_pos hk]; exact h, by rw [depN, if_pos hk]⟩
theorem exprThen_wf {β : Type} {n d : Nat} {s : List UInt8} {l r : List Tok} {f : Nd → List Tok → Option (TRes β)} {y : β} (hd : d ≤ 20) (hl : ToksOk l) (h : exprThen e n d s l f = some (.ok (y, r))) : ∃ x q, WfX x ∧ d + depX x ≤ 20 ∧ ToksOk q ∧ f x q = some (.ok (y, r)) := by
  unfold exprThen at h
  obtain ⟨x, q, hx, h⟩ := andT_ok h
  obtain ⟨p, hp, h⟩ := thenT_ok h
  obtain ⟨_, rfl⟩ := take_ok hp
  obtain ⟨w1, w2, w3⟩ := (expr_wf e n).1 0 d l x q (by omega) hd hl hx
  have h0 := bind_nn w1
  unfold depS at w2
  rw [if_neg (by simp; exact h0)] at w2
  exact ⟨x, q.tail, w1, w2, w3.tail, h⟩

/-- What is well of a statement. -/
def GoodS (d : Nat) (x : Nd) (r : List Tok) : Prop := WfN x ∧ 6 ≤ kindN x ∧ kindN x ≤ 14 ∧ d + depN x ≤ 20 ∧ ToksOk r
theorem good_one {d : Nat} {k p : Int} {t : List UInt8} {x : Nd} {r : List Tok} (hk : k = 6 ∨ k = 7) (ht : NameOk t) (hx : WfX x) (hd : d + depX x ≤ 20) (hr : ToksOk r) : GoodS d (.mk k 0 p t [x]) r := by
  obtain ⟨h1, h2, h3⟩ := kind_x hx
  refine ⟨?_, show 6 ≤ k by omega, show k ≤ 14 by omega, ?_, hr⟩
  · rw [WfN, if_neg (by omega)]
    refine ⟨rfl, ?_, by rw [WfNs, WfNs]; exact ⟨h2, trivial⟩⟩
    rcases hk with rfl | rfl
    · exact Or.inr (Or.inl ⟨rfl, ht, _, rfl, h1⟩)
    · exact Or.inr (Or.inr (Or.inl ⟨rfl, ht, _, rfl, h1⟩))
  · rw [depN, if_neg (by omega)]
    simp only [depK, depNs, h3, maxL]
    rw [if_neg (by omega), if_pos hk]
    omega
theorem assign_wf {n d : Nat} {l r : List Tok} {x : Nd} (hd : d ≤ 20) (hl : ToksOk l) (h : assignF e n d l = some (.ok (x, r))) : GoodS d x r := by
  unfold assignF at h
  obtain ⟨s, q, hs, h⟩ := nameThen_ok h
  obtain ⟨hs1, rfl⟩ := name_ok hl hs
  obtain ⟨q, hq, h⟩ := thenT_ok h
  obtain ⟨_, rfl⟩ := take_ok hq
  have hl2 := hl.tail.tail
  split at h
  · obtain ⟨q, hq, h⟩ := thenT_ok h
    obtain ⟨_, rfl⟩ := take_ok hq
    obtain ⟨q, hq, h⟩ := thenT_ok h
    obtain ⟨_, hd2, rfl⟩ := open_ok hq
    obtain ⟨s2, q, hq, h⟩ := nameThen_ok h
    obtain ⟨hs2, rfl⟩ := name_ok hl2.tail.tail hq
    obtain ⟨q, hq, h⟩ := thenT_ok h
    obtain ⟨_, rfl⟩ := take_ok hq
    obtain ⟨b, q, hb1, hb2, hb3, h⟩ := exprThen_wf (by omega) hl2.tail.tail.tail.tail h
    obtain ⟨c, q, hc1, hc2, hc3, h⟩ := exprThen_wf (by omega) hb3 h
    obtain ⟨q2, hq, h⟩ := thenT_ok h
    obtain ⟨_, rfl⟩ := take_ok hq
    obtain ⟨rfl, rfl⟩ := ok_inj h
    obtain ⟨b4, b5, b6⟩ := kind_x hb1
    obtain ⟨c4, c5, c6⟩ := kind_x hc1
    have hn : WfX (.mk 16 0 (posOf e l.tail.tail.tail.tail) s2 []) := by unfold WfX; exact Or.inr ⟨by decide, rfl, rfl, hs2⟩
    obtain ⟨n4, n5, n6⟩ := kind_x hn
    refine ⟨?_, show (6 : Int) ≤ 8 by decide, show (8 : Int) ≤ 14 by decide, ?_, hc3.tail⟩
    · rw [WfN, if_neg (by decide)]
      refine ⟨rfl, Or.inr (Or.inr (Or.inr (Or.inl ⟨rfl, hs1, _, _, rfl, b4, c4⟩))), ?_⟩
      rw [WfNs, WfNs, WfNs, WfNs]
      exact ⟨n5, b5, c5, trivial⟩
    · rw [depN, if_neg (by decide)]
      simp only [depK, depNs, b6, c6, n6, maxL, depX]
      simp
      omega
  · obtain ⟨b, q, hb1, hb2, hb3, h⟩ := exprThen_wf hd hl2 h
    obtain ⟨rfl, rfl⟩ := ok_inj h
    exact good_one (Or.inr rfl) hs1 hb1 hb2 hb3
theorem held_wf {n d : Nat} {l r : List Tok} {x : Nd} (hd : d ≤ 20) (hl : ToksOk l) (h : heldF e n d l = some (.ok (x, r))) : WfX x ∧ d + 1 + depX x ≤ 20 ∧ ToksOk r := (expr_wf e n).2.2.2 d l x r hd hl h
theorem plain_wf {n d : Nat} {l r : List Tok} {x : Nd} (hd : d ≤ 20) (hl : ToksOk l) (h : plainF e n d l = some (.ok (x, r))) : GoodS d x r := by
  unfold plainF at h
  split at h
  · obtain ⟨s, q, hs, h⟩ := nameThen_ok h
    obtain ⟨hs1, rfl⟩ := name_ok hl.tail hs
    obtain ⟨q, hq, h⟩ := thenT_ok h
    obtain ⟨_, rfl⟩ := take_ok hq
    obtain ⟨b, q, hb1, hb2, hb3, h⟩ := exprThen_wf hd hl.tail.tail.tail h
    obtain ⟨rfl, rfl⟩ := ok_inj h
    exact good_one (Or.inl rfl) hs1 hb1 hb2 hb3
  · split at h
    · obtain ⟨y, q, hy, h⟩ := andT_ok h
      obtain ⟨w1, w2, w3⟩ := held_wf hd hl.tail hy
      obtain ⟨q2, hq, h⟩ := thenT_ok h
      obtain ⟨_, rfl⟩ := take_ok hq
      obtain ⟨rfl, rfl⟩ := ok_inj h
      obtain ⟨y1, y2, y3⟩ := kind_x w1
      refine ⟨?_, show (6 : Int) ≤ 11 by decide, show (11 : Int) ≤ 14 by decide, ?_, w3.tail⟩
      · rw [WfN, if_neg (by decide)]
        exact ⟨rfl, Or.inr (Or.inr (Or.inr (Or.inr (Or.inr (Or.inr (Or.inl ⟨rfl, rfl, _, rfl, y1⟩)))))), by rw [WfNs, WfNs]; exact ⟨y2, trivial⟩⟩
      · rw [depN, if_neg (by decide)]
        simp only [depK, depNs, y3, maxL]
        simp
        omega
    · split at h
      · obtain ⟨q, hq, h⟩ := thenT_ok h
        obtain ⟨_, hd2, rfl⟩ := open_ok hq
        obtain ⟨s, q, hs, h⟩ := nameThen_ok h
        obtain ⟨hs1, rfl⟩ := name_ok hl.tail.tail hs
        obtain ⟨q, hq, h⟩ := thenT_ok h
        obtain ⟨_, rfl⟩ := take_ok hq
        obtain ⟨q, hq, h⟩ := thenT_ok h
        obtain ⟨_, rfl⟩ := take_ok hq
        obtain ⟨rfl, rfl⟩ := ok_inj h
        obtain ⟨k, hk⟩ : ∃ k : Int, (if wordOf l = wLock then (12 : Int) else 13) = k := ⟨_, rfl⟩
        have hk2 : k = 12 ∨ k = 13 := by rw [← hk]; split <;> simp
        rw [hk]
        refine ⟨?_, show 6 ≤ k by omega, show k ≤ 14 by omega, ?_, hl.tail.tail.tail.tail.tail⟩
        · rw [WfN, if_neg (by omega)]
          exact ⟨rfl, Or.inr (Or.inr (Or.inr (Or.inr (Or.inr (Or.inr (Or.inr (Or.inl ⟨hk2, hs1, rfl⟩))))))), by rw [WfNs]; trivial⟩
        · rw [depN, if_neg (by omega)]
          have : depK k (depNs []) = 1 := by rcases hk2 with rfl | rfl <;> rfl
          rw [this]
          omega
      · split at h
        · obtain ⟨q, hq, h⟩ := thenT_ok h
          obtain ⟨_, rfl⟩ := take_ok hq
          obtain ⟨rfl, rfl⟩ := ok_inj h
          refine ⟨?_, show (6 : Int) ≤ 14 by decide, show (14 : Int) ≤ 14 by decide, ?_, hl.tail.tail⟩
          · rw [WfN, if_neg (by decide)]
            exact ⟨rfl, Or.inr (Or.inr (Or.inr (Or.inr (Or.inr (Or.inr (Or.inr (Or.inr ⟨rfl, rfl, rfl⟩))))))), by rw [WfNs]; trivial⟩
          · rw [depN, if_neg (by decide)]
            simpa [depK, depNs] using hd
        · exact assign_wf hd hl h

/-- What is well of a block. -/
def GoodB (d : Nat) (x : Nd) (r : List Tok) : Prop := WfN x ∧ kindN x = 5 ∧ d + depN x ≤ 20 ∧ ToksOk r
def GoodK (d : Nat) (ks : List Nd) : Prop := ∀ x, x ∈ ks → WfN x ∧ 6 ≤ kindN x ∧ kindN x ≤ 14 ∧ d + depN x ≤ 20
theorem wfNs_of : ∀ {ks : List Nd}, (∀ x, x ∈ ks → WfN x) → WfNs ks
  | [], _ => by rw [WfNs]; trivial
  | y :: r, h => by rw [WfNs]; exact ⟨h y (by simp), wfNs_of fun x hx => h x (by simp [hx])⟩
theorem maxL_of {m : Nat} : ∀ {ks : List Nd}, (∀ x, x ∈ ks → depN x ≤ m) → maxL (depNs ks) ≤ m
  | [], _ => by rw [depNs, maxL]; omega
  | y :: r, h => by
    rw [depNs, maxL]
    have h1 := h y (by simp)
    have h2 := maxL_of (ks := r) (m := m) fun x hx => h x (by simp [hx])
    omega
theorem good_if {d : Nat} {p : Int} {x b : Nd} {k : Int} {r r1 : List Tok} (hk : k = 9 ∨ k = 10) (hx : WfX x) (hd : d + 1 + depX x ≤ 20) (hb : GoodB d b r1) (hr : ToksOk r) : GoodS d (.mk k 0 p [] [x, b]) r := by
  obtain ⟨h1, h2, h3⟩ := kind_x hx
  obtain ⟨b1, b2, b3, _⟩ := hb
  refine ⟨?_, show 6 ≤ k by omega, show k ≤ 14 by omega, ?_, hr⟩
  · rw [WfN, if_neg (by omega)]
    refine ⟨rfl, ?_, by rw [WfNs, WfNs, WfNs]; exact ⟨h2, b1, trivial⟩⟩
    rcases hk with rfl | rfl
    · exact Or.inr (Or.inr (Or.inr (Or.inr (Or.inl ⟨rfl, rfl, _, h1, Or.inl (by simp [b2])⟩))))
    · exact Or.inr (Or.inr (Or.inr (Or.inr (Or.inr (Or.inl ⟨rfl, rfl, _, h1, by simp [b2]⟩)))))
  · rw [depN, if_neg (by omega)]
    simp only [depK, depNs, h3, maxL, List.getD_cons_zero, List.drop_succ_cons, List.drop_zero]
    rw [if_neg (by omega), if_neg (by omega), if_pos hk]
    omega
theorem good_else {d : Nat} {p : Int} {x b c : Nd} {r r1 r2 : List Tok} (hx : WfX x) (hd : d + 1 + depX x ≤ 20) (hb : GoodB d b r1) (hc : GoodB d c r2) (hr : ToksOk r) : GoodS d (.mk 9 0 p [] [x, b, c]) r := by
  obtain ⟨h1, h2, h3⟩ := kind_x hx
  obtain ⟨b1, b2, b3, _⟩ := hb
  obtain ⟨c1, c2, c3, _⟩ := hc
  refine ⟨?_, show (6 : Int) ≤ 9 by decide, show (9 : Int) ≤ 14 by decide, ?_, hr⟩
  · rw [WfN, if_neg (by decide)]
    exact ⟨rfl, Or.inr (Or.inr (Or.inr (Or.inr (Or.inl ⟨rfl, rfl, _, h1, Or.inr (by simp [b2, c2])⟩)))), by rw [WfNs, WfNs, WfNs, WfNs]; exact ⟨h2, b1, c1, trivial⟩⟩
  · rw [depN, if_neg (by decide)]
    simp only [depK, depNs, h3, maxL, List.getD_cons_zero, List.drop_succ_cons, List.drop_zero]
    rw [if_neg (by omega), if_neg (by omega), if_pos (Or.inl trivial)]
    omega

/-- WHAT IS READ AS A STATEMENT OR A BLOCK IS ONE, and not too deep. -/
theorem stmt_wf (e : Int) : ∀ n, (∀ (d : Nat) l x r, d ≤ 20 → ToksOk l → stmtF e n d l = some (.ok (x, r)) → GoodS d x r) ∧
    (∀ (d : Nat) l x r, d ≤ 20 → ToksOk l → blockF e n d l = some (.ok (x, r)) → GoodB d x r) ∧
    (∀ (d : Nat) ks l ks' r, d ≤ 20 → ToksOk l → GoodK d ks → stmtsF e n d ks l = some (.ok (ks', r)) → GoodK d ks' ∧ ToksOk r)
  | 0 => ⟨fun _ _ _ _ _ _ h => (by rw [stmtF] at h; cases h), fun _ _ _ _ _ _ h => (by rw [blockF] at h; cases h), fun _ _ _ _ _ _ _ _ h => (by rw [stmtsF] at h; cases h)⟩
  | n + 1 => by
    obtain ⟨h1, h2, h3⟩ := stmt_wf e n
    refine ⟨fun d l x r hd hl h => ?_, fun d l x r hd hl h => ?_, fun d ks l ks' r hd hl hk h => ?_⟩
    · rw [stmtF] at h
      split at h
      · obtain ⟨y, q, hy, h⟩ := andT_ok h
        obtain ⟨w1, w2, w3⟩ := held_wf hd hl.tail hy
        obtain ⟨b, q2, hb, h⟩ := andT_ok h
        have gb := h2 d q b q2 hd w3 hb
        split at h
        · obtain ⟨c, q3, hc, h⟩ := andT_ok h
          have gc := h2 d q2.tail c q3 hd gb.2.2.2.tail hc
          obtain ⟨rfl, rfl⟩ := ok_inj h
          exact good_else w1 w2 gb gc gc.2.2.2
        · obtain ⟨rfl, rfl⟩ := ok_inj h
          exact good_if (Or.inl rfl) w1 w2 gb gb.2.2.2
      · split at h
        · obtain ⟨y, q, hy, h⟩ := andT_ok h
          obtain ⟨w1, w2, w3⟩ := held_wf hd hl.tail hy
          obtain ⟨b, q2, hb, h⟩ := andT_ok h
          have gb := h2 d q b q2 hd w3 hb
          obtain ⟨rfl, rfl⟩ := ok_inj h
          exact good_if (Or.inr rfl) w1 w2 gb gb.2.2.2
        · exact plain_wf hd hl h
    · rw [blockF] at h
      obtain ⟨q, hq, h⟩ := thenT_ok h
      obtain ⟨_, hd2, rfl⟩ := open_ok hq
      obtain ⟨ks, q, hks, h⟩ := andT_ok h
      obtain ⟨g1, g2⟩ := h3 (d + 1) [] l.tail ks q (by omega) hl.tail (fun _ hx => by cases hx) hks
      obtain ⟨q2, hq, h⟩ := thenT_ok h
      obtain ⟨_, rfl⟩ := take_ok hq
      obtain ⟨rfl, rfl⟩ := ok_inj h
      refine ⟨?_, rfl, ?_, g2.tail⟩
      · rw [WfN, if_neg (by decide)]
        refine ⟨rfl, Or.inl ⟨rfl, rfl, fun q hq => ?_⟩, wfNs_of fun x hx => (g1 x hx).1⟩
        obtain ⟨x, hx, rfl⟩ := List.mem_map.1 hq
        exact ⟨(g1 x hx).2.1, (g1 x hx).2.2.1⟩
      · rw [depN, if_neg (by decide)]
        simp only [depK, if_true]
        have := maxL_of (ks := ks) (m := 20 - (d + 1)) fun x hx => by have := (g1 x hx).2.2.2; omega
        omega
    · rw [stmtsF] at h
      split at h
      · obtain ⟨rfl, rfl⟩ := ok_inj h
        exact ⟨hk, hl⟩
      · obtain ⟨x, q, hx, h⟩ := andT_ok h
        obtain ⟨g1, g2, g3, g4, g5⟩ := h1 d l x q hd hl hx
        refine h3 d (ks ++ [x]) q ks' r hd g5 (fun y hy => ?_) h
        rcases List.mem_append.1 hy with hy | hy
        · exact hk y hy
        · obtain rfl : y = x := by simpa using hy
          exact ⟨g1, g2, g3, g4⟩
end
end

end Go.Proofs.YtggfbfjdiikaeaaGreatDoor
