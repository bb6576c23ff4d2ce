/-
  Blocks and what has them are read as they were.
-/
import Derived.Test.YtclnjhffcfkihaeGreatDoorSynS
namespace Go.Proofs.YtclnjhffcfkihaeGreatDoor
/-- How an expression begins. -/
theorem head_x : ∀ N x, ndSize x ≤ N → WfX x → ∃ a A, toksX x = a :: A ∧ (a.1 = 1 ∨ a.1 = 3 ∨ (a.1 = 4 ∧ (a.2.2 = [45] ∨ a.2.2 = [33] ∨ a.2.2 = [40])))
  | 0, .mk _ _ _ _ _, hN, _ => by simp [ndSize] at hN
  | N + 1, .mk k n p t ks, hN, hw => by
    unfold WfX at hw
    rcases hw with ⟨rfl, _, _, rfl, rfl⟩ | ⟨hk15, rfl, hw⟩
    · exact ⟨_, _, by rw [toksX, if_pos rfl], Or.inr (Or.inl rfl)⟩
    · match ks, hw with
      | [], hw => exact ⟨_, _, by rw [toksX, if_neg hk15], Or.inl rfl⟩
      | [a], hw =>
        refine ⟨(4, 0, if k = 17 then [45] else [33]), _, by rw [toksX, if_neg hk15], Or.inr (Or.inr ⟨rfl, ?_⟩)⟩
        by_cases h : k = 17
        · exact Or.inl (if_pos h)
        · exact Or.inr (Or.inl (if_neg h))
      | [a, b], hw =>
        obtain ⟨rfl, hl0, hwa, hwb⟩ := hw
        obtain ⟨h, A, hA, hh⟩ := head_x N a (by simp only [ndSize, ndsSize] at hN; omega) hwa
        rw [toksX, if_neg (by decide)]
        split
        · exact ⟨(4, 0, [40]), _, by simp only [List.cons_append, List.nil_append]; rfl, Or.inr (Or.inr ⟨rfl, Or.inr (Or.inr rfl)⟩)⟩
        · exact ⟨h, _, by rw [hA]; simp only [List.cons_append]; rfl, hh⟩
theorem no_cas {x : Nd} (hw : WfX x) (l r : List Tok) (hl : l.map strip = toksX x) : isTok wCas (l ++ r) = false := by
  obtain ⟨a, A, hA, ha⟩ := head_x (ndSize x) x (Nat.le_refl _) hw
  rw [hA] at hl
  obtain ⟨t, q, rfl, ht, _⟩ := strip_cons hl
  obtain ⟨a1, a2, a3⟩ := a
  rcases ha with h | h | ⟨h, h2⟩
  · exact is_kind ht (Or.inl h) _
  · exact is_kind ht (Or.inr h) _
  · refine is_other ht (fun e1 => ?_) _
    have h2' : a3 = [45] ∨ a3 = [33] ∨ a3 = [40] := h2
    rw [e1] at h2'
    revert h2'
    decide

/-- How a statement begins. -/
theorem head_s {x : Nd} (hw : WfN x) (h6 : 6 ≤ kindN x) (h14 : kindN x ≤ 14) : ∃ a A, toksN x = a :: A ∧ (a.1 = 1 ∨ (a.2.2 ≠ wElse ∧ a.2.2 ≠ [125])) := by
  match x, hw, h6, h14 with
  | .mk k n p t ks, hw, h6, h14 =>
    have h6' : 6 ≤ k := h6
    have h14' : k ≤ 14 := h14
    rw [toksN, if_neg (by omega)]
    have hk : k = 6 ∨ k = 7 ∨ k = 8 ∨ k = 9 ∨ k = 10 ∨ k = 11 ∨ k = 12 ∨ k = 13 ∨ k = 14 := by omega
    rcases hk with rfl | rfl | rfl | rfl | rfl | rfl | rfl | rfl | rfl
    · exact ⟨(2, 0, wInt), _, rfl, Or.inr (by decide)⟩
    · exact ⟨(1, 0, t), _, rfl, Or.inl rfl⟩
    · exact ⟨(1, 0, t), _, rfl, Or.inl rfl⟩
    · exact ⟨(2, 0, wIf), _, rfl, Or.inr (by decide)⟩
    · exact ⟨(2, 0, wWhile), _, rfl, Or.inr (by decide)⟩
    · exact ⟨(2, 0, wPrint), _, rfl, Or.inr (by decide)⟩
    · exact ⟨(2, 0, wLock), _, rfl, Or.inr (by decide)⟩
    · exact ⟨(2, 0, wUnlock), _, rfl, Or.inr (by decide)⟩
    · exact ⟨(2, 0, wFence), _, rfl, Or.inr (by decide)⟩
theorem head_is {x : Nd} (hw : WfN x) (h6 : 6 ≤ kindN x) (h14 : kindN x ≤ 14) {l : List Tok} (hl : l.map strip = toksN x) (r : List Tok) : isTok wElse (l ++ r) = false ∧ isTok [125] (l ++ r) = false := by
  obtain ⟨a, A, hA, ha⟩ := head_s hw h6 h14
  rw [hA] at hl
  obtain ⟨t, q, rfl, ht, _⟩ := strip_cons hl
  obtain ⟨a1, a2, a3⟩ := a
  rcases ha with h | ⟨h, h2⟩
  · exact ⟨is_kind ht (Or.inl h) _, is_kind ht (Or.inl h) _⟩
  · exact ⟨is_other ht h _, is_other ht h2 _⟩

section
variable {e : Int}
theorem read_list {c : Tok} (hc : strip c = (4, 0, [125])) (rest : List Tok) (d : Nat) : ∀ (ks : List Nd), (∀ x, x ∈ ks → RdS e x ∧ WfN x ∧ 6 ≤ kindN x ∧ kindN x ≤ 14 ∧ d + depN x ≤ 20) →
    ∀ (acc : List Nd) (l1 : List Tok), l1.map strip = (toksNs ks).flatten → ∃ ks', Tell (fun n => stmtsF e n d acc (l1 ++ c :: rest)) (.ok (acc ++ ks', c :: rest)) ∧ erases ks' = erases ks
  | [], _, acc, l1, hl => by
    obtain rfl : l1 = [] := by simpa [toksNs] using hl
    refine ⟨[], ⟨1, ?_⟩, rfl⟩
    show stmtsF e 1 d acc (c :: rest) = _
    rw [stmtsF, if_pos (is_yes (Or.inl hc) rest), List.append_nil]
  | x :: ks, h, acc, l1, hl => by
    obtain ⟨hx, hw, h6, h14, hdx⟩ := h x (by simp)
    have hl' : l1.map strip = toksN x ++ (toksNs ks).flatten := by simpa [toksNs] using hl
    obtain ⟨u, v, rfl, hu, hv⟩ := strip_app hl'
    have hh := head_is hw h6 h14 hu (v ++ c :: rest)
    have helse : isTok wElse (v ++ c :: rest) = false := by
      match ks, h, hv with
      | [], _, hv =>
        obtain rfl : v = [] := by simpa [toksNs] using hv
        exact is_other hc (by decide) rest
      | y :: r, h, hv =>
        obtain ⟨_, hwy, h6y, h14y, _⟩ := h y (by simp)
        have hv' : v.map strip = toksN y ++ (toksNs r).flatten := by simpa [toksNs] using hv
        obtain ⟨v1, v2, rfl, hv1, _⟩ := strip_app hv'
        rw [List.append_assoc]
        exact (head_is hwy h6y h14y hv1 _).1
    obtain ⟨x', ⟨n, hn⟩, he⟩ := hx d u (v ++ c :: rest) hu hdx helse
    obtain ⟨ks', ⟨m, hm⟩, hes⟩ := read_list hc rest d ks (fun y hy => h y (by simp [hy])) (acc ++ [x']) v hv
    refine ⟨x' :: ks', ⟨n + m + 1, ?_⟩, by simp [erases, he, hes]⟩
    show stmtsF e (n + m + 1) d acc (u ++ v ++ c :: rest) = _
    rw [List.append_assoc, stmtsF, if_neg (by rw [hh.2]; simp), tell_more (st_up d _) hn (by omega)]
    have hm2 : stmtsF e (n + m) d (acc ++ [x']) (v ++ c :: rest) = some (.ok (acc ++ [x'] ++ ks', c :: rest)) := tell_more (ss_up d _ _) hm (by omega)
    simp only [andT, hm2, List.append_assoc, List.cons_append, List.nil_append]
theorem maxL_le {ds : List Nat} {a m : Nat} (h : a ∈ ds) (hm : maxL ds ≤ m) : a ≤ m := by
  induction ds with
  | nil => cases h
  | cons b r ih =>
    simp only [maxL] at hm
    rcases List.mem_cons.1 h with rfl | h1
    · omega
    · exact ih h1 (by omega)
theorem depNs_mem : ∀ {ks : List Nd} {x : Nd}, x ∈ ks → depN x ∈ depNs ks
  | [], x, h => by cases h
  | y :: r, x, h => by
    rw [depNs]
    rcases List.mem_cons.1 h with rfl | h1
    · simp
    · simp [depNs_mem h1]
theorem wfNs_mem : ∀ {ks : List Nd} {x : Nd}, WfNs ks → x ∈ ks → WfN x
  | [], x, _, h => by cases h
  | y :: r, x, hw, h => by
    rw [WfNs] at hw
    rcases List.mem_cons.1 h with rfl | h1
    · exact hw.1
    · exact wfNs_mem hw.2 h1
theorem size_mem : ∀ {ks : List Nd} {x : Nd}, x ∈ ks → ndSize x ≤ ndsSize ks
  | [], x, h => by cases h
  | y :: r, x, h => by
    rw [ndsSize]
    rcases List.mem_cons.1 h with rfl | h1
    · omega
    · have := size_mem h1; omega
theorem read_block {p : Int} {ks : List Nd} (hw : WfNs ks) (hk : ∀ x, x ∈ ks → 6 ≤ kindN x ∧ kindN x ≤ 14) (h : ∀ x, x ∈ ks → RdS e x) : RdB e (.mk 5 0 p [] ks) := by
  intro d l1 rest hl hd
  rw [toksN, if_neg (by decide)] at hl
  simp only [partsT, if_true] at hl
  rw [depN, if_neg (by decide)] at hd
  simp only [depK, if_true] at hd
  obtain ⟨t0, q, rfl, h0, hl⟩ := strip_cons hl
  obtain ⟨u, v, rfl, hu, hv⟩ := strip_app hl
  obtain ⟨c, v, rfl, hc, hv⟩ := strip_cons hv
  obtain rfl : v = [] := by simpa using hv
  obtain ⟨ks', ⟨n, hn⟩, he⟩ := read_list (e := e) hc rest (d + 1) ks (fun x hx => ⟨h x hx, wfNs_mem hw hx, (hk x hx).1, (hk x hx).2, by have := maxL_le (depNs_mem hx) (Nat.le_refl _); omega⟩) [] u hu
  have hn2 : stmtsF e n (d + 1) [] (u ++ c :: rest) = some (.ok (ks', c :: rest)) := by simpa using hn
  refine ⟨.mk 5 0 t0.pos [] ks', ⟨n + 1, ?_⟩, by simp [erase, he]⟩
  have el : t0 :: (u ++ [c]) ++ rest = t0 :: (u ++ c :: rest) := by simp
  show blockF e (n + 1) d (t0 :: (u ++ [c]) ++ rest) = _
  rw [el, blockF, open_yes (is_yes (Or.inl h0) _) (by omega)]
  simp only [thenT, hn2, andT, take_yes (is_yes (Or.inl hc) rest), posOf]
theorem read_while {p : Int} {x b : Nd} (hx : WfX x) (ht : toksN x = toksX x) (hdx : depN x = depX x) (hb : RdB e b) : RdS e (.mk 10 0 p [] [x, b]) := by
  intro d l1 rest hl hd _
  rw [toksN, if_neg (by decide)] at hl
  simp only [partsT, toksNs, ht, List.getD_cons_zero, List.getD_cons_succ] at hl
  rw [depN, if_neg (by decide)] at hd
  simp only [depK, depNs, hdx, maxL, List.getD_cons_zero, List.drop_succ_cons, List.drop_zero] at hd
  obtain ⟨t0, q, rfl, h0, hl⟩ := strip_cons (by simpa using hl)
  obtain ⟨t1, q, rfl, h1, hl⟩ := strip_cons hl
  obtain ⟨u, v, rfl, hu, hv⟩ := strip_app hl
  obtain ⟨c, v, rfl, hc, hv⟩ := strip_cons hv
  have hd' : d + max (1 + depX x) (max (depN b) 0) ≤ 20 := by simpa using hd
  obtain ⟨x', ⟨n, hn⟩, he⟩ := held_x (e := e) hx (d := d) (rest := v ++ rest) hu (by omega) h1 hc
  obtain ⟨b', ⟨m, hm⟩, heb⟩ := hb d v rest hv (by omega)
  have hn2 : heldF e (n + m) d (t1 :: (u ++ c :: (v ++ rest))) = some (.ok (x', v ++ rest)) := tell_more (he_up _) hn (by omega)
  have hm2 : blockF e (n + m) d (v ++ rest) = some (.ok (b', rest)) := tell_more (bl_up d _) hm (by omega)
  have hw := word_is h0 (t1 :: (u ++ c :: (v ++ rest)))
  refine ⟨.mk 10 0 t0.pos [] [x', b'], ⟨n + m + 1, ?_⟩, by simp [erase, erases, he, heb]⟩
  have el : t0 :: t1 :: (u ++ c :: v) ++ rest = t0 :: t1 :: (u ++ c :: (v ++ rest)) := by simp
  show stmtF e (n + m + 1) d (t0 :: t1 :: (u ++ c :: v) ++ rest) = _
  rw [el, stmtF, hw, if_neg (by decide), if_pos rfl]
  simp only [List.tail_cons, hn2, andT, hm2, posOf]
theorem read_if {p : Int} {x b : Nd} (hx : WfX x) (ht : toksN x = toksX x) (hdx : depN x = depX x) (hb : RdB e b) : RdS e (.mk 9 0 p [] [x, b]) := by
  intro d l1 rest hl hd hel
  rw [toksN, if_neg (by decide)] at hl
  simp only [partsT, toksNs, ht, List.getD_cons_zero, List.getD_cons_succ, List.drop_succ_cons, List.drop_zero] at hl
  rw [depN, if_neg (by decide)] at hd
  simp only [depK, depNs, hdx, maxL, List.getD_cons_zero, List.drop_succ_cons, List.drop_zero] at hd
  obtain ⟨t0, q, rfl, h0, hl⟩ := strip_cons (by simpa using hl)
  obtain ⟨t1, q, rfl, h1, hl⟩ := strip_cons hl
  obtain ⟨u, v, rfl, hu, hv⟩ := strip_app hl
  obtain ⟨c, v, rfl, hc, hv⟩ := strip_cons hv
  have hd' : d + max (1 + depX x) (max (depN b) 0) ≤ 20 := by simpa using hd
  obtain ⟨x', ⟨n, hn⟩, he⟩ := held_x (e := e) hx (d := d) (rest := v ++ rest) hu (by omega) h1 hc
  obtain ⟨b', ⟨m, hm⟩, heb⟩ := hb d v rest (by simpa using hv) (by omega)
  have hn2 : heldF e (n + m) d (t1 :: (u ++ c :: (v ++ rest))) = some (.ok (x', v ++ rest)) := tell_more (he_up _) hn (by omega)
  have hm2 : blockF e (n + m) d (v ++ rest) = some (.ok (b', rest)) := tell_more (bl_up d _) hm (by omega)
  have hw := word_is h0 (t1 :: (u ++ c :: (v ++ rest)))
  refine ⟨.mk 9 0 t0.pos [] [x', b'], ⟨n + m + 1, ?_⟩, by simp [erase, erases, he, heb]⟩
  have el : t0 :: t1 :: (u ++ c :: v) ++ rest = t0 :: t1 :: (u ++ c :: (v ++ rest)) := by simp
  show stmtF e (n + m + 1) d (t0 :: t1 :: (u ++ c :: v) ++ rest) = _
  rw [el, stmtF, hw, if_pos rfl]
  simp only [List.tail_cons, hn2, andT, hm2, posOf, hel, Bool.false_eq_true, if_false]
theorem map1 {ks : List Nd} {a : Int} (h : ks.map kindN = [a]) : ∃ x, ks = [x] ∧ kindN x = a := by
  obtain ⟨x, r, rfl, h1, h2⟩ := List.map_eq_cons_iff.1 h
  obtain rfl : r = [] := by simpa using h2
  exact ⟨x, rfl, h1⟩
theorem map2 {ks : List Nd} {a b : Int} (h : ks.map kindN = [a, b]) : ∃ x y, ks = [x, y] ∧ kindN x = a ∧ kindN y = b := by
  obtain ⟨x, r, rfl, h1, h2⟩ := List.map_eq_cons_iff.1 h
  obtain ⟨y, rfl, h3⟩ := map1 h2
  exact ⟨x, y, rfl, h1, h3⟩
theorem map3 {ks : List Nd} {a b c : Int} (h : ks.map kindN = [a, b, c]) : ∃ x y z, ks = [x, y, z] ∧ kindN x = a ∧ kindN y = b ∧ kindN z = c := by
  obtain ⟨x, r, rfl, h1, h2⟩ := List.map_eq_cons_iff.1 h
  obtain ⟨y, z, rfl, h3, h4⟩ := map2 h2
  exact ⟨x, y, z, rfl, h1, h3, h4⟩
theorem read_else {p : Int} {x b b2 : Nd} (hx : WfX x) (ht : toksN x = toksX x) (hdx : depN x = depX x) (hb : RdB e b) (hb2 : RdB e b2) : RdS e (.mk 9 0 p [] [x, b, b2]) := by
  intro d l1 rest hl hd _
  rw [toksN, if_neg (by decide)] at hl
  simp only [partsT, toksNs, ht, List.getD_cons_zero, List.getD_cons_succ, List.drop_succ_cons, List.drop_zero] at hl
  rw [depN, if_neg (by decide)] at hd
  simp only [depK, depNs, hdx, maxL, List.getD_cons_zero, List.drop_succ_cons, List.drop_zero] at hd
  obtain ⟨t0, q, rfl, h0, hl⟩ := strip_cons (by simpa using hl)
  obtain ⟨t1, q, rfl, h1, hl⟩ := strip_cons hl
  obtain ⟨u, v, rfl, hu, hv⟩ := strip_app hl
  obtain ⟨c, v, rfl, hc, hv⟩ := strip_cons hv
  obtain ⟨v1, z, rfl, hv1, hz⟩ := strip_app hv
  obtain ⟨el0, z, rfl, hel, hz⟩ := strip_cons hz
  have hd' : d + max (1 + depX x) (max (depN b) (max (depN b2) 0)) ≤ 20 := by simpa using hd
  obtain ⟨x', ⟨n, hn⟩, he⟩ := held_x (e := e) hx (d := d) (rest := v1 ++ el0 :: (z ++ rest)) hu (by omega) h1 hc
  obtain ⟨b', ⟨m, hm⟩, heb⟩ := hb d v1 (el0 :: (z ++ rest)) hv1 (by omega)
  obtain ⟨b2', ⟨m2, hm2⟩, heb2⟩ := hb2 d z rest hz (by omega)
  have k1 : heldF e (n + m + m2) d (t1 :: (u ++ c :: (v1 ++ el0 :: (z ++ rest)))) = some (.ok (x', v1 ++ el0 :: (z ++ rest))) := tell_more (he_up _) hn (by omega)
  have k2 : blockF e (n + m + m2) d (v1 ++ el0 :: (z ++ rest)) = some (.ok (b', el0 :: (z ++ rest))) := tell_more (bl_up d _) hm (by omega)
  have k3 : blockF e (n + m + m2) d (z ++ rest) = some (.ok (b2', rest)) := tell_more (bl_up d _) hm2 (by omega)
  have hw := word_is h0 (t1 :: (u ++ c :: (v1 ++ el0 :: (z ++ rest))))
  refine ⟨.mk 9 0 t0.pos [] [x', b', b2'], ⟨n + m + m2 + 1, ?_⟩, by simp [erase, erases, he, heb, heb2]⟩
  have el : t0 :: t1 :: (u ++ c :: (v1 ++ el0 :: z)) ++ rest = t0 :: t1 :: (u ++ c :: (v1 ++ el0 :: (z ++ rest))) := by simp
  show stmtF e (n + m + m2 + 1) d (t0 :: t1 :: (u ++ c :: (v1 ++ el0 :: z)) ++ rest) = _
  rw [el, stmtF, hw, if_pos rfl]
  simp only [List.tail_cons, k1, andT, k2, posOf, is_yes (Or.inr hel) (z ++ rest), if_true, k3]

/-- WHAT IS PRINTED OF A STATEMENT, A BLOCK IS READ AS IT WAS. -/
theorem read_n (e : Int) : ∀ N x, ndSize x ≤ N → WfN x → (6 ≤ kindN x → kindN x ≤ 14 → RdS e x) ∧ (kindN x = 5 → RdB e x)
  | 0, .mk _ _ _ _ _, hN, _ => by simp [ndSize] at hN
  | N + 1, .mk k n p t ks, hN, hw => by
    have kid : ∀ x, x ∈ ks → WfN x ∧ ((6 ≤ kindN x → kindN x ≤ 14 → RdS e x) ∧ (kindN x = 5 → RdB e x)) ∨ 15 ≤ k := fun x hx => by
      by_cases h15 : 15 ≤ k
      · exact Or.inr h15
      · rw [WfN, if_neg h15] at hw
        have hs := size_mem hx
        exact Or.inl ⟨wfNs_mem hw.2.2 hx, read_n e N x (by simp only [ndSize] at hN; omega) (wfNs_mem hw.2.2 hx)⟩
    by_cases h15 : 15 ≤ k
    · exact ⟨fun _ h => absurd (show k ≤ 14 from h) (by omega), fun h => absurd (show k = 5 from h) (by omega)⟩
    rw [WfN, if_neg h15] at hw
    obtain ⟨rfl, hsh, hws⟩ := hw
    have kid2 : ∀ x, x ∈ ks → WfN x ∧ ((6 ≤ kindN x → kindN x ≤ 14 → RdS e x) ∧ (kindN x = 5 → RdB e x)) := fun x hx => (kid x hx).resolve_right h15
    rcases hsh with ⟨rfl, rfl, h⟩ | ⟨rfl, _, a, h, h2⟩ | ⟨rfl, _, a, h, h2⟩ | ⟨rfl, _, b, c, h, h2, h3⟩ | ⟨rfl, rfl, a, h2, h⟩ | ⟨rfl, rfl, a, h2, h⟩ | ⟨rfl, rfl, a, h, h2⟩ | ⟨h, _, h2⟩ | ⟨rfl, rfl, h⟩
    · refine ⟨fun h6 _ => absurd (show (6 : Int) ≤ 5 from h6) (by decide), fun _ => read_block hws (fun x hx => h _ (List.mem_map.2 ⟨x, hx, rfl⟩)) (fun x hx => ?_)⟩
      have hk := h _ (List.mem_map.2 ⟨x, hx, rfl⟩)
      exact (kid2 x hx).2.1 hk.1 hk.2
    · refine ⟨fun _ _ => ?_, fun h5 => absurd (show (6 : Int) = 5 from h5) (by decide)⟩
      · obtain ⟨x, rfl, rfl⟩ := map1 h
        obtain ⟨w1, w2, w3⟩ := wfN_x (kid2 x (by simp)).1 h2
        exact read_six w1 w2 w3
    · refine ⟨fun _ _ => ?_, fun h5 => absurd (show (7 : Int) = 5 from h5) (by decide)⟩
      · obtain ⟨x, rfl, rfl⟩ := map1 h
        obtain ⟨w1, w2, w3⟩ := wfN_x (kid2 x (by simp)).1 h2
        exact read_seven w1 w2 w3 (no_cas w1)
    · refine ⟨fun _ _ => ?_, fun h5 => absurd (show (8 : Int) = 5 from h5) (by decide)⟩
      · obtain ⟨y, x, z, rfl, hy, rfl, rfl⟩ := map3 h
        obtain ⟨w1, w2, w3⟩ := wfN_x (kid2 x (by simp)).1 h2
        obtain ⟨v1, v2, v3⟩ := wfN_x (kid2 z (by simp)).1 h3
        obtain ⟨u1, _, _⟩ := wfN_x (kid2 y (by simp)).1 (by omega)
        match y, hy, u1 with
        | .mk ky ny py ty ksy, hy, u1 =>
          obtain rfl : ky = 16 := hy
          unfold WfX at u1
          rcases u1 with u1 | ⟨_, rfl, u1⟩
          · exact absurd u1.1 (by decide)
          · match ksy, u1 with
            | [], u1 => exact read_eight w1 w2 w3 v1 v2 v3
            | [_], u1 => exact absurd u1.1 (by decide)
            | [_, _], u1 => exact absurd u1.1 (by decide)
    · refine ⟨fun _ _ => ?_, fun h5 => absurd (show (9 : Int) = 5 from h5) (by decide)⟩
      rcases h with h | h
      · obtain ⟨x, b, rfl, rfl, hb⟩ := map2 h
        · obtain ⟨w1, w2, w3⟩ := wfN_x (kid2 x (by simp)).1 h2
          exact read_if w1 w2 w3 ((kid2 b (by simp)).2.2 hb)
      · obtain ⟨x, b, c, rfl, rfl, hb, hc⟩ := map3 h
        · obtain ⟨w1, w2, w3⟩ := wfN_x (kid2 x (by simp)).1 h2
          exact read_else w1 w2 w3 ((kid2 b (by simp)).2.2 hb) ((kid2 c (by simp)).2.2 hc)
    · refine ⟨fun _ _ => ?_, fun h5 => absurd (show (10 : Int) = 5 from h5) (by decide)⟩
      · obtain ⟨x, b, rfl, rfl, hb⟩ := map2 h
        obtain ⟨w1, w2, w3⟩ := wfN_x (kid2 x (by simp)).1 h2
        exact read_while w1 w2 w3 ((kid2 b (by simp)).2.2 hb)
    · refine ⟨fun _ _ => ?_, fun h5 => absurd (show (11 : Int) = 5 from h5) (by decide)⟩
      · obtain ⟨x, rfl, rfl⟩ := map1 h
        obtain ⟨w1, w2, w3⟩ := wfN_x (kid2 x (by simp)).1 h2
        exact read_print w1 w2 w3
    · obtain rfl : ks = [] := by simpa using h2
      exact ⟨fun _ _ => read_lock h, fun h5 => absurd (show k = 5 from h5) (by omega)⟩
    · obtain rfl : ks = [] := by simpa using h
      exact ⟨fun _ _ => read_fence, fun h5 => absurd (show (14 : Int) = 5 from h5) (by decide)⟩
end

end Go.Proofs.YtclnjhffcfkihaeGreatDoor
