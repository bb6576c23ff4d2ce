/-
  Expressions that are printed are read as they were.
  What is read as an expression is one, and not too deep.
-/
import Derived.Test.YtclnjhffcfkihaeGreatDoorSynP
namespace Go.Proofs.YtclnjhffcfkihaeGreatDoor
section
theorem strip_cons {l : List Tok} {a : Tk} {A : List Tk} (h : l.map strip = a :: A) : ∃ t q, l = t :: q ∧ strip t = a ∧ q.map strip = A := by
  match l, h with
  | t :: q, h =>
    simp only [List.map_cons, List.cons.injEq] at h
    exact ⟨t, q, rfl, h.1, h.2⟩
theorem strip_app {l : List Tok} {A B : List Tk} (h : l.map strip = A ++ B) : ∃ p q, l = p ++ q ∧ p.map strip = A ∧ q.map strip = B := by
  obtain ⟨p, q, h1, h2, h3⟩ := List.map_eq_append_iff.1 h
  exact ⟨p, q, h1, h2, h3⟩
theorem is_yes {t : Tok} {s : List UInt8} {v : Int} (h : strip t = (4, v, s) ∨ strip t = (2, v, s)) (r : List Tok) : isTok s (t :: r) = true := by
  rcases h with h | h <;> (simp only [strip, Prod.mk.injEq] at h; simp [isTok, h.1, h.2.2])
theorem is_other {t : Tok} {s s' : List UInt8} {k v : Int} (h : strip t = (k, v, s)) (hs : s ≠ s') (r : List Tok) : isTok s' (t :: r) = false := by
  simp only [strip, Prod.mk.injEq] at h
  simp [isTok, h.2.2, hs]
theorem is_kind {t : Tok} {s s' : List UInt8} {k v : Int} (h : strip t = (k, v, s)) (hk : k = 1 ∨ k = 3) (r : List Tok) : isTok s' (t :: r) = false := by
  simp only [strip, Prod.mk.injEq] at h
  rcases hk with hk | hk <;> simp [isTok, h.1, hk]
theorem take_yes {e : Int} {s : List UInt8} {t : Tok} {r : List Tok} (h : isTok s (t :: r) = true) : takeT e s (t :: r) = .ok r := by
  unfold takeT; rw [if_pos h]; rfl
theorem open_yes {e : Int} {s : List UInt8} {d : Nat} {t : Tok} {r : List Tok} (h : isTok s (t :: r) = true) (hd : d ≠ 20) : openT e s d (t :: r) = .ok r := by
  unfold openT; rw [if_neg (fun h => hd h.2)]; exact take_yes h

section
variable {e : Int}
/-- What reads an expression, in front of what follows. -/
def RdU (e : Int) (x : Nd) : Prop := ∀ (d : Nat) (l1 rest : List Tok), l1.map strip = sideX x 5 → d + depS x 5 ≤ 20 → ∃ x', Tell (fun n => unaryF e n d (l1 ++ rest)) (.ok (x', rest)) ∧ erase x' = erase x
def RdE (e : Int) (x : Nd) (k : Nat) : Prop := ∀ (d : Nat) (l1 rest : List Tok), l1.map strip = sideX x (k : Int) → d + depS x (k : Int) ≤ 20 → NoSign k rest → ∃ x', Tell (fun n => exprF e n k d (l1 ++ rest)) (.ok (x', rest)) ∧ erase x' = erase x
def RdC (e : Int) (x : Nd) (k : Nat) : Prop := ∀ (d : Nat) (l1 rest : List Tok), l1.map strip = sideX x (k : Int) → d + depS x (k : Int) ≤ 20 → NoSign (k + 1) rest →
  ∃ x', erase x' = erase x ∧ ∃ m, ∀ n r, loopF e n k d x' rest = some r → exprF e (n + m) k d (l1 ++ rest) = some r

/-- In brackets. -/
theorem read_held {x : Nd} (hb : bindX x < 5) (h0 : 0 ≤ bindX x) (h : RdE e x 0) : RdU e x := by
  intro d l1 rest hl hd
  unfold sideX at hl
  rw [if_pos hb] at hl
  unfold depS at hd
  rw [if_pos hb] at hd
  obtain ⟨t, q, rfl, ht, hq⟩ := strip_cons (by simpa using hl)
  obtain ⟨p, u, rfl, hp, hu⟩ := strip_app hq
  obtain ⟨c, u2, rfl, hc, hu2⟩ := strip_cons hu
  obtain rfl : u2 = [] := by simpa using hu2
  have e0 : ¬ bindX x < ((0 : Nat) : Int) := by simp; exact h0
  obtain ⟨x', ⟨n, hn⟩, he⟩ := h (d + 1) p (c :: rest) (by unfold sideX; rw [if_neg e0]; exact hp) (by unfold depS; rw [if_neg e0]; omega) (by
    intro h4
    have : c.text = [41] := by simp only [strip, Prod.mk.injEq] at hc; exact hc.2.2
    rw [this]; decide)
  refine ⟨x', ⟨n + 1 + 1, ?_⟩, he⟩
  have ht1 := is_yes (Or.inl ht) (p ++ [c] ++ rest)
  show unaryF e (n + 1 + 1) d (t :: (p ++ [c]) ++ rest) = _
  simp only [List.cons_append]
  rw [unaryF, if_neg (by rw [is_other ht (by decide)]; simp), if_neg (by rw [is_other ht (by decide)]; simp), if_pos ht1, heldF, open_yes ht1 (by omega)]
  simp only [thenT, List.append_assoc, List.cons_append, List.nil_append]
  have hn2 : exprF e n 0 (d + 1) (p ++ c :: rest) = some (.ok (x', c :: rest)) := hn
  rw [hn2]
  simp only [andT, take_yes (is_yes (Or.inl hc) rest)]

theorem read_low {x : Nd} {k : Nat} (hk : k ≤ 5) (hb : bindX x < (k : Int)) (h : RdU e x) : RdE e x k := by
  intro d l1 rest hl hd hs
  have h5 : bindX x < 5 := by omega
  obtain ⟨x', ht, he⟩ := h d l1 rest (by unfold sideX at hl ⊢; rw [if_pos hb] at hl; rw [if_pos h5]; exact hl) (by unfold depS at hd ⊢; rw [if_pos hb] at hd; rw [if_pos h5]; exact hd)
  exact ⟨x', expr_all (expr_five ht) (5 - k) k (by omega) hs, he⟩
theorem read_top {x : Nd} {k : Nat} (hk : k ≤ 5) (hb : bindX x = 5) (h : RdU e x) : RdE e x k := by
  intro d l1 rest hl hd hs
  have e1 : ¬ bindX x < (k : Int) := by omega
  have e2 : ¬ bindX x < 5 := by omega
  obtain ⟨x', ht, he⟩ := h d l1 rest (by unfold sideX at hl ⊢; rw [if_neg e1] at hl; rw [if_neg e2]; exact hl) (by unfold depS at hd ⊢; rw [if_neg e1] at hd; rw [if_neg e2]; exact hd)
  exact ⟨x', expr_all (expr_five ht) (5 - k) k (by omega) hs, he⟩
/-- A level on top of the next. -/
theorem read_go {x : Nd} {k : Nat} (hk : k < 5) (hb : bindX x ≠ (k : Int)) (h : RdE e x (k + 1)) : RdC e x k := by
  intro d l1 rest hl hd hs
  have e1 : (bindX x < ((k + 1 : Nat) : Int)) ↔ bindX x < (k : Int) := by omega
  obtain ⟨x', ⟨m, hm⟩, he⟩ := h d l1 rest (by unfold sideX at hl ⊢; simp only [e1]; exact hl) (by unfold depS at hd ⊢; simp only [e1]; exact hd) hs
  refine ⟨x', he, m + 1, fun n r hr => ?_⟩
  rw [show n + (m + 1) = (n + m) + 1 by omega, exprF, if_neg (by omega), tell_more (ex_up (k + 1) (l1 ++ rest)) hm (by omega)]
  exact tell_more (lo_up k x' rest) hr (by omega)
theorem read_end {x : Nd} {k : Nat} (h : RdC e x k) : RdE e x k := by
  intro d l1 rest hl hd hs
  obtain ⟨x', he, m, hm⟩ := h d l1 rest hl hd (hs.up (by omega))
  refine ⟨x', ⟨1 + m, hm 1 _ ?_⟩, he⟩
  rw [loopF, hs.none (Nat.le_refl _)]
theorem read_down {x : Nd} {k : Nat} (hk : k < 5) (hb : ¬ bindX x < ((k + 1 : Nat) : Int)) (h : RdE e x (k + 1)) : RdE e x k := by
  intro d l1 rest hl hd hs
  have e1 : ¬ bindX x < (k : Int) := by omega
  obtain ⟨x', ht, he⟩ := h d l1 rest (by unfold sideX at hl ⊢; rw [if_neg e1] at hl; rw [if_neg hb]; exact hl) (by unfold depS at hd ⊢; rw [if_neg e1] at hd; rw [if_neg hb]; exact hd) (hs.up (by omega))
  exact ⟨x', expr_down hk ht (hs.none (Nat.le_refl _)), he⟩
theorem read_downs {x : Nd} {l : Nat} (hl5 : l ≤ 5) (hb : ¬ bindX x < (l : Int)) (h : RdE e x l) : ∀ j k : Nat, k + j = l → RdE e x k
  | 0, k, hk => by
    obtain rfl : k = l := by omega
    exact h
  | j + 1, k, hk => read_down (by omega) (by omega) (read_downs hl5 hb h j (k + 1) (by omega))
/-- Two with a sign between. -/
theorem read_bin {p : Int} {t : List UInt8} {a b : Nd} {k : Nat} (hk : lvl t = (k : Int)) (ha : RdC e a k) (hb : RdE e b (k + 1)) : RdC e (.mk 19 0 p t [a, b]) k := by
  intro d l1 rest hl hd hs
  have hk5 : k < 5 := by have := lvl_le t; omega
  have hbx : bindX (.mk 19 0 p t [a, b]) = (k : Int) := by simp [bindX, hk]
  have e1 : ¬ bindX (.mk 19 0 p t [a, b]) < (k : Int) := by omega
  have e2 : lvl t + 1 = ((k + 1 : Nat) : Int) := by omega
  unfold sideX at hl
  rw [if_neg e1, toksX, if_neg (by decide)] at hl
  change l1.map strip = sideX a (lvl t) ++ [(4, 0, t)] ++ sideX b (lvl t + 1) at hl
  rw [e2, hk] at hl
  unfold depS at hd
  rw [if_neg e1, depX, if_neg (by decide)] at hd
  change d + max (depS a (lvl t)) (depS b (lvl t + 1)) ≤ 20 at hd
  rw [e2, hk] at hd
  obtain ⟨q, u, rfl, hq, hu⟩ := strip_app hl
  obtain ⟨q1, q2, rfl, hq1, hq2⟩ := strip_app hq
  obtain ⟨c, q3, rfl, hc, hq3⟩ := strip_cons hq2
  obtain rfl : q3 = [] := by simpa using hq3
  have hck : c.kind = 4 ∧ c.text = t := by simp only [strip, Prod.mk.injEq] at hc; exact ⟨hc.1, hc.2.2⟩
  obtain ⟨a', hea, ma, hma⟩ := ha d q1 (c :: (u ++ rest)) hq1 (by omega) (fun _ => by rw [hck.2, hk]; omega)
  obtain ⟨b', ⟨nb, hnb⟩, heb⟩ := hb d u rest hu (by omega) hs
  refine ⟨.mk 19 0 c.pos t [a', b'], by simp [erase, erases, hea, heb], nb + 1 + ma, fun n r hr => ?_⟩
  have h1 := hma (n + nb + 1) r (by
    rw [loopF]
    have hsg : signAt k (c :: (u ++ rest)) = some (c, u ++ rest) := by rw [signAt, if_pos ⟨hck.1, by rw [hck.2]; exact hk⟩]
    rw [hsg]
    simp only
    rw [tell_more (ex_up (k + 1) (u ++ rest)) hnb (by omega)]
    simp only [andT]
    rw [hck.2]
    exact tell_more (lo_up k _ rest) hr (by omega))
  have e3 : q1 ++ [c] ++ u ++ rest = q1 ++ c :: (u ++ rest) := by simp
  rw [e3, show n + (nb + 1 + ma) = n + nb + 1 + ma by omega]
  exact h1

theorem bind_top {k n p : Int} {t : List UInt8} {ks : List Nd} (h : k ≠ 19) : bindX (.mk k n p t ks) = 5 := by simp [bindX, h]
/-- A primary one. -/
theorem read_prim {x : Nd} (hb : bindX x = 5) {a : Tk} (ht : toksX x = [a]) (hk : a.1 = 1 ∨ a.1 = 3) (h : ∀ (t : Tok) (r : List Tok), strip t = a → ∃ x', primT e (t :: r) = .ok (x', r) ∧ erase x' = erase x) : RdU e x := by
  intro d l1 rest hl _
  unfold sideX at hl
  rw [if_neg (by omega), ht] at hl
  obtain ⟨t, q, rfl, hs, hq⟩ := strip_cons hl
  obtain rfl : q = [] := by simpa using hq
  obtain ⟨x', h1, h2⟩ := h t rest hs
  obtain ⟨ak, av, az⟩ := a
  refine ⟨x', ⟨1, ?_⟩, h2⟩
  show unaryF e 1 d (t :: ([] ++ rest)) = _
  rw [List.nil_append, unaryF, if_neg (by rw [is_kind hs hk]; simp), if_neg (by rw [is_kind hs hk]; simp), if_neg (by rw [is_kind hs hk]; simp), h1]
/-- One with a sign ahead. -/
theorem read_pre {k p : Int} {a : Nd} (hk : k = 17 ∨ k = 18) (h : RdU e a) : RdU e (.mk k 0 p [] [a]) := by
  intro d l1 rest hl hd
  have hb : bindX (.mk k 0 p [] [a]) = 5 := bind_top (by omega)
  unfold sideX at hl
  rw [if_neg (by omega), toksX, if_neg (by omega)] at hl
  change l1.map strip = (4, 0, if k = 17 then [45] else [33]) :: sideX a 5 at hl
  unfold depS at hd
  rw [if_neg (by omega), depX, if_neg (by omega)] at hd
  change d + (1 + depS a 5) ≤ 20 at hd
  obtain ⟨t, q, rfl, ht, hq⟩ := strip_cons hl
  obtain ⟨a', ⟨n, hn⟩, he⟩ := h (d + 1) q rest hq (by omega)
  rcases hk with rfl | rfl
  · have h1 := is_yes (Or.inl ht) (q ++ rest)
    refine ⟨.mk 17 0 t.pos [] [a'], ⟨n + 1, ?_⟩, by simp [erase, erases, he]⟩
    show unaryF e (n + 1) d (t :: (q ++ rest)) = _
    rw [if_pos rfl] at h1
    rw [unaryF, if_pos h1, open_yes h1 (by omega)]
    have hn2 : unaryF e n (d + 1) (q ++ rest) = some (.ok (a', rest)) := hn
    simp only [thenT, hn2, andT, posOf]
  · rw [if_neg (by decide)] at ht
    have h1 := is_yes (Or.inl ht) (q ++ rest)
    refine ⟨.mk 18 0 t.pos [] [a'], ⟨n + 1, ?_⟩, by simp [erase, erases, he]⟩
    show unaryF e (n + 1) d (t :: (q ++ rest)) = _
    rw [unaryF, if_neg (by rw [is_other ht (by decide)]; simp), if_pos h1, open_yes h1 (by omega)]
    have hn2 : unaryF e n (d + 1) (q ++ rest) = some (.ok (a', rest)) := hn
    simp only [thenT, hn2, andT, posOf]

/-- WHAT IS PRINTED OF AN EXPRESSION IS READ AS IT WAS. -/
theorem read_all (e : Int) : ∀ N x, ndSize x ≤ N → WfX x → RdU e x ∧ (∀ k, k ≤ 5 → RdE e x k) ∧ (∀ k, k < 5 → RdC e x k)
  | 0, .mk _ _ _ _ _, hN, _ => by simp [ndSize] at hN
  | N + 1, .mk k n p t ks, hN, hw => by
    have top : ∀ {x : Nd}, bindX x = 5 → RdU e x → RdU e x ∧ (∀ k, k ≤ 5 → RdE e x k) ∧ (∀ k, k < 5 → RdC e x k) := fun hb h =>
      ⟨h, fun k hk => read_top hk hb h, fun k hk => read_go hk (by omega) (read_top hk hb h)⟩
    unfold WfX at hw
    rcases hw with ⟨rfl, _, _, rfl, rfl⟩ | ⟨hk15, rfl, hw⟩
    · refine top (bind_top (by decide)) (read_prim (bind_top (by decide)) (by rw [toksX, if_pos rfl]) (Or.inr rfl) fun t r ht => ?_)
      simp only [strip, Prod.mk.injEq] at ht
      exact ⟨.mk 15 n t.pos [] [], by simp [primT, tnumT, ht.1, ht.2.1, posOf], by simp [erase, erases]⟩
    · match ks, hw with
      | [], hw =>
        obtain rfl := hw.1
        refine top (bind_top (by decide)) (read_prim (bind_top (by decide)) (by rw [toksX, if_neg (by decide)]) (Or.inl rfl) fun tk r ht => ?_)
        simp only [strip, Prod.mk.injEq] at ht
        exact ⟨.mk 16 0 tk.pos t [], by simp [primT, tnumT, nameT, ht.1, ht.2.2, posOf], by simp [erase, erases]⟩
      | [a], hw =>
        obtain ⟨hk, rfl, hwa⟩ := hw
        have ha := read_all e N a (by simp only [ndSize, ndsSize] at hN; omega) hwa
        exact top (bind_top (by omega)) (read_pre hk ha.1)
      | [a, b], hw =>
        obtain ⟨rfl, hl0, hwa, hwb⟩ := hw
        have ha := read_all e N a (by simp only [ndSize, ndsSize] at hN; omega) hwa
        have hb := read_all e N b (by simp only [ndSize, ndsSize] at hN; omega) hwb
        have hl4 := lvl_le t
        obtain ⟨l, hl⟩ : ∃ l : Nat, lvl t = (l : Int) := ⟨(lvl t).toNat, by omega⟩
        have hbx : bindX (.mk 19 0 p t [a, b]) = (l : Int) := by simp [bindX, hl]
        have hC : RdC e (.mk 19 0 p t [a, b]) l := read_bin hl (ha.2.2 l (by omega)) (hb.2.1 (l + 1) (by omega))
        have hE : RdE e (.mk 19 0 p t [a, b]) l := read_end hC
        have h0 : RdE e (.mk 19 0 p t [a, b]) 0 := read_downs (by omega) (by omega) hE l 0 (by omega)
        have hU : RdU e (.mk 19 0 p t [a, b]) := read_held (by omega) (by omega) h0
        have hEk : ∀ k, k ≤ 5 → RdE e (.mk 19 0 p t [a, b]) k := fun k hk => by
          rcases Nat.lt_or_ge l k with h1 | h1
          · exact read_low hk (by omega) hU
          · exact read_downs (by omega) (by omega) hE (l - k) k (by omega)
        refine ⟨hU, hEk, fun k hk => ?_⟩
        by_cases h1 : k = l
        · subst h1; exact hC
        · exact read_go hk (by omega) (hEk (k + 1) (by omega))
end
end

section
/-- What is a token. -/
def TokOk (t : Tok) : Prop := (t.kind = 1 ∧ t.num = 0 ∧ NameOk t.text) ∨ (t.kind = 2 ∧ t.num = 0 ∧ isWord t.text = true) ∨ (t.kind = 3 ∧ 0 ≤ t.num ∧ t.num ≤ 999999999 ∧ t.text = Lib.decDigits t.num.toNat) ∨ (t.kind = 4 ∧ t.num = 0 ∧ (t.text ∈ twoL ∨ ∃ b, t.text = [b] ∧ b ∈ oneS))
def ToksOk (l : List Tok) : Prop := ∀ t, t ∈ l → TokOk t
theorem ToksOk.tail {l : List Tok} (h : ToksOk l) : ToksOk l.tail := fun t ht => h t (List.mem_of_mem_tail ht)

theorem andT_ok {α β : Type} {x : Option (TRes α)} {f : α → List Tok → Option (TRes β)} {y : β} {r : List Tok} (h : andT x f = some (.ok (y, r))) : ∃ a l, x = some (.ok (a, l)) ∧ f a l = some (.ok (y, r)) := by
  unfold andT at h
  match x, h with
  | some (.error q), h => cases h
  | some (.ok (a, l)), h => exact ⟨a, l, rfl, h⟩
theorem thenT_ok {β : Type} {x : Except (Int × Int) (List Tok)} {f : List Tok → Option (TRes β)} {y : β} {r : List Tok} (h : thenT x f = some (.ok (y, r))) : ∃ l, x = .ok l ∧ f l = some (.ok (y, r)) := by
  unfold thenT at h
  match x, h with
  | .error q, h => cases h
  | .ok l, h => exact ⟨l, rfl, h⟩
theorem nameThen_ok {β : Type} {x : TRes (List UInt8)} {f : List UInt8 → List Tok → Option (TRes β)} {y : β} {r : List Tok} (h : nameThen x f = some (.ok (y, r))) : ∃ s l, x = .ok (s, l) ∧ f s l = some (.ok (y, r)) := by
  unfold nameThen at h
  match x, h with
  | .error q, h => cases h
  | .ok (s, l), h => exact ⟨s, l, rfl, h⟩
theorem take_ok {e : Int} {s : List UInt8} {l r : List Tok} (h : takeT e s l = .ok r) : isTok s l = true ∧ r = l.tail := by
  unfold takeT at h
  split at h
  · rename_i h1; exact ⟨h1, by cases h; rfl⟩
  · cases h
theorem open_ok {e : Int} {s : List UInt8} {d : Nat} {l r : List Tok} (h : openT e s d l = .ok r) : isTok s l = true ∧ d ≠ 20 ∧ r = l.tail := by
  unfold openT at h
  split at h
  · cases h
  · rename_i h1
    have h2 := take_ok h
    exact ⟨h2.1, fun hd => h1 ⟨h2.1, hd⟩, h2.2⟩
theorem name_ok {e : Int} {s : List UInt8} {l r : List Tok} (hl : ToksOk l) (h : nameT e l = .ok (s, r)) : NameOk s ∧ r = l.tail := by
  match l, h with
  | t :: q, h =>
    rw [nameT] at h
    split at h
    · rename_i h1
      have h2 : (t.text, q) = (s, r) := Except.ok.inj h
      simp only [Prod.mk.injEq] at h2
      obtain ⟨rfl, rfl⟩ := h2
      rcases hl t (by simp) with h3 | h3 | h3 | h3
      · exact ⟨h3.2.2, rfl⟩
      · omega
      · omega
      · omega
    · cases h
theorem prim_ok {e : Int} {x : Nd} {l r : List Tok} (hl : ToksOk l) (h : primT e l = .ok (x, r)) : WfX x ∧ depX x = 0 ∧ bindX x = 5 ∧ r = l.tail := by
  unfold primT at h
  match l, hl, h with
  | [], _, h => simp [tnumT, nameT] at h
  | t :: q, hl, h =>
    by_cases h3 : t.kind = 3
    · simp only [tnumT, h3, if_true] at h
      have h2 := Except.ok.inj h
      simp only [Prod.mk.injEq] at h2
      obtain ⟨rfl, rfl⟩ := h2
      rcases hl t (by simp) with h4 | h4 | h4 | h4
      · omega
      · omega
      · refine ⟨?_, by simp [depX], by simp [bindX], rfl⟩
        unfold WfX
        exact Or.inl ⟨rfl, h4.2.1, h4.2.2.1, rfl, rfl⟩
      · omega
    · simp only [tnumT, h3, if_false] at h
      cases hn : nameT e (t :: q) with
      | error f => rw [hn] at h; cases h
      | ok y =>
        obtain ⟨s, q2⟩ := y
        rw [hn] at h
        have h2 := Except.ok.inj h
        simp only [Prod.mk.injEq] at h2
        obtain ⟨rfl, rfl⟩ := h2
        obtain ⟨h5, rfl⟩ := name_ok hl hn
        refine ⟨?_, by simp [depX], by simp [bindX], rfl⟩
        unfold WfX
        exact Or.inr ⟨by decide, rfl, rfl, h5⟩
theorem depS_le (x : Nd) (m : Int) : depS x m ≤ 1 + depX x := by unfold depS; split <;> omega
theorem sign_at {k : Nat} {l r : List Tok} {t : Tok} (h : signAt k l = some (t, r)) : lvl t.text = (k : Int) ∧ r = l.tail := by
  match l, h with
  | u :: q, h =>
    rw [signAt] at h
    split at h
    · rename_i h1
      simp only [Option.some.injEq, Prod.mk.injEq] at h
      obtain ⟨rfl, rfl⟩ := h
      exact ⟨h1.2, rfl⟩
    · cases h

/-- WHAT IS READ AS AN EXPRESSION IS ONE, and not too deep; what is left are tokens. -/
theorem expr_wf (e : Int) : ∀ n, (∀ (k d : Nat) l x r, k ≤ 5 → d ≤ 20 → ToksOk l → exprF e n k d l = some (.ok (x, r)) → WfX x ∧ d + depS x (k : Int) ≤ 20 ∧ ToksOk r) ∧
    (∀ (k d : Nat) y l x r, k < 5 → d ≤ 20 → ToksOk l → WfX y → d + depS y (k : Int) ≤ 20 → loopF e n k d y l = some (.ok (x, r)) → WfX x ∧ d + depS x (k : Int) ≤ 20 ∧ ToksOk r) ∧
    (∀ (d : Nat) l x r, d ≤ 20 → ToksOk l → unaryF e n d l = some (.ok (x, r)) → WfX x ∧ d + depS x 5 ≤ 20 ∧ ToksOk r) ∧
    (∀ (d : Nat) l x r, d ≤ 20 → ToksOk l → heldF e n d l = some (.ok (x, r)) → WfX x ∧ d + 1 + depX x ≤ 20 ∧ ToksOk r)
  | 0 => ⟨fun _ _ _ _ _ _ _ _ h => (by rw [exprF] at h; cases h), fun _ _ _ _ _ _ _ _ _ _ _ h => (by rw [loopF] at h; cases h), fun _ _ _ _ _ _ h => (by rw [unaryF] at h; cases h), fun _ _ _ _ _ _ h => (by rw [heldF] at h; cases h)⟩
  | n + 1 => by
    obtain ⟨h1, h2, h3, h4⟩ := expr_wf e n
    refine ⟨fun k d l x r hk hd hl h => ?_, fun k d y l x r hk hd hl hy hyd h => ?_, fun d l x r hd hl h => ?_, fun d l x r hd hl h => ?_⟩
    · rw [exprF] at h
      split at h
      · rename_i h5; subst h5; exact h3 d l x r hd hl h
      · obtain ⟨a, q, ha, hq⟩ := andT_ok h
        obtain ⟨w1, w2, w3⟩ := h1 (k + 1) d l a q (by omega) hd hl ha
        refine h2 k d a q x r (by omega) hd w3 w1 ?_ hq
        unfold depS at w2 ⊢
        split
        · rw [if_pos (by omega)] at w2; exact w2
        · split at w2 <;> omega
    · rw [loopF] at h
      split at h
      · have h5 := Except.ok.inj (Option.some.inj h)
        simp only [Prod.mk.injEq] at h5
        obtain ⟨rfl, rfl⟩ := h5
        exact ⟨hy, hyd, hl⟩
      · rename_i t q hs
        obtain ⟨hlv, rfl⟩ := sign_at hs
        obtain ⟨a, q2, ha, hq⟩ := andT_ok h
        obtain ⟨w1, w2, w3⟩ := h1 (k + 1) d l.tail a q2 (by omega) hd hl.tail ha
        refine h2 k d _ q2 x r hk hd w3 ?_ ?_ hq
        · unfold WfX
          exact Or.inr ⟨by decide, rfl, rfl, by omega, hy, w1⟩
        · have e1 : ¬ bindX (.mk 19 0 t.pos t.text [y, a]) < (k : Int) := by simp [bindX, hlv]
          have e2 : lvl t.text + 1 = ((k + 1 : Nat) : Int) := by omega
          unfold depS
          rw [if_neg e1, depX, if_neg (by decide)]
          change d + max (depS y (lvl t.text)) (depS a (lvl t.text + 1)) ≤ 20
          rw [e2, hlv]
          omega
    · rw [unaryF] at h
      have pre : ∀ (s : List UInt8) (k : Int), (k = 17 ∨ k = 18) → thenT (openT e s d l) (fun r => andT (unaryF e n (d + 1) r) fun x q => some (.ok (.mk k 0 (posOf e l) [] [x], q))) = some (.ok (x, r)) → WfX x ∧ d + depS x 5 ≤ 20 ∧ ToksOk r := fun s k hk h => by
        obtain ⟨q, hq, h⟩ := thenT_ok h
        obtain ⟨_, hd2, rfl⟩ := open_ok hq
        obtain ⟨a, q2, ha, h⟩ := andT_ok h
        obtain ⟨w1, w2, w3⟩ := h3 (d + 1) l.tail a q2 (by omega) hl.tail ha
        have h5 := Except.ok.inj (Option.some.inj h)
        simp only [Prod.mk.injEq] at h5
        obtain ⟨rfl, rfl⟩ := h5
        refine ⟨?_, ?_, w3⟩
        · unfold WfX
          exact Or.inr ⟨by omega, rfl, hk, rfl, w1⟩
        · have e1 : ¬ bindX (.mk k 0 (posOf e l) [] [a]) < 5 := by rw [bind_top (by omega)]; decide
          unfold depS
          rw [if_neg e1, depX, if_neg (by omega)]
          change d + (1 + depS a 5) ≤ 20
          omega
      split at h
      · exact pre _ 17 (Or.inl rfl) h
      · split at h
        · exact pre _ 18 (Or.inr rfl) h
        · split at h
          · obtain ⟨w1, w2, w3⟩ := h4 d l x r hd hl h
            have := depS_le x 5
            exact ⟨w1, by omega, w3⟩
          · obtain ⟨w1, w2, w3, rfl⟩ := prim_ok hl (Option.some.inj h)
            refine ⟨w1, ?_, hl.tail⟩
            unfold depS
            rw [if_neg (by omega), w2]
            omega
    · rw [heldF] at h
      obtain ⟨q, hq, h⟩ := thenT_ok h
      obtain ⟨_, hd2, rfl⟩ := open_ok hq
      obtain ⟨a, q2, ha, h⟩ := andT_ok h
      obtain ⟨w1, w2, w3⟩ := h1 0 (d + 1) l.tail a q2 (by omega) (by omega) hl.tail ha
      obtain ⟨p, hp, h⟩ := thenT_ok h
      obtain ⟨_, rfl⟩ := take_ok hp
      have h5 := Except.ok.inj (Option.some.inj h)
      simp only [Prod.mk.injEq] at h5
      obtain ⟨rfl, rfl⟩ := h5
      refine ⟨w1, ?_, w3.tail⟩
      unfold depS at w2
      split at w2 <;> omega
end

end Go.Proofs.YtclnjhffcfkihaeGreatDoor
