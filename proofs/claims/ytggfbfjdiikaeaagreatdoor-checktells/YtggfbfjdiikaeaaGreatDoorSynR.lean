/-
  Expressions that are printed are read as they were.
  What is read as an expression is one, and not too deep.
  Statements as they are printed: their tokens, how deep they are, and that they are read as they were.
-/
import Derived.Test.YtggfbfjdiikaeaaGreatDoorSynP
namespace Go.Proofs.YtggfbfjdiikaeaaGreatDoor
section
theorem strip_cons {l : List Tok} {a : Tk} {A : List Tk} (h : l.map strip = a :: A) : ∃ t q, l = t :: q ∧ strip t = a ∧ q.map strip = A := by
  match l, h with
  | t :: q, h =>
    simp only [List.map_cons, List.cons.injEq] at h
    exact ⟨t, q, rfl, h.1, h.2⟩
theorem strip_app {l : List Tok} {A B : List Tk} (h : l.map strip = A ++ B) : ∃ p q, l = p ++ q ∧ p.map strip = A ∧ q.map strip = B := by
  obtain ⟨p, q, h1, h2, h3⟩ := List.map_eq_append_iff.1 h
  exact ⟨p, q, h1, h2, h3⟩
theorem is_yes {t : Tok} {s : List UInt8} {v : Int} (h : strip t = (4, v, s) ∨ strip t = (2, v, s)) (r : List Tok) : isTok s (t :: r) = true := by
  rcases h with h | h <;> (simp only [strip, Prod.mk.injEq] at h; simp [isTok, h.1, h.2.2])
theorem is_other {t : Tok} {s s' : List UInt8} {k v : Int} (h : strip t = (k, v, s)) (hs : s ≠ s') (r : List Tok) : isTok s' (t :: r) = false := by
  simp only [strip, Prod.mk.injEq] at h
  simp [isTok, h.2.2, hs]
theorem is_kind {t : Tok} {s s' : List UInt8} {k v : Int} (h : strip t = (k, v, s)) (hk : k = 1 ∨ k = 3) (r : List Tok) : isTok s' (t :: r) = false := by
  simp only [strip, Prod.mk.injEq] at h
  rcases hk with hk | hk <;> simp [isTok, h.1, hk]
theorem take_yes {e : Int} {s : List UInt8} {t : Tok} {r : List Tok} (h : isTok s (t :: r) = true) : takeT e s (t :: r) = .ok r := by
  unfold takeT; rw [if_pos h]; rfl
theorem open_yes {e : Int} {s : List UInt8} {d : Nat} {t : Tok} {r : List Tok} (h : isTok s (t :: r) = true) (hd : d ≠ 20) : openT e s d (t :: r) = .ok r := by
  unfold openT; rw [if_neg (fun h => hd h.2)]; exact take_yes h

section
variable {e : Int}
/-- What reads an expression, in front of what follows. -/
def RdU (e : Int) (x : Nd) : Prop := ∀ (d : Nat) (l1 rest : List Tok), l1.map strip = sideX x 5 → d + depS x 5 ≤ 20 → ∃ x', Tell (fun n => unaryF e n d (l1 ++ rest)) (.ok (x', rest)) ∧ erase x' = erase x
def RdE (e : Int) (x : Nd) (k : Nat) : Prop := ∀ (d : Nat) (l1 rest : List Tok), l1.map strip = sideX x (k : Int) → d + depS x (k : Int) ≤ 20 → NoSign k rest → ∃ x', Tell (fun n => exprF e n k d (l1 ++ rest)) (.ok (x', rest)) ∧ erase x' = erase x
def RdC (e : Int) (x : Nd) (k : Nat) : Prop := ∀ (d : Nat) (l1 rest : List Tok), l1.map strip = sideX x (k : Int) → d + depS x (k : Int) ≤ 20 → NoSign (k + 1) rest →
  ∃ x', erase x' = erase x ∧ ∃ m, ∀ n r, loopF e n k d x' rest = some r → exprF e (n + m) k d (l1 ++ rest) = some r

/-- In brackets. -/
theorem read_held {x : Nd} (hb : bindX x < 5) (h0 : 0 ≤ bindX x) (h : RdE e x 0) : RdU e x := by
  intro d l1 rest hl hd
  unfold sideX at hl
  rw [if_pos hb] at hl
  unfold depS at hd
  rw [if_pos hb] at hd
  obtain ⟨t, q, rfl, ht, hq⟩ := strip_cons (by simpa using hl)
  obtain ⟨p, u, rfl, hp, hu⟩ := strip_app hq
  obtain ⟨c, u2, rfl, hc, hu2⟩ := strip_cons hu
  obtain rfl : u2 = [] := by simpa using hu2
  have e0 : ¬ bindX x < ((0 : Nat) : Int) := by simp; exact h0
  obtain ⟨x', ⟨n, hn⟩, he⟩ := h (d + 1) p (c :: rest) (by unfold sideX; rw [if_neg e0]; exact hp) (by unfold depS; rw [if_neg e0]; omega) (by
    intro h4
    have : c.text = [41] := by simp only [strip, Prod.mk.injEq] at hc; exact hc.2.2
    rw [this]; decide)
  refine ⟨x', ⟨n + 1 + 1, ?_⟩, he⟩
  have ht1 := is_yes (Or.inl ht) (p ++ [c] ++ rest)
  show unaryF e (n + 1 + 1) d (t :: (p ++ [c]) ++ rest) = _
  simp only [List.cons_append]
  rw [unaryF, if_neg (by rw [is_other ht (by decide)]; simp), if_neg (by rw [is_other ht (by decide)]; simp), if_pos ht1, heldF, open_yes ht1 (by omega)]
  simp only [thenT, List.append_assoc, List.cons_append, List.nil_append]
  have hn2 : exprF e n 0 (d + 1) (p ++ c :: rest) = some (.ok (x', c :: rest)) := hn
  rw [hn2]
  simp only [andT, take_yes (is_yes (Or.inl hc) rest)]

theorem read_low {x : Nd} {k : Nat} (hk : k ≤ 5) (hb : bindX x < (k : Int)) (h : RdU e x) : RdE e x k := by
  intro d l1 rest hl hd hs
  have h5 : bindX x < 5 := by omega
  obtain ⟨x', ht, he⟩ := h d l1 rest (by unfold sideX at hl ⊢; rw [if_pos hb] at hl; rw [if_pos h5]; exact hl) (by unfold depS at hd ⊢; rw [if_pos hb] at hd; rw [if_pos h5]; exact hd)
  exact ⟨x', expr_all (expr_five ht) (5 - k) k (by omega) hs, he⟩
theorem read_top {x : Nd} {k : Nat} (hk : k ≤ 5) (hb : bindX x = 5) (h : RdU e x) : RdE e x k := by
  intro d l1 rest hl hd hs
  have e1 : ¬ bindX x < (k : Int) := by omega
  have e2 : ¬ bindX x < 5 := by omega
  obtain ⟨x', ht, he⟩ := h d l1 rest (by unfold sideX at hl ⊢; rw [if_neg e1] at hl; rw [if_neg e2]; exact hl) (by unfold depS at hd ⊢; rw [if_neg e1] at hd; rw [if_neg e2]; exact hd)
  exact ⟨x', expr_all (expr_five ht) (5 - k) k (by omega) hs, he⟩
/-- A level on top of the next. -/
theorem read_go {x : Nd} {k : Nat} (hk : k < 5) (hb : bindX x ≠ (k : Int)) (h : RdE e x (k + 1)) : RdC e x k := by
  intro d l1 rest hl hd hs
  have e1 : (bindX x < ((k + 1 : Nat) : Int)) ↔ bindX x < (k : Int) := by omega
  obtain ⟨x', ⟨m, hm⟩, he⟩ := h d l1 rest (by unfold sideX at hl ⊢; simp only [e1]; exact hl) (by unfold depS at hd ⊢; simp only [e1]; exact hd) hs
  refine ⟨x', he, m + 1, fun n r hr => ?_⟩
  rw [show n + (m + 1) = (n + m) + 1 by omega, exprF, if_neg (by omega), tell_more (ex_up (k + 1) (l1 ++ rest)) hm (by omega)]
  exact tell_more (lo_up k x' rest) hr (by omega)
theorem read_end {x : Nd} {k : Nat} (h : RdC e x k) : RdE e x k := by
  intro d l1 rest hl hd hs
  obtain ⟨x', he, m, hm⟩ := h d l1 rest hl hd (hs.up (by omega))
  refine ⟨x', ⟨1 + m, hm 1 _ ?_⟩, he⟩
  rw [loopF, hs.none (Nat.le_refl _)]
theorem read_down {x : Nd} {k : Nat} (hk : k < 5) (hb : ¬ bindX x < ((k + 1 : Nat) : Int)) (h : RdE e x (k + 1)) : RdE e x k := by
  intro d l1 rest hl hd hs
  have e1 : ¬ bindX x < (k : Int) := by omega
  obtain ⟨x', ht, he⟩ := h d l1 rest (by unfold sideX at hl ⊢; rw [if_neg e1] at hl; rw [if_neg hb]; exact hl) (by unfold depS at hd ⊢; rw [if_neg e1] at hd; rw [if_neg hb]; exact hd) (hs.up (by omega))
  exact ⟨x', expr_down hk ht (hs.none (Nat.le_refl _)), he⟩
theorem read_downs {x : Nd} {l : Nat} (hl5 : l ≤ 5) (hb : ¬ bindX x < (l : Int)) (h : RdE e x l) : ∀ j k : Nat, k + j = l → RdE e x k
  | 0, k, hk => by
    obtain rfl : k = l := by omega
    exact h
  | j + 1, k, hk => read_down (by omega) (by omega) (read_downs hl5 hb h j (k + 1) (by omega))
/-- Two with a sign between. -/
theorem read_bin {p : Int} {t : List UInt8} {a b : Nd} {k : Nat} (hk : lvl t = (k : Int)) (ha : RdC e a k) (hb : RdE e b (k + 1)) : RdC e (.mk 19 0 p t [a, b]) k := by
  intro d l1 rest hl hd hs
  have hk5 : k < 5 := by have := lvl_le t; omega
  have hbx : bindX (.mk 19 0 p t [a, b]) = (k : Int) := by simp [bindX, hk]
  have e1 : ¬ bindX (.mk 19 0 p t [a, b]) < (k : Int) := by omega
  have e2 : lvl t + 1 = ((k + 1 : Nat) : Int) := by omega
  unfold sideX at hl
  rw [if_neg e1, toksX, if_neg (by decide)] at hl
  change l1.map strip = sideX a (lvl t) ++ [(4, 0, t)] ++ sideX b (lvl t + 1) at hl
  rw [e2, hk] at hl
  unfold depS at hd
  rw [if_neg e1, depX, if_neg (by decide)] at hd
  change d + max (depS a (lvl t)) (depS b (lvl t + 1)) ≤ 20 at hd
  rw [e2, hk] at hd
  obtain ⟨q, u, rfl, hq, hu⟩ := strip_app hl
  obtain ⟨q1, q2, rfl, hq1, hq2⟩ := strip_app hq
  obtain ⟨c, q3, rfl, hc, hq3⟩ := strip_cons hq2
  obtain rfl : q3 = [] := by simpa using hq3
  have hck : c.kind = 4 ∧ c.text = t := by simp only [strip, Prod.mk.injEq] at hc; exact ⟨hc.1, hc.2.2⟩
  obtain ⟨a', hea, ma, hma⟩ := ha d q1 (c :: (u ++ rest)) hq1 (by omega) (fun _ => by rw [hck.2, hk]; omega)
  obtain ⟨b', ⟨nb, hnb⟩, heb⟩ := hb d u rest hu (by omega) hs
  refine ⟨.mk 19 0 c.pos t [a', b'], by simp [erase, erases, hea, heb], nb + 1 + ma, fun n r hr => ?_⟩
  have h1 := hma (n + nb + 1) r (by
    rw [loopF]
    have hsg : signAt k (c :: (u ++ rest)) = some (c, u ++ rest) := by rw [signAt, if_pos ⟨hck.1, by rw [hck.2]; exact hk⟩]
    rw [hsg]
    simp only
    rw [tell_more (ex_up (k + 1) (u ++ rest)) hnb (by omega)]
    simp only [andT]
    rw [hck.2]
    exact tell_more (lo_up k _ rest) hr (by omega))
  have e3 : q1 ++ [c] ++ u ++ rest = q1 ++ c :: (u ++ rest) := by simp
  rw [e3, show n + (nb + 1 + ma) = n + nb + 1 + ma by omega]
  exact h1

theorem bind_top {k n p : Int} {t : List UInt8} {ks : List Nd} (h : k ≠ 19) : bindX (.mk k n p t ks) = 5 := by simp [bindX, h]
/-- A primary one. -/
theorem read_prim {x : Nd} (hb : bindX x = 5) {a : Tk} (ht : toksX x = [a]) (hk : a.1 = 1 ∨ a.1 = 3) (h : ∀ (t : Tok) (r : List Tok), strip t = a → ∃ x', primT e (t :: r) = .ok (x', r) ∧ erase x' = erase x) : RdU e x := by
  intro d l1 rest hl _
  unfold sideX at hl
  rw [if_neg (by omega), ht] at hl
  obtain ⟨t, q, rfl, hs, hq⟩ := strip_cons hl
  obtain rfl : q = [] := by simpa using hq
  obtain ⟨x', h1, h2⟩ := h t rest hs
  obtain ⟨ak, av, az⟩ := a
  refine ⟨x', ⟨1, ?_⟩, h2⟩
  show unaryF e 1 d (t :: ([] ++ rest)) = _
  rw [List.nil_append, unaryF, if_neg (by rw [is_kind hs hk]; simp), if_neg (by rw [is_kind hs hk]; simp), if_neg (by rw [is_kind hs hk]; simp), h1]
/-- One with a sign ahead. -/
theorem read_pre {k p : Int} {a : Nd} (hk : k = 17 ∨ k = 18) (h : RdU e a) : RdU e (.mk k 0 p [] [a]) := by
  intro d l1 rest hl hd
  have hb : bindX (.mk k 0 p [] [a]) = 5 := bind_top (by omega)
  unfold sideX at hl
  rw [if_neg (by omega), toksX, if_neg (by omega)] at hl
  change l1.map strip = (4, 0, if k = 17 then [45] else [33]) :: sideX a 5 at hl
  unfold depS at hd
  rw [if_neg (by omega), depX, if_neg (by omega)] at hd
  change d + (1 + depS a 5) ≤ 20 at hd
  obtain ⟨t, q, rfl, ht, hq⟩ := strip_cons hl
  obtain ⟨a', ⟨n, hn⟩, he⟩ := h (d + 1) q rest hq (by omega)
  rcases hk with rfl | rfl
  · have h1 := is_yes (Or.inl ht) (q ++ rest)
    refine ⟨.mk 17 0 t.pos [] [a'], ⟨n + 1, ?_⟩, by simp [erase, erases, he]⟩
    show unaryF e (n + 1) d (t :: (q ++ rest)) = _
    rw [if_pos rfl] at h1
    rw [unaryF, if_pos h1, open_yes h1 (by omega)]
    have hn2 : unaryF e n (d + 1) (q ++ rest) = some (.ok (a', rest)) := hn
    simp only [thenT, hn2, andT, posOf]
  · rw [if_neg (by decide)] at ht
    have h1 := is_yes (Or.inl ht) (q ++ rest)
    refine ⟨.mk 18 0 t.pos [] [a'], ⟨n + 1, ?_⟩, by simp [erase, erases, he]⟩
    show unaryF e (n + 1) d (t :: (q ++ rest)) = _
    rw [unaryF, if_neg (by rw [is_other ht (by decide)]; simp), if_pos h1, open_yes h1 (by omega)]
    have hn2 : unaryF e n (d + 1) (q ++ rest) = some (.ok (a', rest)) := hn
    simp only [thenT, hn2, andT, posOf]

/-- WHAT IS PRINTED OF AN EXPRESSION IS READ AS IT WAS. -/
theorem read_all (e : Int) : ∀ N x, ndSize x ≤ N → WfX x → RdU e x ∧ (∀ k, k ≤ 5 → RdE e x k) ∧ (∀ k, k < 5 → RdC e x k)
  | 0, .mk _ _ _ _ _, hN, _ => by simp [ndSize] at hN
  | N + 1, .mk k n p t ks, hN, hw => by
    have top : ∀ {x : Nd}, bindX x = 5 → RdU e x → RdU e x ∧ (∀ k, k ≤ 5 → RdE e x k) ∧ (∀ k, k < 5 → RdC e x k) := fun hb h =>
      ⟨h, fun k hk => read_top hk hb h, fun k hk => read_go hk (by omega) (read_top hk hb h)⟩
    unfold WfX at hw
    rcases hw with ⟨rfl, _, _, rfl, rfl⟩ | ⟨hk15, rfl, hw⟩
    · refine top (bind_top (by decide)) (read_prim (bind_top (by decide)) (by rw [toksX, if_pos rfl]) (Or.inr rfl) fun t r ht => ?_)
      simp only [strip, Prod.mk.injEq] at ht
      exact ⟨.mk 15 n t.pos [] [], by simp [primT, tnumT, ht.1, ht.2.1, posOf], by simp [erase, erases]⟩
    · match ks, hw with
      | [], hw =>
        obtain rfl := hw.1
        refine top (bind_top (by decide)) (read_prim (bind_top (by decide)) (by rw [toksX, if_neg (by decide)]) (Or.inl rfl) fun tk r ht => ?_)
        simp only [strip, Prod.mk.injEq] at ht
        exact ⟨.mk 16 0 tk.pos t [], by simp [primT, tnumT, nameT, ht.1, ht.2.2, posOf], by simp [erase, erases]⟩
      | [a], hw =>
        obtain ⟨hk, rfl, hwa⟩ := hw
        have ha := read_all e N a (by simp only [ndSize, ndsSize] at hN; omega) hwa
        exact top (bind_top (by omega)) (read_pre hk ha.1)
      | [a, b], hw =>
        obtain ⟨rfl, hl0, hwa, hwb⟩ := hw
        have ha := read_all e N a (by simp only [ndSize, ndsSize] at hN; omega) hwa
        have hb := read_all e N b (by simp only [ndSize, ndsSize] at hN; omega) hwb
        have hl4 := lvl_le t
        obtain ⟨l, hl⟩ : ∃ l : Nat, lvl t = (l : Int) := ⟨(lvl t).toNat, by omega⟩
        have hbx : bindX (.mk 19 0 p t [a, b]) = (l : Int) := by simp [bindX, hl]
        have hC : RdC e (.mk 19 0 p t [a, b]) l := read_bin hl (ha.2.2 l (by omega)) (hb.2.1 (l + 1) (by omega))
        have hE : RdE e (.mk 19 0 p t [a, b]) l := read_end hC
        have h0 : RdE e (.mk 19 0 p t [a, b]) 0 := read_downs (by omega) (by omega) hE l 0 (by omega)
        have hU : RdU e (.mk 19 0 p t [a, b]) := read_held (by omega) (by omega) h0
        have hEk : ∀ k, k ≤ 5 → RdE e (.mk 19 0 p t [a, b]) k := fun k hk => by
          rcases Nat.lt_or_ge l k with h1 | h1
          · exact read_low hk (by omega) hU
          · exact read_downs (by omega) (by omega) hE (l - k) k (by omega)
        refine ⟨hU, hEk, fun k hk => ?_⟩
        by_cases h1 : k = l
        · subst h1; exact hC
        · exact read_go hk (by omega) (hEk (k + 1) (by omega))
end
end

section
/-- What is a token. -/
def TokOk (t : Tok) : Prop := (t.kind = 1 ∧ t.num = 0 ∧ NameOk t.text) ∨ (t.kind = 2 ∧ t.num = 0 ∧ isWord t.text = true) ∨ (t.kind = 3 ∧ 0 ≤ t.num ∧ t.num ≤ 999999999 ∧ t.text = Lib.decDigits t.num.toNat) ∨ (t.kind = 4 ∧ t.num = 0 ∧ (t.text ∈ twoL ∨ ∃ b, t.text = [b] ∧ b ∈ oneS))
def ToksOk (l : List Tok) : Prop := ∀ t, t ∈ l → TokOk t
theorem ToksOk.tail {l : List Tok} (h : ToksOk l) : ToksOk l.tail := fun t ht => h t (List.mem_of_mem_tail ht)

theorem andT_ok {α β : Type} {x : Option (TRes α)} {f : α → List Tok → Option (TRes β)} {y : β} {r : List Tok} (h : andT x f = some (.ok (y, r))) : ∃ a l, x = some (.ok (a, l)) ∧ f a l = some (.ok (y, r)) := by
  unfold andT at h
  match x, h with
  | some (.error q), h => cases h
  | some (.ok (a, l)), h => exact ⟨a, l, rfl, h⟩
theorem thenT_ok {β : Type} {x : Except (Int × Int) (List Tok)} {f : List Tok → Option (TRes β)} {y : β} {r : List Tok} (h : thenT x f = some (.ok (y, r))) : ∃ l, x = .ok l ∧ f l = some (.ok (y, r)) := by
  unfold thenT at h
  match x, h with
  | .error q, h => cases h
  | .ok l, h => exact ⟨l, rfl, h⟩
theorem nameThen_ok {β : Type} {x : TRes (List UInt8)} {f : List UInt8 → List Tok → Option (TRes β)} {y : β} {r : List Tok} (h : nameThen x f = some (.ok (y, r))) : ∃ s l, x = .ok (s, l) ∧ f s l = some (.ok (y, r)) := by
  unfold nameThen at h
  match x, h with
  | .error q, h => cases h
  | .ok (s, l), h => exact ⟨s, l, rfl, h⟩
theorem take_ok {e : Int} {s : List UInt8} {l r : List Tok} (h : takeT e s l = .ok r) : isTok s l = true ∧ r = l.tail := by
  unfold takeT at h
  split at h
  · rename_i h1; exact ⟨h1, by cases h; rfl⟩
  · cases h
theorem open_ok {e : Int} {s : List UInt8} {d : Nat} {l r : List Tok} (h : openT e s d l = .ok r) : isTok s l = true ∧ d ≠ 20 ∧ r = l.tail := by
  unfold openT at h
  split at h
  · cases h
  · rename_i h1
    have h2 := take_ok h
    exact ⟨h2.1, fun hd => h1 ⟨h2.1, hd⟩, h2.2⟩
theorem name_ok {e : Int} {s : List UInt8} {l r : List Tok} (hl : ToksOk l) (h : nameT e l = .ok (s, r)) : NameOk s ∧ r = l.tail := by
  match l, h with
  | t :: q, h =>
    rw [nameT] at h
    split at h
    · rename_i h1
      have h2 : (t.text, q) = (s, r) := Except.ok.inj h
      simp only [Prod.mk.injEq] at h2
      obtain ⟨rfl, rfl⟩ := h2
      rcases hl t (by simp) with h3 | h3 | h3 | h3
      · exact ⟨h3.2.2, rfl⟩
      · omega
      · omega
      · omega
    · cases h
theorem prim_ok {e : Int} {x : Nd} {l r : List Tok} (hl : ToksOk l) (h : primT e l = .ok (x, r)) : WfX x ∧ depX x = 0 ∧ bindX x = 5 ∧ r = l.tail := by
  unfold primT at h
  match l, hl, h with
  | [], _, h => simp [tnumT, nameT] at h
  | t :: q, hl, h =>
    by_cases h3 : t.kind = 3
    · simp only [tnumT, h3, if_true] at h
      have h2 := Except.ok.inj h
      simp only [Prod.mk.injEq] at h2
      obtain ⟨rfl, rfl⟩ := h2
      rcases hl t (by simp) with h4 | h4 | h4 | h4
      · omega
      · omega
      · refine ⟨?_, by simp [depX], by simp [bindX], rfl⟩
        unfold WfX
        exact Or.inl ⟨rfl, h4.2.1, h4.2.2.1, rfl, rfl⟩
      · omega
    · simp only [tnumT, h3, if_false] at h
      cases hn : nameT e (t :: q) with
      | error f => rw [hn] at h; cases h
      | ok y =>
        obtain ⟨s, q2⟩ := y
        rw [hn] at h
        have h2 := Except.ok.inj h
        simp only [Prod.mk.injEq] at h2
        obtain ⟨rfl, rfl⟩ := h2
        obtain ⟨h5, rfl⟩ := name_ok hl hn
        refine ⟨?_, by simp [depX], by simp [bindX], rfl⟩
        unfold WfX
        exact Or.inr ⟨by decide, rfl, rfl, h5⟩
theorem depS_le (x : Nd) (m : Int) : depS x m ≤ 1 + depX x := by unfold depS; split <;> omega
theorem sign_at {k : Nat} {l r : List Tok} {t : Tok} (h : signAt k l = some (t, r)) : lvl t.text = (k : Int) ∧ r = l.tail := by
  match l, h with
  | u :: q, h =>
    rw [signAt] at h
    split at h
    · rename_i h1
      simp only [Option.some.injEq, Prod.mk.injEq] at h
      obtain ⟨rfl, rfl⟩ := h
      exact ⟨h1.2, rfl⟩
    · cases h

/-- WHAT IS READ AS AN EXPRESSION IS ONE, and not too deep; what is left are tokens. -/
theorem expr_wf (e : Int) : ∀ n, (∀ (k d : Nat) l x r, k ≤ 5 → d ≤ 20 → ToksOk l → exprF e n k d l = some (.ok (x, r)) → WfX x ∧ d + depS x (k : Int) ≤ 20 ∧ ToksOk r) ∧
    (∀ (k d : Nat) y l x r, k < 5 → d ≤ 20 → ToksOk l → WfX y → d + depS y (k : Int) ≤ 20 → loopF e n k d y l = some (.ok (x, r)) → WfX x ∧ d + depS x (k : Int) ≤ 20 ∧ ToksOk r) ∧
    (∀ (d : Nat) l x r, d ≤ 20 → ToksOk l → unaryF e n d l = some (.ok (x, r)) → WfX x ∧ d + depS x 5 ≤ 20 ∧ ToksOk r) ∧
    (∀ (d : Nat) l x r, d ≤ 20 → ToksOk l → heldF e n d l = some (.ok (x, r)) → WfX x ∧ d + 1 + depX x ≤ 20 ∧ ToksOk r)
  | 0 => ⟨fun _ _ _ _ _ _ _ _ h => (by rw [exprF] at h; cases h), fun _ _ _ _ _ _ _ _ _ _ _ h => (by rw [loopF] at h; cases h), fun _ _ _ _ _ _ h => (by rw [unaryF] at h; cases h), fun _ _ _ _ _ _ h => (by rw [heldF] at h; cases h)⟩
  | n + 1 => by
    obtain ⟨h1, h2, h3, h4⟩ := expr_wf e n
    refine ⟨fun k d l x r hk hd hl h => ?_, fun k d y l x r hk hd hl hy hyd h => ?_, fun d l x r hd hl h => ?_, fun d l x r hd hl h => ?_⟩
    · rw [exprF] at h
      split at h
      · rename_i h5; subst h5; exact h3 d l x r hd hl h
      · obtain ⟨a, q, ha, hq⟩ := andT_ok h
        obtain ⟨w1, w2, w3⟩ := h1 (k + 1) d l a q (by omega) hd hl ha
        refine h2 k d a q x r (by omega) hd w3 w1 ?_ hq
        unfold depS at w2 ⊢
        split
        · rw [if_pos (by omega)] at w2; exact w2
        · split at w2 <;> omega
    · rw [loopF] at h
      split at h
      · have h5 := Except.ok.inj (Option.some.inj h)
        simp only [Prod.mk.injEq] at h5
        obtain ⟨rfl, rfl⟩ := h5
        exact ⟨hy, hyd, hl⟩
      · rename_i t q hs
        obtain ⟨hlv, rfl⟩ := sign_at hs
        obtain ⟨a, q2, ha, hq⟩ := andT_ok h
        obtain ⟨w1, w2, w3⟩ := h1 (k + 1) d l.tail a q2 (by omega) hd hl.tail ha
        refine h2 k d _ q2 x r hk hd w3 ?_ ?_ hq
        · unfold WfX
          exact Or.inr ⟨by decide, rfl, rfl, by omega, hy, w1⟩
        · have e1 : ¬ bindX (.mk 19 0 t.pos t.text [y, a]) < (k : Int) := by simp [bindX, hlv]
          have e2 : lvl t.text + 1 = ((k + 1 : Nat) : Int) := by omega
          unfold depS
          rw [if_neg e1, depX, if_neg (by decide)]
          change d + max (depS y (lvl t.text)) (depS a (lvl t.text + 1)) ≤ 20
          rw [e2, hlv]
          omega
    · rw [unaryF] at h
      have pre : ∀ (s : List UInt8) (k : Int), (k = 17 ∨ k = 18) → thenT (openT e s d l) (fun r => andT (unaryF e n (d + 1) r) fun x q => some (.ok (.mk k 0 (posOf e l) [] [x], q))) = some (.ok (x, r)) → WfX x ∧ d + depS x 5 ≤ 20 ∧ ToksOk r := fun s k hk h => by
        obtain ⟨q, hq, h⟩ := thenT_ok h
        obtain ⟨_, hd2, rfl⟩ := open_ok hq
        obtain ⟨a, q2, ha, h⟩ := andT_ok h
        obtain ⟨w1, w2, w3⟩ := h3 (d + 1) l.tail a q2 (by omega) hl.tail ha
        have h5 := Except.ok.inj (Option.some.inj h)
        simp only [Prod.mk.injEq] at h5
        obtain ⟨rfl, rfl⟩ := h5
        refine ⟨?_, ?_, w3⟩
        · unfold WfX
          exact Or.inr ⟨by omega, rfl, hk, rfl, w1⟩
        · have e1 : ¬ bindX (.mk k 0 (posOf e l) [] [a]) < 5 := by rw [bind_top (by omega)]; decide
          unfold depS
          rw [if_neg e1, depX, if_neg (by omega)]
          change d + (1 + depS a 5) ≤ 20
          omega
      split at h
      · exact pre _ 17 (Or.inl rfl) h
      · split at h
        · exact pre _ 18 (Or.inr rfl) h
        · split at h
          · obtain ⟨w1, w2, w3⟩ := h4 d l x r hd hl h
            have := depS_le x 5
            exact ⟨w1, by omega, w3⟩
          · obtain ⟨w1, w2, w3, rfl⟩ := prim_ok hl (Option.some.inj h)
            refine ⟨w1, ?_, hl.tail⟩
            unfold depS
            rw [if_neg (by omega), w2]
            omega
    · rw [heldF] at h
      obtain ⟨q, hq, h⟩ := thenT_ok h
      obtain ⟨_, hd2, rfl⟩ := open_ok hq
      obtain ⟨a, q2, ha, h⟩ := andT_ok h
      obtain ⟨w1, w2, w3⟩ := h1 0 (d + 1) l.tail a q2 (by omega) (by omega) hl.tail ha
      obtain ⟨p, hp, h⟩ := thenT_ok h
      obtain ⟨_, rfl⟩ := take_ok hp
      have h5 := Except.ok.inj (Option.some.inj h)
      simp only [Prod.mk.injEq] at h5
      obtain ⟨rfl, rfl⟩ := h5
      refine ⟨w1, ?_, w3.tail⟩
      unfold depS at w2
      split at w2 <;> omega
end

section
def kindN : Nd → Int
  | .mk k _ _ _ _ => k
def partsT (k : Int) (t : List UInt8) (ps : List (List Tk)) : List Tk :=
  if k = 5 then (4, 0, [123]) :: (ps.flatten ++ [(4, 0, [125])])
  else if k = 6 then (2, 0, wInt) :: (1, 0, t) :: (4, 0, [61]) :: (ps.getD 0 [] ++ [(4, 0, [59])])
  else if k = 7 then (1, 0, t) :: (4, 0, [61]) :: (ps.getD 0 [] ++ [(4, 0, [59])])
  else if k = 8 then (1, 0, t) :: (4, 0, [61]) :: (2, 0, wCas) :: (4, 0, [40]) :: (ps.getD 0 [] ++ (4, 0, [44]) :: (ps.getD 1 [] ++ (4, 0, [44]) :: (ps.getD 2 [] ++ [(4, 0, [41]), (4, 0, [59])])))
  else if k = 9 then (2, 0, wIf) :: (4, 0, [40]) :: (ps.getD 0 [] ++ (4, 0, [41]) :: (ps.getD 1 [] ++ match ps.drop 2 with
    | [] => []
    | c :: _ => (2, 0, wElse) :: c))
  else if k = 10 then (2, 0, wWhile) :: (4, 0, [40]) :: (ps.getD 0 [] ++ (4, 0, [41]) :: ps.getD 1 [])
  else if k = 11 then (2, 0, wPrint) :: (4, 0, [40]) :: (ps.getD 0 [] ++ [(4, 0, [41]), (4, 0, [59])])
  else if k = 12 then [(2, 0, wLock), (4, 0, [40]), (1, 0, t), (4, 0, [41]), (4, 0, [59])]
  else if k = 13 then [(2, 0, wUnlock), (4, 0, [40]), (1, 0, t), (4, 0, [41]), (4, 0, [59])]
  else [(2, 0, wFence), (4, 0, [59])]
mutual
/-- A node's tokens. -/
def toksN : Nd → List Tk
  | .mk k n p t ks => if 15 ≤ k then toksX (.mk k n p t ks) else partsT k t (toksNs ks)
def toksNs : List Nd → List (List Tk)
  | [] => []
  | x :: r => toksN x :: toksNs r
end
def ShapeN (k : Int) (t : List UInt8) (qs : List Int) : Prop :=
  (k = 5 ∧ t = [] ∧ ∀ q, q ∈ qs → 6 ≤ q ∧ q ≤ 14) ∨ (k = 6 ∧ NameOk t ∧ ∃ a, qs = [a] ∧ 15 ≤ a) ∨ (k = 7 ∧ NameOk t ∧ ∃ a, qs = [a] ∧ 15 ≤ a) ∨
  (k = 8 ∧ NameOk t ∧ ∃ b c, qs = [16, b, c] ∧ 15 ≤ b ∧ 15 ≤ c) ∨ (k = 9 ∧ t = [] ∧ ∃ a, 15 ≤ a ∧ (qs = [a, 5] ∨ qs = [a, 5, 5])) ∨ (k = 10 ∧ t = [] ∧ ∃ a, 15 ≤ a ∧ qs = [a, 5]) ∨
  (k = 11 ∧ t = [] ∧ ∃ a, qs = [a] ∧ 15 ≤ a) ∨ ((k = 12 ∨ k = 13) ∧ NameOk t ∧ qs = []) ∨ (k = 14 ∧ t = [] ∧ qs = [])
mutual
/-- What is a statement, a block, an expression. -/
def WfN : Nd → Prop
  | .mk k n p t ks => if 15 ≤ k then WfX (.mk k n p t ks) else n = 0 ∧ ShapeN k t (ks.map kindN) ∧ WfNs ks
def WfNs : List Nd → Prop
  | [] => True
  | x :: r => WfN x ∧ WfNs r
end
def maxL : List Nat → Nat
  | [] => 0
  | a :: r => max a (maxL r)
def depK (k : Int) (ds : List Nat) : Nat :=
  if k = 5 then 1 + maxL ds else if k = 6 ∨ k = 7 then maxL ds else if k = 9 ∨ k = 10 then max (1 + ds.getD 0 0) (maxL (ds.drop 1))
  else if k = 14 then 0 else 1 + maxL ds
mutual
/-- How many things are open within it at once. -/
def depN : Nd → Nat
  | .mk k n p t ks => if 15 ≤ k then depX (.mk k n p t ks) else depK k (depNs ks)
def depNs : List Nd → List Nat
  | [] => []
  | x :: r => depN x :: depNs r
end

theorem bind_nn {x : Nd} (h : WfX x) : 0 ≤ bindX x := by
  match x, h with
  | .mk k n p t ks, h =>
    unfold WfX at h
    rw [bindX]
    split
    · rename_i hk
      subst hk
      rcases h with h | ⟨_, _, h⟩
      · exact absurd h.1 (by decide)
      · match ks, h with
        | [], h => exact absurd h.1 (by decide)
        | [a], h => exact absurd h.1 (by decide)
        | [a, b], h => exact h.2.1
    · decide
theorem wfN_x {x : Nd} (h : WfN x) (hk : 15 ≤ kindN x) : WfX x ∧ toksN x = toksX x ∧ depN x = depX x := by
  match x, h, hk with
  | .mk k n p t ks, h, hk =>
    have hk' : 15 ≤ k := hk
    rw [WfN, if_pos hk'] at h
    exact ⟨h, by rw [toksN, if_pos hk'], by rw [depN, if_pos hk']⟩

section
variable {e : Int}
theorem word_is {t : Tok} {s : List UInt8} {v : Int} (h : strip t = (2, v, s)) (r : List Tok) : wordOf (t :: r) = s := by
  simp only [strip, Prod.mk.injEq] at h
  simp [wordOf, h.1, h.2.2]
theorem word_no {t : Tok} {s : List UInt8} {v : Int} (h : strip t = (1, v, s)) (r : List Tok) : wordOf (t :: r) = [] := by
  simp only [strip, Prod.mk.injEq] at h
  simp [wordOf, h.1]
theorem name_is {t : Tok} {s : List UInt8} {v : Int} (h : strip t = (1, v, s)) (r : List Tok) : nameT e (t :: r) = .ok (s, r) := by
  simp only [strip, Prod.mk.injEq] at h
  rw [nameT, if_pos h.1, h.2.2]

/-- An expression ahead of a sign that is none between. -/
theorem tell_x {x : Nd} (hw : WfX x) {d : Nat} {l1 rest : List Tok} {c : Tok} {s : List UInt8} (hl : l1.map strip = toksX x) (hd : d + depX x ≤ 20) (hc : strip c = (4, 0, s)) (hs : lvl s < 0) :
    ∃ x', Tell (fun n => exprF e n 0 d (l1 ++ c :: rest)) (.ok (x', c :: rest)) ∧ erase x' = erase x := by
  have h0 := bind_nn hw
  have e0 : ¬ bindX x < ((0 : Nat) : Int) := by simp; exact h0
  refine (read_all e (ndSize x) x (Nat.le_refl _) hw).2.1 0 (by omega) d l1 (c :: rest) (by unfold sideX; rw [if_neg e0]; exact hl) (by unfold depS; rw [if_neg e0]; exact hd) ?_
  intro _
  have : c.text = s := by simp only [strip, Prod.mk.injEq] at hc; exact hc.2.2
  rw [this]
  simpa using hs

/-- What reads a statement, a block. -/
def RdS (e : Int) (x : Nd) : Prop := ∀ (d : Nat) (l1 rest : List Tok), l1.map strip = toksN x → d + depN x ≤ 20 → isTok wElse rest = false → ∃ x', Tell (fun n => stmtF e n d (l1 ++ rest)) (.ok (x', rest)) ∧ erase x' = erase x
def RdB (e : Int) (x : Nd) : Prop := ∀ (d : Nat) (l1 rest : List Tok), l1.map strip = toksN x → d + depN x ≤ 20 → ∃ x', Tell (fun n => blockF e n d (l1 ++ rest)) (.ok (x', rest)) ∧ erase x' = erase x
theorem st_up (d : Nat) (l : List Tok) : ∀ n, Le (stmtF e n d l) (stmtF e (n + 1) d l) := fun n => (stmt_le e n).1 d l
theorem bl_up (d : Nat) (l : List Tok) : ∀ n, Le (blockF e n d l) (blockF e (n + 1) d l) := fun n => (stmt_le e n).2.1 d l
theorem ss_up (d : Nat) (ks : List Nd) (l : List Tok) : ∀ n, Le (stmtsF e n d ks l) (stmtsF e (n + 1) d ks l) := fun n => (stmt_le e n).2.2 d ks l
theorem st_plain {d n : Nat} {l : List Tok} {r : TRes Nd} (h1 : wordOf l ≠ wIf) (h2 : wordOf l ≠ wWhile) (h : plainF e n d l = some r) : Tell (fun n => stmtF e n d l) r :=
  ⟨n + 1, by show stmtF e (n + 1) d l = _; rw [stmtF, if_neg h1, if_neg h2]; exact h⟩
theorem held_x {x : Nd} (hw : WfX x) {d : Nat} {l1 rest : List Tok} {o c : Tok} (hl : l1.map strip = toksX x) (hd : d + (1 + depX x) ≤ 20) (ho : strip o = (4, 0, [40])) (hc : strip c = (4, 0, [41])) :
    ∃ x', Tell (fun n => heldF e n d (o :: (l1 ++ c :: rest))) (.ok (x', rest)) ∧ erase x' = erase x := by
  obtain ⟨x', ⟨n, hn⟩, he⟩ := tell_x (e := e) hw (d := d + 1) (rest := rest) hl (by omega) hc (by decide)
  refine ⟨x', ⟨n + 1, ?_⟩, he⟩
  have hn2 : exprF e n 0 (d + 1) (l1 ++ c :: rest) = some (.ok (x', c :: rest)) := hn
  show heldF e (n + 1) d (o :: (l1 ++ c :: rest)) = _
  rw [heldF, open_yes (is_yes (Or.inl ho) _) (by omega)]
  simp only [thenT, hn2, andT, take_yes (is_yes (Or.inl hc) rest)]

theorem read_six {p : Int} {t : List UInt8} {x : Nd} (hx : WfX x) (ht : toksN x = toksX x) (hdx : depN x = depX x) : RdS e (.mk 6 0 p t [x]) := by
  intro d l1 rest hl hd _
  rw [toksN, if_neg (by decide)] at hl
  simp only [partsT, toksNs, ht, List.getD_cons_zero] at hl
  rw [depN, if_neg (by decide)] at hd
  simp only [depK, depNs, hdx, maxL] at hd
  obtain ⟨t0, q, rfl, h0, hl⟩ := strip_cons (by simpa using hl)
  obtain ⟨t1, q, rfl, h1, hl⟩ := strip_cons hl
  obtain ⟨t2, q, rfl, h2, hl⟩ := strip_cons hl
  obtain ⟨u, v, rfl, hu, hv⟩ := strip_app hl
  obtain ⟨c, v, rfl, hc, hv⟩ := strip_cons hv
  obtain rfl : v = [] := by simpa using hv
  obtain ⟨x', ⟨n, hn⟩, he⟩ := tell_x (e := e) hx (d := d) (rest := rest) hu (by simpa using hd) hc (by decide)
  have hn2 : exprF e n 0 d (u ++ c :: rest) = some (.ok (x', c :: rest)) := hn
  have hw := word_is h0 (t1 :: t2 :: (u ++ c :: rest))
  refine ⟨.mk 6 0 t0.pos t [x'], ?_, by simp [erase, erases, he]⟩
  have el : t0 :: t1 :: t2 :: (u ++ [c]) ++ rest = t0 :: t1 :: t2 :: (u ++ c :: rest) := by simp
  rw [el]
  refine st_plain (n := n) (by rw [hw]; decide) (by rw [hw]; decide) ?_
  unfold plainF
  rw [if_pos hw]
  simp only [List.tail_cons, nameThen, name_is h1, thenT, take_yes (is_yes (Or.inl h2) _), exprThen, hn2, andT, take_yes (is_yes (Or.inl hc) rest), posOf]
theorem read_seven {p : Int} {t : List UInt8} {x : Nd} (hx : WfX x) (ht : toksN x = toksX x) (hdx : depN x = depX x) (hnc : ∀ (l : List Tok) r, l.map strip = toksX x → isTok wCas (l ++ r) = false) : RdS e (.mk 7 0 p t [x]) := by
  intro d l1 rest hl hd _
  rw [toksN, if_neg (by decide)] at hl
  simp only [partsT, toksNs, ht, List.getD_cons_zero] at hl
  rw [depN, if_neg (by decide)] at hd
  simp only [depK, depNs, hdx, maxL] at hd
  obtain ⟨t1, q, rfl, h1, hl⟩ := strip_cons (by simpa using hl)
  obtain ⟨t2, q, rfl, h2, hl⟩ := strip_cons hl
  obtain ⟨u, v, rfl, hu, hv⟩ := strip_app hl
  obtain ⟨c, v, rfl, hc, hv⟩ := strip_cons hv
  obtain rfl : v = [] := by simpa using hv
  obtain ⟨x', ⟨n, hn⟩, he⟩ := tell_x (e := e) hx (d := d) (rest := rest) hu (by simpa using hd) hc (by decide)
  have hn2 : exprF e n 0 d (u ++ c :: rest) = some (.ok (x', c :: rest)) := hn
  have hw := word_no h1 (t2 :: (u ++ c :: rest))
  refine ⟨.mk 7 0 t1.pos t [x'], ?_, by simp [erase, erases, he]⟩
  have el : t1 :: t2 :: (u ++ [c]) ++ rest = t1 :: t2 :: (u ++ c :: rest) := by simp
  rw [el]
  refine st_plain (n := n) (by rw [hw]; decide) (by rw [hw]; decide) ?_
  unfold plainF
  rw [hw, if_neg (by decide), if_neg (by decide), if_neg (by decide), if_neg (by decide)]
  unfold assignF
  simp only [nameThen, name_is h1, thenT, take_yes (is_yes (Or.inl h2) _), hnc u (c :: rest) hu, exprThen, hn2, andT, take_yes (is_yes (Or.inl hc) rest), posOf, Bool.false_eq_true, if_false]
theorem read_eight {p p2 : Int} {t s : List UInt8} {x y : Nd} (hx : WfX x) (ht : toksN x = toksX x) (hdx : depN x = depX x) (hy : WfX y) (hty : toksN y = toksX y) (hdy : depN y = depX y) : RdS e (.mk 8 0 p t [.mk 16 0 p2 s [], x, y]) := by
  intro d l1 rest hl hd _
  have hs1 : toksN (.mk 16 0 p2 s []) = [(1, 0, s)] := by rw [toksN, if_pos (by decide), toksX, if_neg (by decide)]
  have hs2 : depN (.mk 16 0 p2 s []) = 0 := by rw [depN, if_pos (by decide), depX, if_neg (by decide)]
  rw [toksN, if_neg (by decide)] at hl
  simp only [partsT, toksNs, ht, hty, hs1, List.getD_cons_zero, List.getD_cons_succ] at hl
  rw [depN, if_neg (by decide)] at hd
  simp only [depK, depNs, hdx, hdy, hs2, maxL] at hd
  obtain ⟨t1, q, rfl, h1, hl⟩ := strip_cons (by simpa using hl)
  obtain ⟨t2, q, rfl, h2, hl⟩ := strip_cons hl
  obtain ⟨t3, q, rfl, h3, hl⟩ := strip_cons hl
  obtain ⟨t4, q, rfl, h4, hl⟩ := strip_cons hl
  obtain ⟨t5, q, rfl, h5, hl⟩ := strip_cons hl
  obtain ⟨t6, q, rfl, h6, hl⟩ := strip_cons hl
  obtain ⟨u, q, rfl, hu, hl⟩ := strip_app hl
  obtain ⟨c1, q, rfl, hc1, hl⟩ := strip_cons hl
  obtain ⟨z, q, rfl, hz, hl⟩ := strip_app hl
  obtain ⟨c2, q, rfl, hc2, hl⟩ := strip_cons hl
  obtain ⟨c3, q, rfl, hc3, hl⟩ := strip_cons hl
  obtain rfl : q = [] := by simpa using hl
  have hd' : d + (1 + max 0 (max (depX x) (max (depX y) 0))) ≤ 20 := by simpa using hd
  obtain ⟨x', ⟨n, hn⟩, he⟩ := tell_x (e := e) hx (d := d + 1) (rest := z ++ c2 :: c3 :: rest) hu (by omega) hc1 (by decide)
  obtain ⟨y', ⟨m, hm⟩, hey⟩ := tell_x (e := e) hy (d := d + 1) (rest := c3 :: rest) hz (by omega) hc2 (by decide)
  have hn2 : exprF e (n + m) 0 (d + 1) (u ++ c1 :: (z ++ c2 :: c3 :: rest)) = some (.ok (x', c1 :: (z ++ c2 :: c3 :: rest))) := tell_more (ex_up 0 _) hn (by omega)
  have hm2 : exprF e (n + m) 0 (d + 1) (z ++ c2 :: c3 :: rest) = some (.ok (y', c2 :: c3 :: rest)) := tell_more (ex_up 0 _) hm (by omega)
  have hw := word_no h1 (t2 :: t3 :: t4 :: t5 :: t6 :: (u ++ c1 :: (z ++ c2 :: c3 :: rest)))
  refine ⟨.mk 8 0 t1.pos t [.mk 16 0 t5.pos s [], x', y'], ?_, by simp [erase, erases, he, hey]⟩
  have el : t1 :: t2 :: t3 :: t4 :: t5 :: t6 :: (u ++ c1 :: (z ++ [c2, c3])) ++ rest = t1 :: t2 :: t3 :: t4 :: t5 :: t6 :: (u ++ c1 :: (z ++ c2 :: c3 :: rest)) := by simp
  rw [el]
  refine st_plain (n := n + m) (by rw [hw]; decide) (by rw [hw]; decide) ?_
  unfold plainF
  rw [hw, if_neg (by decide), if_neg (by decide), if_neg (by decide), if_neg (by decide)]
  unfold assignF
  simp only [nameThen, name_is h1, name_is h5, thenT, take_yes (is_yes (Or.inl h2) _), is_yes (Or.inr h3) _, if_true, take_yes (is_yes (Or.inr h3) _), open_yes (d := d) (is_yes (Or.inl h4) _) (by omega), take_yes (is_yes (Or.inl h6) _), exprThen, hn2, hm2, andT, take_yes (is_yes (Or.inl hc1) _), take_yes (is_yes (Or.inl hc2) _), take_yes (is_yes (Or.inl hc3) _), posOf]
theorem read_print {p : Int} {x : Nd} (hx : WfX x) (ht : toksN x = toksX x) (hdx : depN x = depX x) : RdS e (.mk 11 0 p [] [x]) := by
  intro d l1 rest hl hd _
  rw [toksN, if_neg (by decide)] at hl
  simp only [partsT, toksNs, ht, List.getD_cons_zero] at hl
  rw [depN, if_neg (by decide)] at hd
  simp only [depK, depNs, hdx, maxL] at hd
  obtain ⟨t0, q, rfl, h0, hl⟩ := strip_cons (by simpa using hl)
  obtain ⟨t1, q, rfl, h1, hl⟩ := strip_cons hl
  obtain ⟨u, v, rfl, hu, hv⟩ := strip_app hl
  obtain ⟨c, v, rfl, hc, hv⟩ := strip_cons hv
  obtain ⟨c2, v, rfl, hc2, hv⟩ := strip_cons hv
  obtain rfl : v = [] := by simpa using hv
  obtain ⟨x', ⟨n, hn⟩, he⟩ := held_x (e := e) hx (d := d) (rest := c2 :: rest) hu (by simpa using hd) h1 hc
  have hn2 : heldF e n d (t1 :: (u ++ c :: c2 :: rest)) = some (.ok (x', c2 :: rest)) := hn
  have hw := word_is h0 (t1 :: (u ++ c :: c2 :: rest))
  refine ⟨.mk 11 0 t0.pos [] [x'], ?_, by simp [erase, erases, he]⟩
  have el : t0 :: t1 :: (u ++ [c, c2]) ++ rest = t0 :: t1 :: (u ++ c :: c2 :: rest) := by simp
  rw [el]
  refine st_plain (n := n) (by rw [hw]; decide) (by rw [hw]; decide) ?_
  unfold plainF
  rw [hw, if_neg (by decide), if_pos rfl]
  simp only [List.tail_cons, hn2, andT, thenT, take_yes (is_yes (Or.inl hc2) rest), posOf]
theorem read_lock {k p : Int} {t : List UInt8} (hk : k = 12 ∨ k = 13) : RdS e (.mk k 0 p t []) := by
  intro d l1 rest hl hd _
  rw [toksN, if_neg (by omega)] at hl
  rw [depN, if_neg (by omega)] at hd
  have hd' : d + 1 ≤ 20 := by
    rcases hk with rfl | rfl <;> simpa [depK, depNs, maxL] using hd
  have hl' : l1.map strip = [(2, 0, if k = 12 then wLock else wUnlock), (4, 0, [40]), (1, 0, t), (4, 0, [41]), (4, 0, [59])] := by
    rcases hk with rfl | rfl <;> simpa [partsT] using hl
  obtain ⟨t0, q, rfl, h0, hl⟩ := strip_cons hl'
  obtain ⟨t1, q, rfl, h1, hl⟩ := strip_cons hl
  obtain ⟨t2, q, rfl, h2, hl⟩ := strip_cons hl
  obtain ⟨t3, q, rfl, h3, hl⟩ := strip_cons hl
  obtain ⟨t4, q, rfl, h4, hl⟩ := strip_cons hl
  obtain rfl : q = [] := by simpa using hl
  have hw := word_is h0 (t1 :: t2 :: t3 :: t4 :: rest)
  refine ⟨.mk k 0 t0.pos t [], ?_, by simp [erase, erases]⟩
  show Tell (fun n => stmtF e n d (t0 :: t1 :: t2 :: t3 :: t4 :: rest)) _
  rcases hk with rfl | rfl
  · rw [if_pos rfl] at hw
    refine st_plain (n := 0) (by rw [hw]; decide) (by rw [hw]; decide) ?_
    unfold plainF
    rw [hw, if_neg (by decide), if_neg (by decide), if_pos (Or.inl rfl)]
    simp only [List.tail_cons, open_yes (d := d) (is_yes (Or.inl h1) _) (by omega), thenT, nameThen, name_is h2, take_yes (is_yes (Or.inl h3) _), take_yes (is_yes (Or.inl h4) _), posOf, if_true]
  · rw [if_neg (by decide)] at hw
    refine st_plain (n := 0) (by rw [hw]; decide) (by rw [hw]; decide) ?_
    unfold plainF
    rw [hw, if_neg (by decide), if_neg (by decide), if_pos (Or.inr rfl)]
    simp only [List.tail_cons, open_yes (d := d) (is_yes (Or.inl h1) _) (by omega), thenT, nameThen, name_is h2, take_yes (is_yes (Or.inl h3) _), take_yes (is_yes (Or.inl h4) _), posOf]
    rw [if_neg (by decide)]
theorem read_fence {p : Int} : RdS e (.mk 14 0 p [] []) := by
  intro d l1 rest hl _ _
  rw [toksN, if_neg (by decide)] at hl
  simp only [partsT] at hl
  obtain ⟨t0, q, rfl, h0, hl⟩ := strip_cons (by simpa using hl)
  obtain ⟨t1, q, rfl, h1, hl⟩ := strip_cons hl
  obtain rfl : q = [] := by simpa using hl
  have hw := word_is h0 (t1 :: rest)
  refine ⟨.mk 14 0 t0.pos [] [], ?_, by simp [erase, erases]⟩
  show Tell (fun n => stmtF e n d (t0 :: t1 :: rest)) _
  refine st_plain (n := 0) (by rw [hw]; decide) (by rw [hw]; decide) ?_
  unfold plainF
  rw [hw, if_neg (by decide), if_neg (by decide), if_neg (by decide), if_pos rfl]
  simp only [List.tail_cons, thenT, take_yes (is_yes (Or.inl h1) rest), posOf]
end
end

end Go.Proofs.YtggfbfjdiikaeaaGreatDoor
