/-
  There are no more nodes than tokens.
  Chapter 9 as plain functions without a bound: what they tell, and how each is made of the others.
-/
import Derived.Test.YtclnjhffcfkihaeGreatDoorSynY
namespace Go.Proofs.YtclnjhffcfkihaeGreatDoor
section
section
variable {e : Int}
theorem prim_size {x : Nd} {l r : List Tok} (h : primT e l = .ok (x, r)) : ndSize x + r.length ≤ l.length := by
  have hl := prim_len h
  have hs : ndSize x = 1 := by
    unfold primT at h
    split at h
    · have h1 := Except.ok.inj h
      simp only [Prod.mk.injEq] at h1
      rw [← h1.1]; rfl
    · split at h
      · have h1 := Except.ok.inj h
        simp only [Prod.mk.injEq] at h1
        rw [← h1.1]; rfl
      · cases h
  omega
theorem size_one (k n p : Int) (t : List UInt8) (a : Nd) : ndSize (.mk k n p t [a]) = ndSize a + 1 := by simp [ndSize, ndsSize]
theorem size_two (k n p : Int) (t : List UInt8) (a b : Nd) : ndSize (.mk k n p t [a, b]) = ndSize a + ndSize b + 1 := by simp [ndSize, ndsSize]
theorem size_three (k n p : Int) (t : List UInt8) (a b c : Nd) : ndSize (.mk k n p t [a, b, c]) = ndSize a + ndSize b + ndSize c + 1 := by simp [ndSize, ndsSize]; omega
theorem size_none (k n p : Int) (t : List UInt8) : ndSize (.mk k n p t []) = 1 := rfl
theorem expr_size : ∀ n, (∀ k d l x r, exprF e n k d l = some (.ok (x, r)) → ndSize x + r.length ≤ l.length) ∧ (∀ k d y l x r, loopF e n k d y l = some (.ok (x, r)) → ndSize x + r.length ≤ ndSize y + l.length) ∧ (∀ d l x r, unaryF e n d l = some (.ok (x, r)) → ndSize x + r.length ≤ l.length) ∧ ∀ d l x r, heldF e n d l = some (.ok (x, r)) → ndSize x + r.length ≤ l.length
  | 0 => ⟨fun _ _ _ _ _ h => by (rw [exprF] at h; cases h), fun _ _ _ _ _ _ h => by (rw [loopF] at h; cases h), fun _ _ _ _ h => by (rw [unaryF] at h; cases h), fun _ _ _ _ h => by (rw [heldF] at h; cases h)⟩
  | n + 1 => by
    obtain ⟨h1, h2, h3, h4⟩ := expr_size n
    refine ⟨fun k d l x r h => ?_, fun k d y l x r h => ?_, fun d l x r h => ?_, fun d l x r h => ?_⟩
    · rw [exprF] at h
      split at h
      · exact h3 _ _ _ _ h
      · obtain ⟨a, q, ha, h⟩ := andT_ok h
        have k1 := h1 _ _ _ _ _ ha
        have k2 := h2 _ _ _ _ _ _ h
        omega
    · rw [loopF] at h
      split at h
      · obtain ⟨rfl, rfl⟩ := ok_inj h
        exact Nat.le_refl _
      · rename_i t q hs
        obtain ⟨a, q2, ha, h⟩ := andT_ok h
        have k0 := sign_tl hs
        have k1 := h1 _ _ _ _ _ ha
        have k2 := h2 _ _ _ _ _ _ h
        rw [size_two] at k2
        omega
    · rw [unaryF] at h
      split at h
      · obtain ⟨q, hq, h⟩ := thenT_ok h
        obtain ⟨a, q2, ha, h⟩ := andT_ok h
        obtain ⟨rfl, rfl⟩ := ok_inj h
        have k0 := open_len hq
        have k1 := h3 _ _ _ _ ha
        rw [size_one]
        omega
      · split at h
        · obtain ⟨q, hq, h⟩ := thenT_ok h
          obtain ⟨a, q2, ha, h⟩ := andT_ok h
          obtain ⟨rfl, rfl⟩ := ok_inj h
          have k0 := open_len hq
          have k1 := h3 _ _ _ _ ha
          rw [size_one]
          omega
        · split at h
          · exact h4 _ _ _ _ h
          · exact prim_size (Option.some.inj h)
    · rw [heldF] at h
      obtain ⟨q, hq, h⟩ := thenT_ok h
      obtain ⟨a, q2, ha, h⟩ := andT_ok h
      obtain ⟨q3, hq3, h⟩ := thenT_ok h
      obtain ⟨rfl, rfl⟩ := ok_inj h
      have k0 := open_len hq
      have k1 := h1 _ _ _ _ _ ha
      have k2 := take_len hq3
      omega
theorem et_size {β : Type} {n d : Nat} {s : List UInt8} {l r : List Tok} {f : Nd → List Tok → Option (TRes β)} {y : β} (h : exprThen e n d s l f = some (.ok (y, r))) : ∃ a q, f a q = some (.ok (y, r)) ∧ ndSize a + q.length + 1 ≤ l.length := by
  unfold exprThen at h
  obtain ⟨a, q, ha, h⟩ := andT_ok h
  obtain ⟨q2, hq, h⟩ := thenT_ok h
  have k1 := (expr_size n).1 _ _ _ _ _ ha
  have k2 := take_len hq
  exact ⟨a, q2, h, by omega⟩
theorem word_tail {l : List Tok} {s : List UInt8} (h : wordOf l = s) (hs : s ≠ []) : l.tail.length + 1 ≤ l.length := by
  match l, h with
  | [], h => exact absurd h.symm hs
  | t :: r, _ => simp
theorem assign_size {n d : Nat} {l r : List Tok} {x : Nd} (h : assignF e n d l = some (.ok (x, r))) : ndSize x + r.length ≤ l.length := by
  unfold assignF at h
  obtain ⟨s, q, hs, h⟩ := nameThen_ok h
  obtain ⟨q1, hq1, h⟩ := thenT_ok h
  have k1 := name_len hs
  have k2 := take_len hq1
  split at h
  · obtain ⟨q2, hq2, h⟩ := thenT_ok h
    obtain ⟨q3, hq3, h⟩ := thenT_ok h
    obtain ⟨s2, q4, hs4, h⟩ := nameThen_ok h
    obtain ⟨q5, hq5, h⟩ := thenT_ok h
    obtain ⟨a, q6, h, k6⟩ := et_size h
    obtain ⟨b, q7, h, k7⟩ := et_size h
    obtain ⟨q8, hq8, h⟩ := thenT_ok h
    obtain ⟨rfl, rfl⟩ := ok_inj h
    have := take_len hq2
    have := open_len hq3
    have := name_len hs4
    have := take_len hq5
    have := take_len hq8
    rw [size_three, size_none]
    omega
  · obtain ⟨a, q6, h, k6⟩ := et_size h
    obtain ⟨rfl, rfl⟩ := ok_inj h
    rw [size_one]
    omega
theorem plain_size {n d : Nat} {l r : List Tok} {x : Nd} (h : plainF e n d l = some (.ok (x, r))) : ndSize x + r.length ≤ l.length := by
  unfold plainF at h
  split at h
  · rename_i hw
    have kt := word_tail hw (by decide)
    obtain ⟨s, q, hs, h⟩ := nameThen_ok h
    obtain ⟨q1, hq1, h⟩ := thenT_ok h
    obtain ⟨a, q6, h, k6⟩ := et_size h
    obtain ⟨rfl, rfl⟩ := ok_inj h
    have k1 := name_len hs
    have k2 := take_len hq1
    rw [size_one]
    omega
  · split at h
    · rename_i hw
      have kt := word_tail hw (by decide)
      obtain ⟨a, q, ha, h⟩ := andT_ok h
      obtain ⟨q1, hq1, h⟩ := thenT_ok h
      obtain ⟨rfl, rfl⟩ := ok_inj h
      have k1 := (expr_size n).2.2.2 _ _ _ _ ha
      have k2 := take_len hq1
      rw [size_one]
      omega
    · split at h
      · obtain ⟨q1, hq1, h⟩ := thenT_ok h
        obtain ⟨s, q, hs, h⟩ := nameThen_ok h
        obtain ⟨q2, hq2, h⟩ := thenT_ok h
        obtain ⟨q3, hq3, h⟩ := thenT_ok h
        obtain ⟨rfl, rfl⟩ := ok_inj h
        have k1 := open_len hq1
        have k2 := name_len hs
        have k3 := take_len hq2
        have k4 := take_len hq3
        have k5 := tail_le l
        rw [size_none]
        omega
      · split at h
        · obtain ⟨q1, hq1, h⟩ := thenT_ok h
          obtain ⟨rfl, rfl⟩ := ok_inj h
          have k1 := take_len hq1
          have k5 := tail_le l
          rw [size_none]
          omega
        · exact assign_size h
theorem sizes_snoc : ∀ (ks : List Nd) (x : Nd), ndsSize (ks ++ [x]) = ndsSize ks + ndSize x
  | [], x => by simp [ndsSize]
  | a :: r, x => by simp [ndsSize, sizes_snoc r x]; omega
theorem stmt_size : ∀ n, (∀ d l x r, stmtF e n d l = some (.ok (x, r)) → ndSize x + r.length ≤ l.length) ∧ (∀ d l x r, blockF e n d l = some (.ok (x, r)) → ndSize x + r.length ≤ l.length) ∧ ∀ d ks l x r, stmtsF e n d ks l = some (.ok (x, r)) → ndsSize x + r.length ≤ ndsSize ks + l.length
  | 0 => ⟨fun _ _ _ _ h => by (rw [stmtF] at h; cases h), fun _ _ _ _ h => by (rw [blockF] at h; cases h), fun _ _ _ _ _ h => by (rw [stmtsF] at h; cases h)⟩
  | n + 1 => by
    obtain ⟨h1, h2, h3⟩ := stmt_size n
    refine ⟨fun d l x r h => ?_, fun d l x r h => ?_, fun d ks l x r h => ?_⟩
    · rw [stmtF] at h
      split at h
      · rename_i hw
        have kt := word_tail hw (by decide)
        obtain ⟨a, q, ha, h⟩ := andT_ok h
        obtain ⟨b, q1, hb, h⟩ := andT_ok h
        have k1 := (expr_size n).2.2.2 _ _ _ _ ha
        have k2 := h2 _ _ _ _ hb
        split at h
        · obtain ⟨c, q2, hc, h⟩ := andT_ok h
          obtain ⟨rfl, rfl⟩ := ok_inj h
          have k3 := h2 _ _ _ _ hc
          have k4 := tail_le q1
          rw [size_three]
          omega
        · obtain ⟨rfl, rfl⟩ := ok_inj h
          rw [size_two]
          omega
      · split at h
        · rename_i hw
          have kt := word_tail hw (by decide)
          obtain ⟨a, q, ha, h⟩ := andT_ok h
          obtain ⟨b, q1, hb, h⟩ := andT_ok h
          obtain ⟨rfl, rfl⟩ := ok_inj h
          have k1 := (expr_size n).2.2.2 _ _ _ _ ha
          have k2 := h2 _ _ _ _ hb
          rw [size_two]
          omega
        · exact plain_size h
    · rw [blockF] at h
      obtain ⟨q, hq, h⟩ := thenT_ok h
      obtain ⟨a, q1, ha, h⟩ := andT_ok h
      obtain ⟨q2, hq2, h⟩ := thenT_ok h
      obtain ⟨rfl, rfl⟩ := ok_inj h
      have k1 := open_len hq
      have k2 := h3 _ _ _ _ _ ha
      have k3 := take_len hq2
      simp only [ndsSize] at k2
      show ndsSize a + 1 + _ ≤ _
      omega
    · rw [stmtsF] at h
      split at h
      · obtain ⟨rfl, rfl⟩ := ok_inj h
        exact Nat.le_refl _
      · obtain ⟨a, q1, ha, h⟩ := andT_ok h
        have k1 := h1 _ _ _ _ ha
        have k2 := h3 _ _ _ _ _ h
        rw [sizes_snoc] at k2
        omega
mutual
theorem flat_len : ∀ (x : Nd) (b : Nat), (flat b x).length = ndSize x
  | .mk k n p t ks, b => by rw [flat, List.length_append, flats_len ks b, ndSize]; rfl
theorem flats_len : ∀ (ks : List Nd) (b : Nat), (flats b ks).length = ndsSize ks
  | [], b => rfl
  | x :: r, b => by rw [flats, List.length_append, flat_len x b, flats_len r, ndsSize]
end
theorem flats_snoc : ∀ (ks : List Nd) (x : Nd) (b : Nat), flats b (ks ++ [x]) = flats b ks ++ flat (b + ndsSize ks) x
  | [], x, b => by simp [flats, ndsSize]
  | a :: r, x, b => by
    rw [List.cons_append, flats, flats_snoc r x, flats, ndsSize, List.append_assoc, Nat.add_assoc]
theorem idxs_snoc : ∀ (ks : List Nd) (x : Nd) (b : Nat), idxs b (ks ++ [x]) = idxs b ks ++ [(((b + ndsSize ks + ndSize x : Nat) : Int) - 1)]
  | [], x, b => by simp [idxs, ndsSize]
  | a :: r, x, b => by
    rw [List.cons_append, idxs, idxs_snoc r x, idxs, ndsSize, List.cons_append]
    congr 3
    omega
end
end

section
/-- What is told by some bound. -/
noncomputable def tldT {α : Type} (f : Nat → Option (TRes α)) : TRes α := open Classical in if h : ∃ n r, f n = some r then h.choose_spec.choose else .error (0, 0)
theorem tld_is {α : Type} {f : Nat → Option (TRes α)} (h : ∀ n, Le (f n) (f (n + 1))) {n : Nat} {r : TRes α} (hr : f n = some r) : tldT f = r := by
  have hx : ∃ n r, f n = some r := ⟨n, r, hr⟩
  unfold tldT
  rw [dif_pos hx]
  exact le_same h hx.choose_spec.choose_spec hr
theorem tld_some {α : Type} {r : TRes α} : tldT (fun _ => some r) = r := tld_is (n := 0) (fun _ => Le.refl _) rfl
theorem tot_pos {α : Type} {f : Nat → Option α} (h : Tot f) (h0 : f 0 = none) : ∃ n r, f (n + 1) = some r := by
  obtain ⟨n, r, h⟩ := h
  match n, h with
  | 0, h => rw [h0] at h; cases h
  | n + 1, h => exact ⟨n, r, h⟩
/-- One behind the other. -/
def bindT {α β : Type} (x : TRes α) (f : α → List Tok → TRes β) : TRes β :=
  match x with
  | .error q => .error q
  | .ok (a, l) => f a l
def bindL {β : Type} (x : Except (Int × Int) (List Tok)) (f : List Tok → TRes β) : TRes β :=
  match x with
  | .error q => .error q
  | .ok l => f l
theorem andT_told {α β : Type} {f : Nat → Option (TRes α)} {g : Nat → α → List Tok → Option (TRes β)} (uf : ∀ n, Le (f n) (f (n + 1))) (ug : ∀ n a l, Le (g n a l) (g (n + 1) a l)) {n : Nat} {r : TRes β} (h : andT (f n) (g n) = some r) : r = bindT (tldT f) fun a l => tldT fun n => g n a l := by
  unfold andT at h
  split at h
  · cases h
  · rename_i q hq
    rw [show tldT f = .error q from tld_is uf hq]
    exact (Option.some.inj h).symm
  · rename_i a l hq
    rw [show tldT f = .ok (a, l) from tld_is uf hq]
    exact (tld_is (f := fun n => g n a l) (fun n => ug n a l) h).symm
theorem thenT_told {β : Type} {x : Except (Int × Int) (List Tok)} {g : Nat → List Tok → Option (TRes β)} (ug : ∀ n l, Le (g n l) (g (n + 1) l)) {n : Nat} {r : TRes β} (h : thenT x (g n) = some r) : r = bindL x fun l => tldT fun n => g n l := by
  unfold thenT at h
  split at h
  · exact (Option.some.inj h).symm
  · rename_i l
    exact (tld_is (f := fun n => g n l) (fun n => ug n l) h).symm
theorem nameThen_told {β : Type} {x : TRes (List UInt8)} {g : Nat → List UInt8 → List Tok → Option (TRes β)} (ug : ∀ n s l, Le (g n s l) (g (n + 1) s l)) {n : Nat} {r : TRes β} (h : nameThen x (g n) = some r) : r = bindT x fun s l => tldT fun n => g n s l := by
  unfold nameThen at h
  split at h
  · exact (Option.some.inj h).symm
  · rename_i s l
    exact (tld_is (f := fun n => g n s l) (fun n => ug n s l) h).symm

noncomputable def exprT (e : Int) (k d : Nat) (l : List Tok) : TRes Nd := tldT fun n => exprF e n k d l
noncomputable def loopT (e : Int) (k d : Nat) (x : Nd) (l : List Tok) : TRes Nd := tldT fun n => loopF e n k d x l
noncomputable def unaryT (e : Int) (d : Nat) (l : List Tok) : TRes Nd := tldT fun n => unaryF e n d l
noncomputable def heldT (e : Int) (d : Nat) (l : List Tok) : TRes Nd := tldT fun n => heldF e n d l
noncomputable def assignT (e : Int) (d : Nat) (l : List Tok) : TRes Nd := tldT fun n => assignF e n d l
noncomputable def stmtT (e : Int) (d : Nat) (l : List Tok) : TRes Nd := tldT fun n => stmtF e n d l
noncomputable def blockT (e : Int) (d : Nat) (l : List Tok) : TRes Nd := tldT fun n => blockF e n d l
noncomputable def stmtsT (e : Int) (d : Nat) (ks : List Nd) (l : List Tok) : TRes (List Nd) := tldT fun n => stmtsF e n d ks l
noncomputable def threadsT (e : Int) (ks : List Nd) (l : List Tok) : TRes (List Nd) := tldT fun n => threadsF e n ks l

section
variable {e : Int}
theorem thenT_is {β : Type} {x : Except (Int × Int) (List Tok)} {g : Nat → List Tok → Option (TRes β)} (ug : ∀ n l, Le (g n l) (g (n + 1) l)) (h : Tot fun n => thenT x (g n)) : (tldT fun n => thenT x (g n)) = bindL x fun l => tldT fun n => g n l := by
  obtain ⟨n, r, hr⟩ := h
  rw [show (tldT fun n => thenT x (g n)) = r from tld_is (fun n => thenT_le fun l => ug n l) hr]
  exact thenT_told ug hr
theorem nameThen_is {β : Type} {x : TRes (List UInt8)} {g : Nat → List UInt8 → List Tok → Option (TRes β)} (ug : ∀ n s l, Le (g n s l) (g (n + 1) s l)) (h : Tot fun n => nameThen x (g n)) : (tldT fun n => nameThen x (g n)) = bindT x fun s l => tldT fun n => g n s l := by
  obtain ⟨n, r, hr⟩ := h
  rw [show (tldT fun n => nameThen x (g n)) = r from tld_is (fun n => nameThen_le fun s l => ug n s l) hr]
  exact nameThen_told ug hr
theorem andT_is {α β : Type} {f : Nat → Option (TRes α)} {g : Nat → α → List Tok → Option (TRes β)} (uf : ∀ n, Le (f n) (f (n + 1))) (ug : ∀ n a l, Le (g n a l) (g (n + 1) a l)) (h : Tot fun n => andT (f n) (g n)) : (tldT fun n => andT (f n) (g n)) = bindT (tldT f) fun a l => tldT fun n => g n a l := by
  obtain ⟨n, r, hr⟩ := h
  rw [show (tldT fun n => andT (f n) (g n)) = r from tld_is (fun n => andT_le (uf n) fun a l => ug n a l) hr]
  exact andT_told uf ug hr
/-- The bound before. -/
theorem tld_up {α : Type} {f : Nat → Option (TRes α)} (uf : ∀ n, Le (f n) (f (n + 1))) (h : Tot f) (h0 : f 0 = none) : tldT f = tldT (fun n => f (n + 1)) := by
  obtain ⟨n, r, hr⟩ := tot_pos h h0
  rw [tld_is uf hr, tld_is (f := fun n => f (n + 1)) (fun n => uf (n + 1)) hr]
theorem tot_next {α : Type} {f : Nat → Option α} (h : Tot f) (h0 : f 0 = none) : Tot fun n => f (n + 1) := by
  obtain ⟨n, r, hr⟩ := tot_pos h h0
  exact ⟨n, r, hr⟩

theorem exprT_five (d : Nat) (l : List Tok) : exprT e 5 d l = unaryT e d l := by
  have ht := ex_tot (e := e) 5 d l (Nat.le_refl _)
  have h0 : exprF e 0 5 d l = none := by rw [exprF]
  unfold exprT unaryT
  rw [tld_up (ex_up 5 l) ht h0]
  congr 1
  funext n
  rw [exprF, if_pos rfl]
theorem exprT_low {k : Nat} (hk : k < 5) (d : Nat) (l : List Tok) : exprT e k d l = bindT (exprT e (k + 1) d l) (loopT e k d) := by
  have ht := ex_tot (e := e) k d l (by omega)
  have h0 : exprF e 0 k d l = none := by rw [exprF]
  have he : (fun n => exprF e (n + 1) k d l) = fun n => andT (exprF e n (k + 1) d l) fun x r => loopF e n k d x r := by
    funext n
    rw [exprF, if_neg (by omega)]
  have ht2 := tot_next ht h0
  rw [he] at ht2
  unfold exprT
  rw [tld_up (ex_up k l) ht h0, he]
  exact andT_is (ex_up (k + 1) l) (fun n a l => lo_up k a l n) ht2
theorem lo_tot (k d : Nat) (x : Nd) (l : List Tok) : Tot fun n => loopF e n k d x l := (expr_tot l.length l (Nat.le_refl _) d).1 k x
theorem un_tot (d : Nat) (l : List Tok) : Tot fun n => unaryF e n d l := (expr_tot l.length l (Nat.le_refl _) d).2.2.1
theorem loopT_is (k d : Nat) (x : Nd) (l : List Tok) : loopT e k d x l = match signAt k l with
    | none => .ok (x, l)
    | some (t, r) => bindT (exprT e (k + 1) d r) fun y q => loopT e k d (.mk 19 0 t.pos t.text [x, y]) q := by
  have ht := lo_tot (e := e) k d x l
  have h0 : loopF e 0 k d x l = none := by rw [loopF]
  have ht2 := tot_next ht h0
  unfold loopT
  rw [tld_up (lo_up k x l) ht h0]
  cases hs : signAt k l with
  | none =>
    have he : (fun n => loopF e (n + 1) k d x l) = fun _ => some (.ok (x, l)) := by
      funext n
      rw [loopF, hs]
    rw [he, tld_some]
  | some p =>
    obtain ⟨t, r⟩ := p
    have he : (fun n => loopF e (n + 1) k d x l) = fun n => andT (exprF e n (k + 1) d r) fun y q => loopF e n k d (.mk 19 0 t.pos t.text [x, y]) q := by
      funext n
      rw [loopF, hs]
    rw [he] at ht2 ⊢
    exact andT_is (ex_up (k + 1) r) (fun n a l => lo_up k _ l n) ht2
theorem heldT_is (d : Nat) (l : List Tok) : heldT e d l = bindL (openT e [40] d l) fun r => bindT (exprT e 0 (d + 1) r) fun x q => bindL (takeT e [41] q) fun p => .ok (x, p) := by
  have ht := he_tot (e := e) d l
  have h0 : heldF e 0 d l = none := by rw [heldF]
  have he : (fun n => heldF e (n + 1) d l) = fun n => thenT (openT e [40] d l) fun r => andT (exprF e n 0 (d + 1) r) fun x q => thenT (takeT e [41] q) fun p => some (.ok (x, p)) := by
    funext n
    rw [heldF]
  have ht2 := tot_next ht h0
  unfold heldT
  rw [tld_up (he_up l) ht h0]
  rw [he] at ht2 ⊢
  rw [thenT_is (fun n r => andT_le (ex_up 0 r n) fun _ _ => Le.refl _) ht2]
  congr 1
  funext r
  rw [andT_is (ex_up 0 r) (fun _ _ _ => Le.refl _) (tot_and (ex_up 0 r) (fun _ _ _ => Le.refl _) (ex_tot 0 (d + 1) r (by omega)) fun _ x q _ => tot_then fun p _ => tot_is _)]
  congr 1
  funext x q
  rw [thenT_is (fun _ _ => Le.refl _) (tot_then fun p _ => tot_is _)]
  congr 1
  funext p
  exact tld_some
theorem unaryT_is (d : Nat) (l : List Tok) : unaryT e d l =
    if isTok [45] l = true then bindL (openT e [45] d l) fun r => bindT (unaryT e (d + 1) r) fun x q => .ok (.mk 17 0 (posOf e l) [] [x], q)
    else if isTok [33] l = true then bindL (openT e [33] d l) fun r => bindT (unaryT e (d + 1) r) fun x q => .ok (.mk 18 0 (posOf e l) [] [x], q)
    else if isTok [40] l = true then heldT e d l
    else primT e l := by
  have ht := un_tot (e := e) d l
  have h0 : unaryF e 0 d l = none := by rw [unaryF]
  have ht2 := tot_next ht h0
  have key : ∀ (S : List UInt8) (k : Int), (Tot fun n => thenT (openT e S d l) fun r => andT (unaryF e n (d + 1) r) fun x q => some (.ok (Nd.mk k 0 (posOf e l) [] [x], q))) → (tldT fun n => thenT (openT e S d l) fun r => andT (unaryF e n (d + 1) r) fun x q => some (.ok (Nd.mk k 0 (posOf e l) [] [x], q))) = bindL (openT e S d l) fun r => bindT (unaryT e (d + 1) r) fun x q => .ok (.mk k 0 (posOf e l) [] [x], q) := fun S k ht3 => by
    rw [thenT_is (fun n r => andT_le (un_up r n) fun _ _ => Le.refl _) ht3]
    congr 1
    funext r
    rw [andT_is (un_up r) (fun _ _ _ => Le.refl _) (tot_and (un_up r) (fun _ _ _ => Le.refl _) (un_tot (d + 1) r) fun _ x q _ => tot_is _)]
    congr 1
    funext x q
    exact tld_some
  unfold unaryT at key ⊢
  rw [tld_up (un_up l) ht h0]
  split
  · rename_i h1
    have he : (fun n => unaryF e (n + 1) d l) = fun n => thenT (openT e [45] d l) fun r => andT (unaryF e n (d + 1) r) fun x q => some (.ok (.mk 17 0 (posOf e l) [] [x], q)) := by
      funext n
      rw [unaryF, if_pos h1]
    rw [he] at ht2 ⊢
    exact key _ _ ht2
  · rename_i h1
    split
    · rename_i h2
      have he : (fun n => unaryF e (n + 1) d l) = fun n => thenT (openT e [33] d l) fun r => andT (unaryF e n (d + 1) r) fun x q => some (.ok (.mk 18 0 (posOf e l) [] [x], q)) := by
        funext n
        rw [unaryF, if_neg h1, if_pos h2]
      rw [he] at ht2 ⊢
      exact key _ _ ht2
    · rename_i h2
      split
      · rename_i h3
        unfold heldT
        congr 1
        funext n
        rw [unaryF, if_neg h1, if_neg h2, if_pos h3]
      · rename_i h3
        have he : (fun n => unaryF e (n + 1) d l) = fun _ => some (primT e l) := by
          funext n
          rw [unaryF, if_neg h1, if_neg h2, if_neg h3]
        rw [he]
        exact tld_some
end
end

end Go.Proofs.YtclnjhffcfkihaeGreatDoor
