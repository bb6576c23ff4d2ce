/-
  What is read as a statement or a block is one, and not too deep.
  Every text is read, or something is told of it: there is a bound that is enough.
-/
import Derived.Test.YtclnjhffcfkihaeGreatDoorSynS
namespace Go.Proofs.YtclnjhffcfkihaeGreatDoor
section
section
variable {e : Int}
theorem ok_inj {α : Type} {a b : α} {l r : List Tok} (h : (some (Except.ok (a, l)) : Option (TRes α)) = some (.ok (b, r))) : a = b ∧ l = r := by
  have := Except.ok.inj (Option.some.inj h)
  simpa using this
theorem kind_x {x : Nd} (h : WfX x) : 15 ≤ kindN x ∧ WfN x ∧ depN x = depX x := by
  match x, h with
  | .mk k n p t ks, h =>
    have hk : 15 ≤ k := by
      unfold WfX at h
      rcases h with h | ⟨_, _, h⟩
      · omega
      · match ks, h with
        | [], h => omega
        | [a], h => omega
        | [a, b], h => omega
    exact ⟨hk, by rw [WfN, if_pos hk]; exact h, by rw [depN, if_pos hk]⟩
theorem exprThen_wf {β : Type} {n d : Nat} {s : List UInt8} {l r : List Tok} {f : Nd → List Tok → Option (TRes β)} {y : β} (hd : d ≤ 20) (hl : ToksOk l) (h : exprThen e n d s l f = some (.ok (y, r))) : ∃ x q, WfX x ∧ d + depX x ≤ 20 ∧ ToksOk q ∧ f x q = some (.ok (y, r)) := by
  unfold exprThen at h
  obtain ⟨x, q, hx, h⟩ := andT_ok h
  obtain ⟨p, hp, h⟩ := thenT_ok h
  obtain ⟨_, rfl⟩ := take_ok hp
  obtain ⟨w1, w2, w3⟩ := (expr_wf e n).1 0 d l x q (by omega) hd hl hx
  have h0 := bind_nn w1
  unfold depS at w2
  rw [if_neg (by simp; exact h0)] at w2
  exact ⟨x, q.tail, w1, w2, w3.tail, h⟩

/-- What is well of a statement. -/
def GoodS (d : Nat) (x : Nd) (r : List Tok) : Prop := WfN x ∧ 6 ≤ kindN x ∧ kindN x ≤ 14 ∧ d + depN x ≤ 20 ∧ ToksOk r
theorem good_one {d : Nat} {k p : Int} {t : List UInt8} {x : Nd} {r : List Tok} (hk : k = 6 ∨ k = 7) (ht : NameOk t) (hx : WfX x) (hd : d + depX x ≤ 20) (hr : ToksOk r) : GoodS d (.mk k 0 p t [x]) r := by
  obtain ⟨h1, h2, h3⟩ := kind_x hx
  refine ⟨?_, show 6 ≤ k by omega, show k ≤ 14 by omega, ?_, hr⟩
  · rw [WfN, if_neg (by omega)]
    refine ⟨rfl, ?_, by rw [WfNs, WfNs]; exact ⟨h2, trivial⟩⟩
    rcases hk with rfl | rfl
    · exact Or.inr (Or.inl ⟨rfl, ht, _, rfl, h1⟩)
    · exact Or.inr (Or.inr (Or.inl ⟨rfl, ht, _, rfl, h1⟩))
  · rw [depN, if_neg (by omega)]
    simp only [depK, depNs, h3, maxL]
    rw [if_neg (by omega), if_pos hk]
    omega
theorem assign_wf {n d : Nat} {l r : List Tok} {x : Nd} (hd : d ≤ 20) (hl : ToksOk l) (h : assignF e n d l = some (.ok (x, r))) : GoodS d x r := by
  unfold assignF at h
  obtain ⟨s, q, hs, h⟩ := nameThen_ok h
  obtain ⟨hs1, rfl⟩ := name_ok hl hs
  obtain ⟨q, hq, h⟩ := thenT_ok h
  obtain ⟨_, rfl⟩ := take_ok hq
  have hl2 := hl.tail.tail
  split at h
  · obtain ⟨q, hq, h⟩ := thenT_ok h
    obtain ⟨_, rfl⟩ := take_ok hq
    obtain ⟨q, hq, h⟩ := thenT_ok h
    obtain ⟨_, hd2, rfl⟩ := open_ok hq
    obtain ⟨s2, q, hq, h⟩ := nameThen_ok h
    obtain ⟨hs2, rfl⟩ := name_ok hl2.tail.tail hq
    obtain ⟨q, hq, h⟩ := thenT_ok h
    obtain ⟨_, rfl⟩ := take_ok hq
    obtain ⟨b, q, hb1, hb2, hb3, h⟩ := exprThen_wf (by omega) hl2.tail.tail.tail.tail h
    obtain ⟨c, q, hc1, hc2, hc3, h⟩ := exprThen_wf (by omega) hb3 h
    obtain ⟨q2, hq, h⟩ := thenT_ok h
    obtain ⟨_, rfl⟩ := take_ok hq
    obtain ⟨rfl, rfl⟩ := ok_inj h
    obtain ⟨b4, b5, b6⟩ := kind_x hb1
    obtain ⟨c4, c5, c6⟩ := kind_x hc1
    have hn : WfX (.mk 16 0 (posOf e l.tail.tail.tail.tail) s2 []) := by unfold WfX; exact Or.inr ⟨by decide, rfl, rfl, hs2⟩
    obtain ⟨n4, n5, n6⟩ := kind_x hn
    refine ⟨?_, show (6 : Int) ≤ 8 by decide, show (8 : Int) ≤ 14 by decide, ?_, hc3.tail⟩
    · rw [WfN, if_neg (by decide)]
      refine ⟨rfl, Or.inr (Or.inr (Or.inr (Or.inl ⟨rfl, hs1, _, _, rfl, b4, c4⟩))), ?_⟩
      rw [WfNs, WfNs, WfNs, WfNs]
      exact ⟨n5, b5, c5, trivial⟩
    · rw [depN, if_neg (by decide)]
      simp only [depK, depNs, b6, c6, n6, maxL, depX]
      simp
      omega
  · obtain ⟨b, q, hb1, hb2, hb3, h⟩ := exprThen_wf hd hl2 h
    obtain ⟨rfl, rfl⟩ := ok_inj h
    exact good_one (Or.inr rfl) hs1 hb1 hb2 hb3
theorem held_wf {n d : Nat} {l r : List Tok} {x : Nd} (hd : d ≤ 20) (hl : ToksOk l) (h : heldF e n d l = some (.ok (x, r))) : WfX x ∧ d + 1 + depX x ≤ 20 ∧ ToksOk r := (expr_wf e n).2.2.2 d l x r hd hl h
theorem plain_wf {n d : Nat} {l r : List Tok} {x : Nd} (hd : d ≤ 20) (hl : ToksOk l) (h : plainF e n d l = some (.ok (x, r))) : GoodS d x r := by
  unfold plainF at h
  split at h
  · obtain ⟨s, q, hs, h⟩ := nameThen_ok h
    obtain ⟨hs1, rfl⟩ := name_ok hl.tail hs
    obtain ⟨q, hq, h⟩ := thenT_ok h
    obtain ⟨_, rfl⟩ := take_ok hq
    obtain ⟨b, q, hb1, hb2, hb3, h⟩ := exprThen_wf hd hl.tail.tail.tail h
    obtain ⟨rfl, rfl⟩ := ok_inj h
    exact good_one (Or.inl rfl) hs1 hb1 hb2 hb3
  · split at h
    · obtain ⟨y, q, hy, h⟩ := andT_ok h
      obtain ⟨w1, w2, w3⟩ := held_wf hd hl.tail hy
      obtain ⟨q2, hq, h⟩ := thenT_ok h
      obtain ⟨_, rfl⟩ := take_ok hq
      obtain ⟨rfl, rfl⟩ := ok_inj h
      obtain ⟨y1, y2, y3⟩ := kind_x w1
      refine ⟨?_, show (6 : Int) ≤ 11 by decide, show (11 : Int) ≤ 14 by decide, ?_, w3.tail⟩
      · rw [WfN, if_neg (by decide)]
        exact ⟨rfl, Or.inr (Or.inr (Or.inr (Or.inr (Or.inr (Or.inr (Or.inl ⟨rfl, rfl, _, rfl, y1⟩)))))), by rw [WfNs, WfNs]; exact ⟨y2, trivial⟩⟩
      · rw [depN, if_neg (by decide)]
        simp only [depK, depNs, y3, maxL]
        simp
        omega
    · split at h
      · obtain ⟨q, hq, h⟩ := thenT_ok h
        obtain ⟨_, hd2, rfl⟩ := open_ok hq
        obtain ⟨s, q, hs, h⟩ := nameThen_ok h
        obtain ⟨hs1, rfl⟩ := name_ok hl.tail.tail hs
        obtain ⟨q, hq, h⟩ := thenT_ok h
        obtain ⟨_, rfl⟩ := take_ok hq
        obtain ⟨q, hq, h⟩ := thenT_ok h
        obtain ⟨_, rfl⟩ := take_ok hq
        obtain ⟨rfl, rfl⟩ := ok_inj h
        obtain ⟨k, hk⟩ : ∃ k : Int, (if wordOf l = wLock then (12 : Int) else 13) = k := ⟨_, rfl⟩
        have hk2 : k = 12 ∨ k = 13 := by rw [← hk]; split <;> simp
        rw [hk]
        refine ⟨?_, show 6 ≤ k by omega, show k ≤ 14 by omega, ?_, hl.tail.tail.tail.tail.tail⟩
        · rw [WfN, if_neg (by omega)]
          exact ⟨rfl, Or.inr (Or.inr (Or.inr (Or.inr (Or.inr (Or.inr (Or.inr (Or.inl ⟨hk2, hs1, rfl⟩))))))), by rw [WfNs]; trivial⟩
        · rw [depN, if_neg (by omega)]
          have : depK k (depNs []) = 1 := by rcases hk2 with rfl | rfl <;> rfl
          rw [this]
          omega
      · split at h
        · obtain ⟨q, hq, h⟩ := thenT_ok h
          obtain ⟨_, rfl⟩ := take_ok hq
          obtain ⟨rfl, rfl⟩ := ok_inj h
          refine ⟨?_, show (6 : Int) ≤ 14 by decide, show (14 : Int) ≤ 14 by decide, ?_, hl.tail.tail⟩
          · rw [WfN, if_neg (by decide)]
            exact ⟨rfl, Or.inr (Or.inr (Or.inr (Or.inr (Or.inr (Or.inr (Or.inr (Or.inr ⟨rfl, rfl, rfl⟩))))))), by rw [WfNs]; trivial⟩
          · rw [depN, if_neg (by decide)]
            simpa [depK, depNs] using hd
        · exact assign_wf hd hl h

/-- What is well of a block. -/
def GoodB (d : Nat) (x : Nd) (r : List Tok) : Prop := WfN x ∧ kindN x = 5 ∧ d + depN x ≤ 20 ∧ ToksOk r
def GoodK (d : Nat) (ks : List Nd) : Prop := ∀ x, x ∈ ks → WfN x ∧ 6 ≤ kindN x ∧ kindN x ≤ 14 ∧ d + depN x ≤ 20
theorem wfNs_of : ∀ {ks : List Nd}, (∀ x, x ∈ ks → WfN x) → WfNs ks
  | [], _ => by rw [WfNs]; trivial
  | y :: r, h => by rw [WfNs]; exact ⟨h y (by simp), wfNs_of fun x hx => h x (by simp [hx])⟩
theorem maxL_of {m : Nat} : ∀ {ks : List Nd}, (∀ x, x ∈ ks → depN x ≤ m) → maxL (depNs ks) ≤ m
  | [], _ => by rw [depNs, maxL]; omega
  | y :: r, h => by
    rw [depNs, maxL]
    have h1 := h y (by simp)
    have h2 := maxL_of (ks := r) (m := m) fun x hx => h x (by simp [hx])
    omega
theorem good_if {d : Nat} {p : Int} {x b : Nd} {k : Int} {r r1 : List Tok} (hk : k = 9 ∨ k = 10) (hx : WfX x) (hd : d + 1 + depX x ≤ 20) (hb : GoodB d b r1) (hr : ToksOk r) : GoodS d (.mk k 0 p [] [x, b]) r := by
  obtain ⟨h1, h2, h3⟩ := kind_x hx
  obtain ⟨b1, b2, b3, _⟩ := hb
  refine ⟨?_, show 6 ≤ k by omega, show k ≤ 14 by omega, ?_, hr⟩
  · rw [WfN, if_neg (by omega)]
    refine ⟨rfl, ?_, by rw [WfNs, WfNs, WfNs]; exact ⟨h2, b1, trivial⟩⟩
    rcases hk with rfl | rfl
    · exact Or.inr (Or.inr (Or.inr (Or.inr (Or.inl ⟨rfl, rfl, _, h1, Or.inl (by simp [b2])⟩))))
    · exact Or.inr (Or.inr (Or.inr (Or.inr (Or.inr (Or.inl ⟨rfl, rfl, _, h1, by simp [b2]⟩)))))
  · rw [depN, if_neg (by omega)]
    simp only [depK, depNs, h3, maxL, List.getD_cons_zero, List.drop_succ_cons, List.drop_zero]
    rw [if_neg (by omega), if_neg (by omega), if_pos hk]
    omega
theorem good_else {d : Nat} {p : Int} {x b c : Nd} {r r1 r2 : List Tok} (hx : WfX x) (hd : d + 1 + depX x ≤ 20) (hb : GoodB d b r1) (hc : GoodB d c r2) (hr : ToksOk r) : GoodS d (.mk 9 0 p [] [x, b, c]) r := by
  obtain ⟨h1, h2, h3⟩ := kind_x hx
  obtain ⟨b1, b2, b3, _⟩ := hb
  obtain ⟨c1, c2, c3, _⟩ := hc
  refine ⟨?_, show (6 : Int) ≤ 9 by decide, show (9 : Int) ≤ 14 by decide, ?_, hr⟩
  · rw [WfN, if_neg (by decide)]
    exact ⟨rfl, Or.inr (Or.inr (Or.inr (Or.inr (Or.inl ⟨rfl, rfl, _, h1, Or.inr (by simp [b2, c2])⟩)))), by rw [WfNs, WfNs, WfNs, WfNs]; exact ⟨h2, b1, c1, trivial⟩⟩
  · rw [depN, if_neg (by decide)]
    simp only [depK, depNs, h3, maxL, List.getD_cons_zero, List.drop_succ_cons, List.drop_zero]
    rw [if_neg (by omega), if_neg (by omega), if_pos (Or.inl trivial)]
    omega

/-- WHAT IS READ AS A STATEMENT OR A BLOCK IS ONE, and not too deep. -/
theorem stmt_wf (e : Int) : ∀ n, (∀ (d : Nat) l x r, d ≤ 20 → ToksOk l → stmtF e n d l = some (.ok (x, r)) → GoodS d x r) ∧
    (∀ (d : Nat) l x r, d ≤ 20 → ToksOk l → blockF e n d l = some (.ok (x, r)) → GoodB d x r) ∧
    (∀ (d : Nat) ks l ks' r, d ≤ 20 → ToksOk l → GoodK d ks → stmtsF e n d ks l = some (.ok (ks', r)) → GoodK d ks' ∧ ToksOk r)
  | 0 => ⟨fun _ _ _ _ _ _ h => (by rw [stmtF] at h; cases h), fun _ _ _ _ _ _ h => (by rw [blockF] at h; cases h), fun _ _ _ _ _ _ _ _ h => (by rw [stmtsF] at h; cases h)⟩
  | n + 1 => by
    obtain ⟨h1, h2, h3⟩ := stmt_wf e n
    refine ⟨fun d l x r hd hl h => ?_, fun d l x r hd hl h => ?_, fun d ks l ks' r hd hl hk h => ?_⟩
    · rw [stmtF] at h
      split at h
      · obtain ⟨y, q, hy, h⟩ := andT_ok h
        obtain ⟨w1, w2, w3⟩ := held_wf hd hl.tail hy
        obtain ⟨b, q2, hb, h⟩ := andT_ok h
        have gb := h2 d q b q2 hd w3 hb
        split at h
        · obtain ⟨c, q3, hc, h⟩ := andT_ok h
          have gc := h2 d q2.tail c q3 hd gb.2.2.2.tail hc
          obtain ⟨rfl, rfl⟩ := ok_inj h
          exact good_else w1 w2 gb gc gc.2.2.2
        · obtain ⟨rfl, rfl⟩ := ok_inj h
          exact good_if (Or.inl rfl) w1 w2 gb gb.2.2.2
      · split at h
        · obtain ⟨y, q, hy, h⟩ := andT_ok h
          obtain ⟨w1, w2, w3⟩ := held_wf hd hl.tail hy
          obtain ⟨b, q2, hb, h⟩ := andT_ok h
          have gb := h2 d q b q2 hd w3 hb
          obtain ⟨rfl, rfl⟩ := ok_inj h
          exact good_if (Or.inr rfl) w1 w2 gb gb.2.2.2
        · exact plain_wf hd hl h
    · rw [blockF] at h
      obtain ⟨q, hq, h⟩ := thenT_ok h
      obtain ⟨_, hd2, rfl⟩ := open_ok hq
      obtain ⟨ks, q, hks, h⟩ := andT_ok h
      obtain ⟨g1, g2⟩ := h3 (d + 1) [] l.tail ks q (by omega) hl.tail (fun _ hx => by cases hx) hks
      obtain ⟨q2, hq, h⟩ := thenT_ok h
      obtain ⟨_, rfl⟩ := take_ok hq
      obtain ⟨rfl, rfl⟩ := ok_inj h
      refine ⟨?_, rfl, ?_, g2.tail⟩
      · rw [WfN, if_neg (by decide)]
        refine ⟨rfl, Or.inl ⟨rfl, rfl, fun q hq => ?_⟩, wfNs_of fun x hx => (g1 x hx).1⟩
        obtain ⟨x, hx, rfl⟩ := List.mem_map.1 hq
        exact ⟨(g1 x hx).2.1, (g1 x hx).2.2.1⟩
      · rw [depN, if_neg (by decide)]
        simp only [depK, if_true]
        have := maxL_of (ks := ks) (m := 20 - (d + 1)) fun x hx => by have := (g1 x hx).2.2.2; omega
        omega
    · rw [stmtsF] at h
      split at h
      · obtain ⟨rfl, rfl⟩ := ok_inj h
        exact ⟨hk, hl⟩
      · obtain ⟨x, q, hx, h⟩ := andT_ok h
        obtain ⟨g1, g2, g3, g4, g5⟩ := h1 d l x q hd hl hx
        refine h3 d (ks ++ [x]) q ks' r hd g5 (fun y hy => ?_) h
        rcases List.mem_append.1 hy with hy | hy
        · exact hk y hy
        · obtain rfl : y = x := by simpa using hy
          exact ⟨g1, g2, g3, g4⟩
end
end

section
section
variable {e : Int}
theorem is_len {s : List UInt8} {l : List Tok} (h : isTok s l = true) : l.tail.length < l.length := by
  match l, h with
  | t :: r, _ => simp
theorem take_len {s : List UInt8} {l r : List Tok} (h : takeT e s l = .ok r) : r.length < l.length := by
  obtain ⟨h1, rfl⟩ := take_ok h
  exact is_len h1
theorem open_len {s : List UInt8} {d : Nat} {l r : List Tok} (h : openT e s d l = .ok r) : r.length < l.length := by
  obtain ⟨h1, _, rfl⟩ := open_ok h
  exact is_len h1
theorem name_len {s : List UInt8} {l r : List Tok} (h : nameT e l = .ok (s, r)) : r.length < l.length := by
  match l, h with
  | t :: q, h =>
    rw [nameT] at h
    split at h
    · have h1 := Except.ok.inj h
      simp only [Prod.mk.injEq] at h1
      rw [← h1.2]; simp
    · cases h
theorem tnum_len {v : Int} {l r : List Tok} (h : tnumT e l = .ok (v, r)) : r.length < l.length := by
  match l, h with
  | t :: q, h =>
    rw [tnumT] at h
    split at h
    · have h1 := Except.ok.inj h
      simp only [Prod.mk.injEq] at h1
      rw [← h1.2]; simp
    · cases h
theorem prim_len {x : Nd} {l r : List Tok} (h : primT e l = .ok (x, r)) : r.length < l.length := by
  unfold primT at h
  split at h
  · rename_i v q hq
    have h1 := Except.ok.inj h
    simp only [Prod.mk.injEq] at h1
    rw [← h1.2]; exact tnum_len hq
  · split at h
    · rename_i s q hq
      have h1 := Except.ok.inj h
      simp only [Prod.mk.injEq] at h1
      rw [← h1.2]; exact name_len hq
    · cases h
theorem sign_tl {k : Nat} {l r : List Tok} {t : Tok} (h : signAt k l = some (t, r)) : r.length < l.length := by
  match l, h with
  | a :: q, h =>
    rw [signAt] at h
    split at h
    · simp only [Option.some.injEq, Prod.mk.injEq] at h
      rw [← h.2]; simp
    · cases h
theorem expr_len : ∀ n, (∀ k d l x r, exprF e n k d l = some (.ok (x, r)) → r.length < l.length) ∧ (∀ k d y l x r, loopF e n k d y l = some (.ok (x, r)) → r.length ≤ l.length) ∧ (∀ d l x r, unaryF e n d l = some (.ok (x, r)) → r.length < l.length) ∧ ∀ d l x r, heldF e n d l = some (.ok (x, r)) → r.length < l.length
  | 0 => ⟨fun _ _ _ _ _ h => by (rw [exprF] at h; cases h), fun _ _ _ _ _ _ h => by (rw [loopF] at h; cases h), fun _ _ _ _ h => by (rw [unaryF] at h; cases h), fun _ _ _ _ h => by (rw [heldF] at h; cases h)⟩
  | n + 1 => by
    obtain ⟨h1, h2, h3, h4⟩ := expr_len n
    refine ⟨fun k d l x r h => ?_, fun k d y l x r h => ?_, fun d l x r h => ?_, fun d l x r h => ?_⟩
    · rw [exprF] at h
      split at h
      · exact h3 _ _ _ _ h
      · obtain ⟨a, q, ha, h⟩ := andT_ok h
        have k1 := h1 _ _ _ _ _ ha
        have k2 := h2 _ _ _ _ _ _ h
        omega
    · rw [loopF] at h
      split at h
      · obtain ⟨_, rfl⟩ := ok_inj h
        exact Nat.le_refl _
      · rename_i t q hs
        obtain ⟨a, q2, ha, h⟩ := andT_ok h
        have k0 := sign_tl hs
        have k1 := h1 _ _ _ _ _ ha
        have k2 := h2 _ _ _ _ _ _ h
        omega
    · rw [unaryF] at h
      split at h
      · obtain ⟨q, hq, h⟩ := thenT_ok h
        obtain ⟨a, q2, ha, h⟩ := andT_ok h
        obtain ⟨_, rfl⟩ := ok_inj h
        have k0 := open_len hq
        have k1 := h3 _ _ _ _ ha
        omega
      · split at h
        · obtain ⟨q, hq, h⟩ := thenT_ok h
          obtain ⟨a, q2, ha, h⟩ := andT_ok h
          obtain ⟨_, rfl⟩ := ok_inj h
          have k0 := open_len hq
          have k1 := h3 _ _ _ _ ha
          omega
        · split at h
          · exact h4 _ _ _ _ h
          · exact prim_len (Option.some.inj h)
    · rw [heldF] at h
      obtain ⟨q, hq, h⟩ := thenT_ok h
      obtain ⟨a, q2, ha, h⟩ := andT_ok h
      obtain ⟨q3, hq3, h⟩ := thenT_ok h
      obtain ⟨_, rfl⟩ := ok_inj h
      have k0 := open_len hq
      have k1 := h1 _ _ _ _ _ ha
      have k2 := take_len hq3
      omega

/-- Something is told, by some bound. -/
def Tot {α : Type} (f : Nat → Option α) : Prop := ∃ n r, f n = some r
theorem tot_is {α : Type} (r : α) : Tot (fun _ => some r) := ⟨0, r, rfl⟩
theorem tot_up {α : Type} {f : Nat → Option α} (h : Tot fun n => f (n + 1)) : Tot f := by
  obtain ⟨n, r, hr⟩ := h
  exact ⟨n + 1, r, hr⟩
theorem tot_and {α β : Type} {f : Nat → Option (TRes α)} {g : Nat → α → List Tok → Option (TRes β)} (uf : ∀ n, Le (f n) (f (n + 1))) (ug : ∀ n a l, Le (g n a l) (g (n + 1) a l)) (hf : Tot f) (hg : ∀ n a l, f n = some (.ok (a, l)) → Tot fun n => g n a l) : Tot fun n => andT (f n) (g n) := by
  obtain ⟨n, r, hr⟩ := hf
  match r, hr with
  | .error q, hr => exact ⟨n, .error q, by show andT (f n) (g n) = _; rw [hr]; rfl⟩
  | .ok (a, l), hr =>
    obtain ⟨m, r, hm⟩ := hg n a l hr
    refine ⟨n + m, r, ?_⟩
    show andT (f (n + m)) (g (n + m)) = _
    rw [tell_more uf hr (by omega)]
    exact tell_more (f := fun n => g n a l) (fun n => ug n a l) hm (by omega)
theorem tot_then {β : Type} {x : Except (Int × Int) (List Tok)} {g : Nat → List Tok → Option (TRes β)} (hg : ∀ l, x = .ok l → Tot fun n => g n l) : Tot fun n => thenT x (g n) := by
  match x, hg with
  | .error q, _ => exact ⟨0, .error q, rfl⟩
  | .ok l, hg => exact hg l rfl
theorem tot_name {β : Type} {x : TRes (List UInt8)} {g : Nat → List UInt8 → List Tok → Option (TRes β)} (hg : ∀ s l, x = .ok (s, l) → Tot fun n => g n s l) : Tot fun n => nameThen x (g n) := by
  match x, hg with
  | .error q, _ => exact ⟨0, .error q, rfl⟩
  | .ok (s, l), hg => exact hg s l rfl
theorem expr_tot : ∀ (N : Nat) (l : List Tok), l.length ≤ N → ∀ d, (∀ k x, Tot fun n => loopF e n k d x l) ∧ (Tot fun n => heldF e n d l) ∧ (Tot fun n => unaryF e n d l) ∧ ∀ k, k ≤ 5 → Tot fun n => exprF e n k d l := by
  intro N
  induction N using Nat.strongRecOn with
  | ind N ih =>
    intro l hl d
    have lo : ∀ (q : List Tok), q.length ≤ N → ∀ k x, Tot fun n => loopF e n k d x q := by
      intro q hq k x
      apply tot_up
      cases hs : signAt k q with
      | none => simp only [loopF, hs]; exact tot_is _
      | some p =>
        obtain ⟨t, r⟩ := p
        simp only [loopF, hs]
        have k0 := sign_tl hs
        by_cases hk : k + 1 ≤ 5
        · refine tot_and (ex_up (k + 1) r) (fun n a l => lo_up k _ l n) ((ih (N - 1) (by omega) r (by omega) d).2.2.2 (k + 1) hk) fun n a l h => ?_
          have k1 := (expr_len n).1 _ _ _ _ _ h
          exact (ih (N - 1) (by omega) l (by omega) d).1 k _
        · have h1 := (sign_at hs).1
          have := lvl_le t.text
          omega
    have he : Tot fun n => heldF e n d l := by
      apply tot_up
      simp only [heldF]
      refine tot_then fun r hr => ?_
      have k0 := open_len hr
      exact tot_and (ex_up 0 r) (fun n a l => Le.refl _) ((ih (N - 1) (by omega) r (by omega) (d + 1)).2.2.2 0 (by omega)) fun n a l _ => tot_then fun _ _ => tot_is _
    have un : Tot fun n => unaryF e n d l := by
      apply tot_up
      simp only [unaryF]
      by_cases h1 : isTok [45] l = true
      · simp only [h1, if_true]
        refine tot_then fun r hr => ?_
        have k0 := open_len hr
        exact tot_and (un_up r) (fun n a l => Le.refl _) (ih (N - 1) (by omega) r (by omega) (d + 1)).2.2.1 fun n a l _ => tot_is _
      · simp only [h1]
        by_cases h2 : isTok [33] l = true
        · simp only [h2, if_true]
          refine tot_then fun r hr => ?_
          have k0 := open_len hr
          exact tot_and (un_up r) (fun n a l => Le.refl _) (ih (N - 1) (by omega) r (by omega) (d + 1)).2.2.1 fun n a l _ => tot_is _
        · simp only [h2]
          by_cases h3 : isTok [40] l = true
          · simp only [h3, if_true]
            exact he
          · simp only [h3]
            exact tot_is _
    refine ⟨fun k x => lo l hl k x, he, un, fun k hk => ?_⟩
    have key : ∀ j k, k + j = 5 → Tot fun n => exprF e n k d l := by
      intro j
      induction j with
      | zero =>
        intro k hk
        apply tot_up
        simp only [exprF, show k = 5 by omega, if_true]
        exact un
      | succ j ihj =>
        intro k hk
        apply tot_up
        simp only [exprF, show ¬ k = 5 by omega, if_false]
        refine tot_and (ex_up (k + 1) l) (fun n a l => lo_up k a l n) (ihj (k + 1) (by omega)) fun n a q h => ?_
        have k1 := (expr_len n).1 _ _ _ _ _ h
        exact lo q (by omega) k a
    exact key (5 - k) k (by omega)
theorem ex_tot (k d : Nat) (l : List Tok) (hk : k ≤ 5) : Tot fun n => exprF e n k d l := (expr_tot l.length l (Nat.le_refl _) d).2.2.2 k hk
theorem he_tot (d : Nat) (l : List Tok) : Tot fun n => heldF e n d l := (expr_tot l.length l (Nat.le_refl _) d).2.1
theorem et_tot {β : Type} {d : Nat} {s : List UInt8} {l : List Tok} {g : Nat → Nd → List Tok → Option (TRes β)} (ug : ∀ n a l, Le (g n a l) (g (n + 1) a l)) (hg : ∀ a l, Tot fun n => g n a l) : Tot fun n => exprThen e n d s l (g n) :=
  tot_and (ex_up 0 l) (fun n a l => thenT_le fun _ => ug _ _ _) (ex_tot 0 d l (by omega)) fun _ _ _ _ => tot_then fun _ _ => hg _ _
theorem assign_tot (d : Nat) (l : List Tok) : Tot fun n => assignF e n d l := by
  unfold assignF
  refine tot_name fun s q _ => tot_then fun r _ => ?_
  by_cases h : isTok wCas r = true
  · simp only [h, if_true]
    exact tot_then fun _ _ => tot_then fun _ _ => tot_name fun _ _ _ => tot_then fun _ _ => et_tot (fun n a l => exprThen_le fun _ _ => Le.refl _) fun _ _ => et_tot (fun n a l => Le.refl _) fun _ _ => tot_then fun _ _ => tot_is _
  · simp only [h]
    exact et_tot (fun n a l => Le.refl _) fun _ _ => tot_is _
theorem plain_tot (d : Nat) (l : List Tok) : Tot fun n => plainF e n d l := by
  unfold plainF
  by_cases h1 : wordOf l = wInt
  · simp only [h1, if_true]
    exact tot_name fun _ _ _ => tot_then fun _ _ => et_tot (fun n a l => Le.refl _) fun _ _ => tot_is _
  · simp only [h1, if_false]
    by_cases h2 : wordOf l = wPrint
    · simp only [h2, if_true]
      exact tot_and (he_up _) (fun n a l => Le.refl _) (he_tot _ _) fun _ _ _ _ => tot_then fun _ _ => tot_is _
    · simp only [h2, if_false]
      by_cases h3 : wordOf l = wLock ∨ wordOf l = wUnlock
      · simp only [h3, if_true]
        exact tot_then fun _ _ => tot_name fun _ _ _ => tot_then fun _ _ => tot_then fun _ _ => tot_is _
      · simp only [h3, if_false]
        by_cases h4 : wordOf l = wFence
        · simp only [h4, if_true]
          exact tot_then fun _ _ => tot_is _
        · simp only [h4, if_false]
          exact assign_tot d l
end
end

end Go.Proofs.YtclnjhffcfkihaeGreatDoor
