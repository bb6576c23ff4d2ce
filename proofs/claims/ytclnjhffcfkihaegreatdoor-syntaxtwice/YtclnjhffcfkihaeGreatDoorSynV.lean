/-
  What is read as a statement or a block is one, and not too deep.
-/
import Derived.Test.YtclnjhffcfkihaeGreatDoorSynB
namespace Go.Proofs.YtclnjhffcfkihaeGreatDoor
section
variable {e : Int}
theorem ok_inj {α : Type} {a b : α} {l r : List Tok} (h : (some (Except.ok (a, l)) : Option (TRes α)) = some (.ok (b, r))) : a = b ∧ l = r := by
  have := Except.ok.inj (Option.some.inj h)
  simpa using this
theorem kind_x {x : Nd} (h : WfX x) : 15 ≤ kindN x ∧ WfN x ∧ depN x = depX x := by
  match x, h with
  | .mk k n p t ks, h =>
    have hk : 15 ≤ k := by
      unfold WfX at h
      rcases h with h | ⟨_, _, h⟩
      · omega
      · match ks, h with
        | [], h => omega
        | [a], h => omega
        | [a, b], h => omega
    exact ⟨hk, by rw [WfN, if_pos hk]; exact h, by rw [depN, if_pos hk]⟩
theorem exprThen_wf {β : Type} {n d : Nat} {s : List UInt8} {l r : List Tok} {f : Nd → List Tok → Option (TRes β)} {y : β} (hd : d ≤ 20) (hl : ToksOk l) (h : exprThen e n d s l f = some (.ok (y, r))) : ∃ x q, WfX x ∧ d + depX x ≤ 20 ∧ ToksOk q ∧ f x q = some (.ok (y, r)) := by
  unfold exprThen at h
  obtain ⟨x, q, hx, h⟩ := andT_ok h
  obtain ⟨p, hp, h⟩ := thenT_ok h
  obtain ⟨_, rfl⟩ := take_ok hp
  obtain ⟨w1, w2, w3⟩ := (expr_wf e n).1 0 d l x q (by omega) hd hl hx
  have h0 := bind_nn w1
  unfold depS at w2
  rw [if_neg (by simp; exact h0)] at w2
  exact ⟨x, q.tail, w1, w2, w3.tail, h⟩

/-- What is well of a statement. -/
def GoodS (d : Nat) (x : Nd) (r : List Tok) : Prop := WfN x ∧ 6 ≤ kindN x ∧ kindN x ≤ 14 ∧ d + depN x ≤ 20 ∧ ToksOk r
theorem good_one {d : Nat} {k p : Int} {t : List UInt8} {x : Nd} {r : List Tok} (hk : k = 6 ∨ k = 7) (ht : NameOk t) (hx : WfX x) (hd : d + depX x ≤ 20) (hr : ToksOk r) : GoodS d (.mk k 0 p t [x]) r := by
  obtain ⟨h1, h2, h3⟩ := kind_x hx
  refine ⟨?_, show 6 ≤ k by omega, show k ≤ 14 by omega, ?_, hr⟩
  · rw [WfN, if_neg (by omega)]
    refine ⟨rfl, ?_, by rw [WfNs, WfNs]; exact ⟨h2, trivial⟩⟩
    rcases hk with rfl | rfl
    · exact Or.inr (Or.inl ⟨rfl, ht, _, rfl, h1⟩)
    · exact Or.inr (Or.inr (Or.inl ⟨rfl, ht, _, rfl, h1⟩))
  · rw [depN, if_neg (by omega)]
    simp only [depK, depNs, h3, maxL]
    rw [if_neg (by omega), if_pos hk]
    omega
theorem assign_wf {n d : Nat} {l r : List Tok} {x : Nd} (hd : d ≤ 20) (hl : ToksOk l) (h : assignF e n d l = some (.ok (x, r))) : GoodS d x r := by
  unfold assignF at h
  obtain ⟨s, q, hs, h⟩ := nameThen_ok h
  obtain ⟨hs1, rfl⟩ := name_ok hl hs
  obtain ⟨q, hq, h⟩ := thenT_ok h
  obtain ⟨_, rfl⟩ := take_ok hq
  have hl2 := hl.tail.tail
  split at h
  · obtain ⟨q, hq, h⟩ := thenT_ok h
    obtain ⟨_, rfl⟩ := take_ok hq
    obtain ⟨q, hq, h⟩ := thenT_ok h
    obtain ⟨_, hd2, rfl⟩ := open_ok hq
    obtain ⟨s2, q, hq, h⟩ := nameThen_ok h
    obtain ⟨hs2, rfl⟩ := name_ok hl2.tail.tail hq
    obtain ⟨q, hq, h⟩ := thenT_ok h
    obtain ⟨_, rfl⟩ := take_ok hq
    obtain ⟨b, q, hb1, hb2, hb3, h⟩ := exprThen_wf (by omega) hl2.tail.tail.tail.tail h
    obtain ⟨c, q, hc1, hc2, hc3, h⟩ := exprThen_wf (by omega) hb3 h
    obtain ⟨q2, hq, h⟩ := thenT_ok h
    obtain ⟨_, rfl⟩ := take_ok hq
    obtain ⟨rfl, rfl⟩ := ok_inj h
    obtain ⟨b4, b5, b6⟩ := kind_x hb1
    obtain ⟨c4, c5, c6⟩ := kind_x hc1
    have hn : WfX (.mk 16 0 (posOf e l.tail.tail.tail.tail) s2 []) := by unfold WfX; exact Or.inr ⟨by decide, rfl, rfl, hs2⟩
    obtain ⟨n4, n5, n6⟩ := kind_x hn
    refine ⟨?_, show (6 : Int) ≤ 8 by decide, show (8 : Int) ≤ 14 by decide, ?_, hc3.tail⟩
    · rw [WfN, if_neg (by decide)]
      refine ⟨rfl, Or.inr (Or.inr (Or.inr (Or.inl ⟨rfl, hs1, _, _, rfl, b4, c4⟩))), ?_⟩
      rw [WfNs, WfNs, WfNs, WfNs]
      exact ⟨n5, b5, c5, trivial⟩
    · rw [depN, if_neg (by decide)]
      simp only [depK, depNs, b6, c6, n6, maxL, depX]
      simp
      omega
  · obtain ⟨b, q, hb1, hb2, hb3, h⟩ := exprThen_wf hd hl2 h
    obtain ⟨rfl, rfl⟩ := ok_inj h
    exact good_one (Or.inr rfl) hs1 hb1 hb2 hb3
theorem held_wf {n d : Nat} {l r : List Tok} {x : Nd} (hd : d ≤ 20) (hl : ToksOk l) (h : heldF e n d l = some (.ok (x, r))) : WfX x ∧ d + 1 + depX x ≤ 20 ∧ ToksOk r := (expr_wf e n).2.2.2 d l x r hd hl h
theorem plain_wf {n d : Nat} {l r : List Tok} {x : Nd} (hd : d ≤ 20) (hl : ToksOk l) (h : plainF e n d l = some (.ok (x, r))) : GoodS d x r := by
  unfold plainF at h
  split at h
  · obtain ⟨s, q, hs, h⟩ := nameThen_ok h
    obtain ⟨hs1, rfl⟩ := name_ok hl.tail hs
    obtain ⟨q, hq, h⟩ := thenT_ok h
    obtain ⟨_, rfl⟩ := take_ok hq
    obtain ⟨b, q, hb1, hb2, hb3, h⟩ := exprThen_wf hd hl.tail.tail.tail h
    obtain ⟨rfl, rfl⟩ := ok_inj h
    exact good_one (Or.inl rfl) hs1 hb1 hb2 hb3
  · split at h
    · obtain ⟨y, q, hy, h⟩ := andT_ok h
      obtain ⟨w1, w2, w3⟩ := held_wf hd hl.tail hy
      obtain ⟨q2, hq, h⟩ := thenT_ok h
      obtain ⟨_, rfl⟩ := take_ok hq
      obtain ⟨rfl, rfl⟩ := ok_inj h
      obtain ⟨y1, y2, y3⟩ := kind_x w1
      refine ⟨?_, show (6 : Int) ≤ 11 by decide, show (11 : Int) ≤ 14 by decide, ?_, w3.tail⟩
      · rw [WfN, if_neg (by decide)]
        exact ⟨rfl, Or.inr (Or.inr (Or.inr (Or.inr (Or.inr (Or.inr (Or.inl ⟨rfl, rfl, _, rfl, y1⟩)))))), by rw [WfNs, WfNs]; exact ⟨y2, trivial⟩⟩
      · rw [depN, if_neg (by decide)]
        simp only [depK, depNs, y3, maxL]
        simp
        omega
    · split at h
      · obtain ⟨q, hq, h⟩ := thenT_ok h
        obtain ⟨_, hd2, rfl⟩ := open_ok hq
        obtain ⟨s, q, hs, h⟩ := nameThen_ok h
        obtain ⟨hs1, rfl⟩ := name_ok hl.tail.tail hs
        obtain ⟨q, hq, h⟩ := thenT_ok h
        obtain ⟨_, rfl⟩ := take_ok hq
        obtain ⟨q, hq, h⟩ := thenT_ok h
        obtain ⟨_, rfl⟩ := take_ok hq
        obtain ⟨rfl, rfl⟩ := ok_inj h
        obtain ⟨k, hk⟩ : ∃ k : Int, (if wordOf l = wLock then (12 : Int) else 13) = k := ⟨_, rfl⟩
        have hk2 : k = 12 ∨ k = 13 := by rw [← hk]; split <;> simp
        rw [hk]
        refine ⟨?_, show 6 ≤ k by omega, show k ≤ 14 by omega, ?_, hl.tail.tail.tail.tail.tail⟩
        · rw [WfN, if_neg (by omega)]
          exact ⟨rfl, Or.inr (Or.inr (Or.inr (Or.inr (Or.inr (Or.inr (Or.inr (Or.inl ⟨hk2, hs1, rfl⟩))))))), by rw [WfNs]; trivial⟩
        · rw [depN, if_neg (by omega)]
          have : depK k (depNs []) = 1 := by rcases hk2 with rfl | rfl <;> rfl
          rw [this]
          omega
      · split at h
        · obtain ⟨q, hq, h⟩ := thenT_ok h
          obtain ⟨_, rfl⟩ := take_ok hq
          obtain ⟨rfl, rfl⟩ := ok_inj h
          refine ⟨?_, show (6 : Int) ≤ 14 by decide, show (14 : Int) ≤ 14 by decide, ?_, hl.tail.tail⟩
          · rw [WfN, if_neg (by decide)]
            exact ⟨rfl, Or.inr (Or.inr (Or.inr (Or.inr (Or.inr (Or.inr (Or.inr (Or.inr ⟨rfl, rfl, rfl⟩))))))), by rw [WfNs]; trivial⟩
          · rw [depN, if_neg (by decide)]
            simpa [depK, depNs] using hd
        · exact assign_wf hd hl h

/-- What is well of a block. -/
def GoodB (d : Nat) (x : Nd) (r : List Tok) : Prop := WfN x ∧ kindN x = 5 ∧ d + depN x ≤ 20 ∧ ToksOk r
def GoodK (d : Nat) (ks : List Nd) : Prop := ∀ x, x ∈ ks → WfN x ∧ 6 ≤ kindN x ∧ kindN x ≤ 14 ∧ d + depN x ≤ 20
theorem wfNs_of : ∀ {ks : List Nd}, (∀ x, x ∈ ks → WfN x) → WfNs ks
  | [], _ => by rw [WfNs]; trivial
  | y :: r, h => by rw [WfNs]; exact ⟨h y (by simp), wfNs_of fun x hx => h x (by simp [hx])⟩
theorem maxL_of {m : Nat} : ∀ {ks : List Nd}, (∀ x, x ∈ ks → depN x ≤ m) → maxL (depNs ks) ≤ m
  | [], _ => by rw [depNs, maxL]; omega
  | y :: r, h => by
    rw [depNs, maxL]
    have h1 := h y (by simp)
    have h2 := maxL_of (ks := r) (m := m) fun x hx => h x (by simp [hx])
    omega
theorem good_if {d : Nat} {p : Int} {x b : Nd} {k : Int} {r r1 : List Tok} (hk : k = 9 ∨ k = 10) (hx : WfX x) (hd : d + 1 + depX x ≤ 20) (hb : GoodB d b r1) (hr : ToksOk r) : GoodS d (.mk k 0 p [] [x, b]) r := by
  obtain ⟨h1, h2, h3⟩ := kind_x hx
  obtain ⟨b1, b2, b3, _⟩ := hb
  refine ⟨?_, show 6 ≤ k by omega, show k ≤ 14 by omega, ?_, hr⟩
  · rw [WfN, if_neg (by omega)]
    refine ⟨rfl, ?_, by rw [WfNs, WfNs, WfNs]; exact ⟨h2, b1, trivial⟩⟩
    rcases hk with rfl | rfl
    · exact Or.inr (Or.inr (Or.inr (Or.inr (Or.inl ⟨rfl, rfl, _, h1, Or.inl (by simp [b2])⟩))))
    · exact Or.inr (Or.inr (Or.inr (Or.inr (Or.inr (Or.inl ⟨rfl, rfl, _, h1, by simp [b2]⟩)))))
  · rw [depN, if_neg (by omega)]
    simp only [depK, depNs, h3, maxL, List.getD_cons_zero, List.drop_succ_cons, List.drop_zero]
    rw [if_neg (by omega), if_neg (by omega), if_pos hk]
    omega
theorem good_else {d : Nat} {p : Int} {x b c : Nd} {r r1 r2 : List Tok} (hx : WfX x) (hd : d + 1 + depX x ≤ 20) (hb : GoodB d b r1) (hc : GoodB d c r2) (hr : ToksOk r) : GoodS d (.mk 9 0 p [] [x, b, c]) r := by
  obtain ⟨h1, h2, h3⟩ := kind_x hx
  obtain ⟨b1, b2, b3, _⟩ := hb
  obtain ⟨c1, c2, c3, _⟩ := hc
  refine ⟨?_, show (6 : Int) ≤ 9 by decide, show (9 : Int) ≤ 14 by decide, ?_, hr⟩
  · rw [WfN, if_neg (by decide)]
    exact ⟨rfl, Or.inr (Or.inr (Or.inr (Or.inr (Or.inl ⟨rfl, rfl, _, h1, Or.inr (by simp [b2, c2])⟩)))), by rw [WfNs, WfNs, WfNs, WfNs]; exact ⟨h2, b1, c1, trivial⟩⟩
  · rw [depN, if_neg (by decide)]
    simp only [depK, depNs, h3, maxL, List.getD_cons_zero, List.drop_succ_cons, List.drop_zero]
    rw [if_neg (by omega), if_neg (by omega), if_pos (Or.inl trivial)]
    omega

/-- WHAT IS READ AS A STATEMENT OR A BLOCK IS ONE, and not too deep. -/
theorem stmt_wf (e : Int) : ∀ n, (∀ (d : Nat) l x r, d ≤ 20 → ToksOk l → stmtF e n d l = some (.ok (x, r)) → GoodS d x r) ∧
    (∀ (d : Nat) l x r, d ≤ 20 → ToksOk l → blockF e n d l = some (.ok (x, r)) → GoodB d x r) ∧
    (∀ (d : Nat) ks l ks' r, d ≤ 20 → ToksOk l → GoodK d ks → stmtsF e n d ks l = some (.ok (ks', r)) → GoodK d ks' ∧ ToksOk r)
  | 0 => ⟨fun _ _ _ _ _ _ h => (by rw [stmtF] at h; cases h), fun _ _ _ _ _ _ h => (by rw [blockF] at h; cases h), fun _ _ _ _ _ _ _ _ h => (by rw [stmtsF] at h; cases h)⟩
  | n + 1 => by
    obtain ⟨h1, h2, h3⟩ := stmt_wf e n
    refine ⟨fun d l x r hd hl h => ?_, fun d l x r hd hl h => ?_, fun d ks l ks' r hd hl hk h => ?_⟩
    · rw [stmtF] at h
      split at h
      · obtain ⟨y, q, hy, h⟩ := andT_ok h
        obtain ⟨w1, w2, w3⟩ := held_wf hd hl.tail hy
        obtain ⟨b, q2, hb, h⟩ := andT_ok h
        have gb := h2 d q b q2 hd w3 hb
        split at h
        · obtain ⟨c, q3, hc, h⟩ := andT_ok h
          have gc := h2 d q2.tail c q3 hd gb.2.2.2.tail hc
          obtain ⟨rfl, rfl⟩ := ok_inj h
          exact good_else w1 w2 gb gc gc.2.2.2
        · obtain ⟨rfl, rfl⟩ := ok_inj h
          exact good_if (Or.inl rfl) w1 w2 gb gb.2.2.2
      · split at h
        · obtain ⟨y, q, hy, h⟩ := andT_ok h
          obtain ⟨w1, w2, w3⟩ := held_wf hd hl.tail hy
          obtain ⟨b, q2, hb, h⟩ := andT_ok h
          have gb := h2 d q b q2 hd w3 hb
          obtain ⟨rfl, rfl⟩ := ok_inj h
          exact good_if (Or.inr rfl) w1 w2 gb gb.2.2.2
        · exact plain_wf hd hl h
    · rw [blockF] at h
      obtain ⟨q, hq, h⟩ := thenT_ok h
      obtain ⟨_, hd2, rfl⟩ := open_ok hq
      obtain ⟨ks, q, hks, h⟩ := andT_ok h
      obtain ⟨g1, g2⟩ := h3 (d + 1) [] l.tail ks q (by omega) hl.tail (fun _ hx => by cases hx) hks
      obtain ⟨q2, hq, h⟩ := thenT_ok h
      obtain ⟨_, rfl⟩ := take_ok hq
      obtain ⟨rfl, rfl⟩ := ok_inj h
      refine ⟨?_, rfl, ?_, g2.tail⟩
      · rw [WfN, if_neg (by decide)]
        refine ⟨rfl, Or.inl ⟨rfl, rfl, fun q hq => ?_⟩, wfNs_of fun x hx => (g1 x hx).1⟩
        obtain ⟨x, hx, rfl⟩ := List.mem_map.1 hq
        exact ⟨(g1 x hx).2.1, (g1 x hx).2.2.1⟩
      · rw [depN, if_neg (by decide)]
        simp only [depK, if_true]
        have := maxL_of (ks := ks) (m := 20 - (d + 1)) fun x hx => by have := (g1 x hx).2.2.2; omega
        omega
    · rw [stmtsF] at h
      split at h
      · obtain ⟨rfl, rfl⟩ := ok_inj h
        exact ⟨hk, hl⟩
      · obtain ⟨x, q, hx, h⟩ := andT_ok h
        obtain ⟨g1, g2, g3, g4, g5⟩ := h1 d l x q hd hl hx
        refine h3 d (ks ++ [x]) q ks' r hd g5 (fun y hy => ?_) h
        rcases List.mem_append.1 hy with hy | hy
        · exact hk y hy
        · obtain rfl : y = x := by simpa using hy
          exact ⟨g1, g2, g3, g4⟩
end

end Go.Proofs.YtclnjhffcfkihaeGreatDoor
