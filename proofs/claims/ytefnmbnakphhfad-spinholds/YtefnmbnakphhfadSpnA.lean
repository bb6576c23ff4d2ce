/-
  Orders anew, by the program: what is known of the new program while it is made.
  Words in place of locks: what orders become, as plain functions.
-/
import Derived.Test.YtefnmbnakphhfadFLead
import Derived.Test.YtefnmbnakphhfadAppB
import Derived.Test.YtefnmbnakphhfadRFind
import Derived.Test.YtefnmbnakphhfadSpnP
import Derived.Test.YtefnmbnakphhfadBuild4
namespace Go.Proofs.Ytefnmbnakphhfad
section
open Go.RowKit

theorem grown_block {w w' : World} {r : Option Nat} (h : w.grownBy w' r) {g : Nat} (hg : g < w.heap.size) (hne : r ≠ some g) : w'.heap[g]? = w.heap[g]? := h.block g hg (fun e => hne e.symm)
/-- A row stays where another one grows. -/
theorem own_grown {w w' : World} {r : Option Nat} {B : Nat} {e : TypeId} {size : Nat} {v : Value} {n : Nat} {xs : List Value} (h : w.ownsRow B e size v n xs) (hg : w.grownBy w' r) (hne : ∀ g, v.ownBlock = some g → r ≠ some g) : w'.ownsRow B e size v n xs :=
  fam_keeps h fun g e => grown_block hg (h.lt g e).2 (hne g e)
/-- What is known while a thread's orders are made: from the world S on. j orders, i places. -/
structure InI (S : World) (b : Nat → List I4) (j i : Nat) (W : World) (cv pv : Value) : Prop where
  low : Below S.heap.size S W
  code : OwnC W S.heap.size cv (rawR b j)
  pls : W.ownsRow S.heap.size 3 1 pv i (intsV ((List.range i).map fun k => (plR b k : Int)))
  apart : ∀ g, cv.ownBlock = some g → pv.ownBlock ≠ some g
section
variable {S W : World} {b : Nat → List I4} {j i : Nat} {cv pv : Value}
theorem InI.start (S : World) (b : Nat → List I4) : InI S b 0 0 S nilV nilV := ⟨Below.refl _ _, World.ownsRow_nil _ _ _ _, World.ownsRow_nil _ _ _ _, fun g h => by simp [Value.ownBlock] at h⟩
theorem InI.below (h : InI S b j i W cv pv) {W' : World} (hb : Below W.heap.size W W') : InI S b j i W' cv pv := ⟨h.low.trans (hb.mono h.low.size), h.code.below hb, owns_below2 h.pls hb, h.apart⟩
/-- One place more. -/
theorem InI.place (h : InI S b j i W cv pv) {V : World} (hb : Below W.heap.size W V) {q : Nat} (hq : q = plR b i) (hi : i ≤ 1000) :
    ∃ g cap w3, (AppS #[23, 23] 23 #[pv, .slice (some ⟨V.heap.size, 0, none⟩) 1 1]).run Try.prog (V.alloc (.cells #[.int .i64 q] 3)) = .ok (.slice (some ⟨g, 0, none⟩) (i + 1) cap) w3 ∧ InI S b j (i + 1) w3 cv (.slice (some ⟨g, 0, none⟩) (i + 1) cap) ∧ Below S.heap.size S w3 := by
  have h0 := h.below hb
  obtain ⟨g, cap, w3, r1, r2, r3, r4⟩ := app_row (T := 23) Try.underlying23 infoI rfl (by omega) h0.pls (Below.refl _ V) h0.low.size 1 #[.int .i64 q] rfl (by simp [Value.oneCell']) (by omega) (by omega) (by omega)
  have hl := h0.low.size
  have hlow : Below S.heap.size S w3 := (h0.low.alloc hl _).grown r3 (by simp; omega) (fun k hk => by have := (h0.pls.lt k hk).1; omega)
  refine ⟨g, cap, w3, r1, ⟨hlow, ?_, ?_, fun k hk => ?_⟩, hlow⟩
  · exact own_grown (show (V.alloc (.cells #[.int .i64 q] 3)).ownsRow _ _ _ _ _ _ from owns_below2 h0.code ((Below.refl _ _).alloc (Nat.le_refl _) _)) r3 (fun k hk e => h0.apart k hk e)
  · have e : intsV ((List.range (i + 1)).map fun k => (plR b k : Int)) = intsV ((List.range i).map fun k => (plR b k : Int)) ++ [.int .i64 q] := by
      rw [List.range_succ, List.map_append, hq]
      simp [intsV]
    rw [e]
    exact r2
  · intro e
    have eg : g = k := by simpa [Value.ownBlock] using e
    subst eg
    rcases r4 with r4 | r4
    · exact h0.apart g hk r4
    · have := (h0.code.lt g hk).2
      omega
/-- More orders. -/
theorem InI.more (h : InI S b j i W cv pv) {V : World} (hb : Below W.heap.size W V) (sa : Option Addr) (c : Nat) (hs : SrcL V sa (cellsT (b j))) (hl : plR b j + (b j).length ≤ 1000000) :
    ∃ v w3, (AppS #[48, 48] 48 #[cv, .slice sa (b j).length c]).run Try.prog V = .ok v w3 ∧ InI S b (j + 1) i w3 v pv ∧ Below S.heap.size S w3 := by
  have h0 := h.below hb
  obtain ⟨v, w3, r1, r2, r3, r4⟩ := app_code h0.code h0.low.size sa c (b j) hs (by rw [raw_len]; exact hl)
  have hlow : Below S.heap.size S w3 := h0.low.grown r3 h0.low.size (fun k hk => (h0.code.lt k hk).1)
  refine ⟨v, w3, r1, ⟨hlow, r2, own_grown h0.pls r3 (fun g e1 e2 => h0.apart g e2 e1), fun g e1 e2 => ?_⟩, hlow⟩
  rcases r4 with r4 | r4
  · exact h0.apart g (by rw [← r4]; exact e1) e2
  · rw [r4] at e1
    have := (h0.pls.lt g e2).2
    have : V.heap.size = g := by simpa using e1
    omega
/-- The places lie there. -/
theorem InI.sis (h : InI S b j i W cv pv) {a : Option Addr} {c : Nat} (hv : pv = .slice a i c) : SIs W a ((List.range i).map fun k => (plR b k : Int)) := fun k hk => by
  have hk' : k < i := by simpa using hk
  obtain ⟨g, cap, e, hg, _⟩ := fam_block h.pls (by omega)
  rw [hv] at e
  simp only [Value.slice.injEq] at e
  refine ⟨g, 0, e.1, ?_⟩
  have := fam_cell h.pls hg (intsV_at (l := (List.range i).map fun k => (plR b k : Int)) hk)
  rw [Nat.zero_add]
  exact this
end
/-- What is known of the new program while it is made: from the world S on, its box at qb, k threads. -/
structure RwI (S : World) (qb : Nat) (uv : Value) (words : List Int) (lk rg : Int) (b : Nat → Nat → List I4) (L : Nat → Nat) (k : Nat) (W : World) (cv : Value) (tv : List Value) : Prop where
  low : Below S.heap.size S W
  hq : S.heap.size ≤ qb
  box : W.heap[qb]? = some (.cells #[cv, uv, .int .i64 lk, .int .i64 rg] 25)
  words : W.ownsRow S.heap.size 3 1 uv words.length (intsV words)
  wq : uv.ownBlock ≠ some qb
  code : W.ownsRow S.heap.size 48 1 cv k tv
  cq : cv.ownBlock ≠ some qb
  cw : ∀ g, uv.ownBlock = some g → cv.ownBlock ≠ some g
  thr : ∀ t, t < k → OwnC W S.heap.size (tv.getD t nilV) (codeR (b t) (L t)) ∧ ∀ g, (tv.getD t nilV).ownBlock = some g → g ≠ qb ∧ cv.ownBlock ≠ some g
section
variable {S W : World} {qb : Nat} {uv cv : Value} {words : List Int} {lk rg : Int} {b : Nat → Nat → List I4} {L : Nat → Nat} {k : Nat} {tv : List Value}
theorem RwI.below (h : RwI S qb uv words lk rg b L k W cv tv) {W' : World} (hb : Below W.heap.size W W') : RwI S qb uv words lk rg b L k W' cv tv :=
  ⟨h.low.trans (hb.mono h.low.size), h.hq, (hb.block _ (box_lt h.box)).trans h.box, owns_below2 h.words hb, h.wq, owns_below2 h.code hb, h.cq, h.cw, fun t ht => ⟨(h.thr t ht).1.below hb, (h.thr t ht).2⟩⟩
/-- One thread more. -/
theorem RwI.push (h : RwI S qb uv words lk rg b L k W cv tv) {V : World} (hb : Below W.heap.size W V) {v : Value} {T : Nat} (hT : W.heap.size ≤ T) (hv : OwnC V T v (codeR (b k) (L k))) (hk : k ≤ 1000) :
    ∃ g cap w3, (AppS #[22, 22] 22 #[cv, .slice (some ⟨V.heap.size, 0, none⟩) 1 1]).run Try.prog (V.alloc (.cells #[v] 48)) = .ok (.slice (some ⟨g, 0, none⟩) (k + 1) cap) w3 ∧ w3.heap[qb]? = some (.cells #[cv, uv, .int .i64 lk, .int .i64 rg] 25) ∧ Below S.heap.size S w3 ∧
      RwI S qb uv words lk rg b L (k + 1) (w3.setCell ⟨qb, 0, none⟩ (.slice (some ⟨g, 0, none⟩) (k + 1) cap)) (.slice (some ⟨g, 0, none⟩) (k + 1) cap) (tv ++ [v]) := by
  have h0 := h.below hb
  have hl := h0.low.size
  have hwq : qb < W.heap.size := box_lt h.box
  have hone : v.oneCell' = true := by
    rcases hv.2 with ⟨rfl, _⟩ | ⟨g, cap, cur, rfl, _⟩ <;> rfl
  obtain ⟨g, cap, w3, r1, r2, r3, r4⟩ := app_row (T := 22) Try.underlying22 infoOs rfl (by omega) h0.code (Below.refl _ V) hl 1 #[v] rfl (by simp [hone]) (by omega) (by omega) (by omega)
  have hbA : Below V.heap.size V (V.alloc (.cells #[v] 48)) := (Below.refl _ _).alloc (Nat.le_refl _) _
  have hlow : Below S.heap.size S w3 := (h0.low.alloc hl _).grown r3 (by simp; omega) (fun q hq => (h0.code.lt q hq).1)
  have hq3 : w3.heap[qb]? = some (.cells #[cv, uv, .int .i64 lk, .int .i64 rg] 25) := by
    rw [grown_block r3 (by simp; have := box_lt h0.box; omega) h0.cq]
    exact (hbA.block _ (box_lt h0.box)).trans h0.box
  have hgq : g ≠ qb := fun e => by
    rcases r4 with r4 | r4
    · exact h0.cq (by rw [r4, e])
    · have := box_lt h0.box
      omega
  have hold : ∀ x, x < V.heap.size → cv.ownBlock ≠ some x → x ≠ g := fun x hx hne e => by
    rcases r4 with r4 | r4
    · exact hne (by rw [r4, e])
    · omega
  have htl : tv.length = k := by have := h.code.1; omega
  refine ⟨g, cap, w3, r1, hq3, hlow, ⟨hlow.setCell h.hq _, h.hq, ?_, ?_, h.wq, ?_, ?_, fun x hx e => ?_, fun t ht => ?_⟩⟩
  · rw [heap_set_same hq3]
    rfl
  · exact owns_far (own_grown (owns_below2 h0.words hbA) r3 (fun x hx => h0.cw x hx)) h.wq
  · refine owns_far r2 ?_
    simp only [Value.ownBlock]
    exact fun e => hgq (by simpa using e)
  · simp only [Value.ownBlock]
    exact fun e => hgq (by simpa using e)
  · have : g = x := by simpa [Value.ownBlock] using e
    exact hold x (h0.words.lt x hx).2 (h0.cw x hx) this.symm
  · by_cases e : t = k
    · subst e
      have e1 : (tv ++ [v]).getD t nilV = v := by simp [List.getD, ← htl]
      rw [e1]
      have hvq : ∀ x, v.ownBlock = some x → x ≠ qb ∧ x < V.heap.size ∧ cv.ownBlock ≠ some x := fun x hx => by
        have h1 := hv.lt x hx
        refine ⟨by omega, h1.2, fun e2 => ?_⟩
        have := (h.code.lt x e2).2
        omega
      refine ⟨owns_far (own_grown (owns_below2 (own_low hv (by have := h.low.size; omega)) hbA) r3 (fun x hx => (hvq x hx).2.2)) (fun e2 => (hvq qb e2).1 rfl), fun x hx => ⟨(hvq x hx).1, fun e2 => ?_⟩⟩
      have : g = x := by simpa [Value.ownBlock] using e2
      exact hold x (hvq x hx).2.1 (hvq x hx).2.2 this.symm
    · have ht' : t < k := by omega
      have e1 : (tv ++ [v]).getD t nilV = tv.getD t nilV := by simp [List.getD, List.getElem?_append_left (show t < tv.length by omega)]
      rw [e1]
      have h1 := h0.thr t ht'
      refine ⟨owns_far (own_grown (owns_below2 h1.1 hbA) r3 (fun x hx => (h1.2 x hx).2)) (fun e2 => (h1.2 qb e2).1 rfl), fun x hx => ⟨(h1.2 x hx).1, fun e2 => ?_⟩⟩
      have : g = x := by simpa [Value.ownBlock] using e2
      exact hold x (h1.1.lt x hx).2 (h1.2 x hx).2 this.symm
end

theorem owns_two {W : World} {B B' : Nat} {e e' : TypeId} {size size' : Nat} {v v' : Value} {n n' : Nat} {xs xs' : List Value} (h : W.ownsRow B e size v n xs) (h' : W.ownsRow B' e' size' v' n' xs') (hne : e ≠ e') {g : Nat} (h1 : v.ownBlock = some g) : v'.ownBlock ≠ some g := fun h2 => by
  rcases h.2 with ⟨h0, _⟩ | ⟨g1, cap, cur, hv, _, hh, _⟩
  · rw [h0] at h1; simp [Value.ownBlock] at h1
  rcases h'.2 with ⟨h0, _⟩ | ⟨g2, cap2, cur2, hv2, _, hh2, _⟩
  · rw [h0] at h2; simp [Value.ownBlock] at h2
  rw [hv] at h1
  rw [hv2] at h2
  have e1 : g1 = g := by simpa [Value.ownBlock] using h1
  have e2 : g2 = g := by simpa [Value.ownBlock] using h2
  rw [e1] at hh
  rw [e2, hh] at hh2
  simp only [Option.some.injEq, Obj.cells.injEq] at hh2
  exact hne hh2.2.1
end

section
open Go.RowKit

/-- What takes a lock. -/
def takeL (wd at' : Int) : List I4 := [(1, 6, 0, 0), (1, 7, 1, 0), (13, wd, 6, 7), (15, 6, at', 0)]
/-- What lets a lock free. -/
def giveL (wd : Int) : List I4 := [(1, 6, 0, 0), (9, wd, 6, 0)]
/-- What an order becomes. -/
def bSpin (m : Nat) (X : Nat → Nat → Nat → Int) : Nat → Nat → List I4 := fun t i =>
  if X t i 0 = 17 then takeL ((m : Int) + X t i 1) i else if X t i 0 = 18 then giveL ((m : Int) + X t i 1) else [ordAt X t i]
section
variable {m : Nat} {X : Nat → Nat → Nat → Int} {t i : Nat}
theorem spin_17 (h : X t i 0 = 17) : bSpin m X t i = takeL ((m : Int) + X t i 1) i := by unfold bSpin; rw [if_pos h]
theorem spin_18 (h : X t i 0 = 18) : bSpin m X t i = giveL ((m : Int) + X t i 1) := by unfold bSpin; rw [if_neg (by omega), if_pos h]
theorem spin_no (h : X t i 0 ≠ 17) (h' : X t i 0 ≠ 18) : bSpin m X t i = [ordAt X t i] := by unfold bSpin; rw [if_neg h, if_neg h']
theorem spin_len : (bSpin m X t i).length ≤ 4 ∧ 1 ≤ (bSpin m X t i).length := by
  unfold bSpin
  split
  · exact ⟨by simp [takeL], by simp [takeL]⟩
  · split
    · exact ⟨by simp [giveL], by simp [giveL]⟩
    · exact ⟨by simp, by simp⟩
end
theorem spin_pl (m : Nat) (X : Nat → Nat → Nat → Int) (t i : Nat) : plR (bSpin m X t) i ≤ 4 * i := by
  induction i with
  | zero => exact Nat.le_refl _
  | succ i ih =>
    rw [plR]
    have := (spin_len (m := m) (X := X) (t := t) (i := i)).1
    omega
theorem num_at {b : Nat → Nat → List I4} {L : Nat → Nat} {t i k : Nat} (hi : i < L t) (hk : k < (b t i).length) {x : I4} (hx : (b t i).getD k fenceI = x) : ordAt (numR b L) t (plR (b t) i + k) = ledO (plR (b t)) x := by
  have h := code_at hk hi fenceI
  rw [hx] at h
  unfold ordAt numR
  rw [h]
  rfl
theorem spin_rel (n m : Nat) (L : Nat → Nat) (X : Nat → Nat → Nat → Int) : SpinR n m L X (lenR (bSpin m X) L) (numR (bSpin m X) L) (fun t => plR (bSpin m X t)) := by
  have hlt : ∀ t i, i < L t → plR (bSpin m X t) i + (bSpin m X t i).length ≤ lenR (bSpin m X) L t := fun t i hi => by
    unfold lenR
    rw [code_len]
    exact pl_mono (b := bSpin m X t) (i := i + 1) (by omega)
  refine ⟨fun t _ => rfl, fun t _ => (code_len _).symm, fun t i _ hi => ?_, fun t i _ hi h17 h18 => ?_, fun t i _ hi h => ?_, fun t i _ hi h => ?_⟩
  · have := hlt t i hi
    have := (spin_len (m := m) (X := X) (t := t) (i := i)).2
    omega
  · have e := spin_no (m := m) h17 h18
    refine ⟨?_, ?_⟩
    · show plR _ _ + _ = _
      rw [e]
      rfl
    · have h1 := code_at (b := bSpin m X t) (i := i) (k := 0) (L := L t) (by rw [e]; simp) hi fenceI
      rw [e, Nat.add_zero] at h1
      unfold numR
      rw [h1]
      exact led_mov _ (ordAt X t i)
  · have e := spin_17 (m := m) h
    have hl : (bSpin m X t i).length = 4 := by rw [e]; rfl
    have h0 := hlt t i hi
    rw [hl] at h0
    refine ⟨by show plR _ _ + _ = _; rw [hl], h0, ?_, ?_, ?_, ?_⟩
    · exact num_at (k := 0) (x := (1, 6, 0, 0)) hi (by omega) (by rw [e]; rfl)
    · exact num_at (k := 1) (x := (1, 7, 1, 0)) hi (by omega) (by rw [e]; rfl)
    · exact num_at (k := 2) (x := (13, (m : Int) + X t i 1, 6, 7)) hi (by omega) (by rw [e]; rfl)
    · exact num_at (k := 3) (x := (15, 6, (i : Int), 0)) hi (by omega) (by rw [e]; rfl)
  · have e := spin_18 (m := m) h
    have hl : (bSpin m X t i).length = 2 := by rw [e]; rfl
    have h0 := hlt t i hi
    rw [hl] at h0
    refine ⟨by show plR _ _ + _ = _; rw [hl], h0, ?_, ?_⟩
    · exact num_at (k := 0) (x := (1, 6, 0, 0)) hi (by omega) (by rw [e]; rfl)
    · exact num_at (k := 1) (x := (9, (m : Int) + X t i 1, 6, 0)) hi (by omega) (by rw [e]; rfl)
/-- What orders become may be, with more words, no locks, and eight registers. -/
theorem spin_ord {m lk rg sz : Nat} {X : Nat → Nat → Nat → Int} {t i : Nat} (hg : rg ≤ 6) (hi : i ≤ sz) (h : ordE rg m lk sz (X t i 0) (X t i 1) (X t i 2) (X t i 3) = 0) {x : I4} (hx : x ∈ bSpin m X t i) : ordE (8 : Nat) ((m + lk : Nat) : Int) (0 : Nat) sz x.1 x.2.1 x.2.2.1 x.2.2.2 = 0 := by
  have k1 : ∀ a : Int, okN rg m lk sz 1 a = true → okN (8 : Nat) ((m + lk : Nat) : Int) (0 : Nat) sz 1 a = true := fun a ha => by
    have := okN_reg ha
    simp [okN, lim]
    omega
  have k2 : ∀ a : Int, okN rg m lk sz 2 a = true → okN (8 : Nat) ((m + lk : Nat) : Int) (0 : Nat) sz 2 a = true := fun a ha => by
    have := okN_word ha
    simp [okN, lim]
    omega
  have fin : ∀ {op a b c x y z : Int}, kd op = some (x, y, z) → okN (8 : Nat) ((m + lk : Nat) : Int) (0 : Nat) sz x a = true → okN (8 : Nat) ((m + lk : Nat) : Int) (0 : Nat) sz y b = true → okN (8 : Nat) ((m + lk : Nat) : Int) (0 : Nat) sz z c = true → ordE (8 : Nat) ((m + lk : Nat) : Int) (0 : Nat) sz op a b c = 0 := fun hk h1 h2 h3 => by
    unfold ordE
    rw [hk]
    simp only
    rw [h1, h2, h3]
    rfl
  by_cases h17 : X t i 0 = 17
  · rw [spin_17 h17] at hx
    rw [h17] at h
    have o := ok_lock (Or.inl rfl) h
    simp only [takeL, List.mem_cons, List.not_mem_nil, or_false] at hx
    rcases hx with rfl | rfl | rfl | rfl
    · exact fin (x := 1) (y := 5) (z := 0) rfl rfl rfl rfl
    · exact fin (x := 1) (y := 5) (z := 0) rfl rfl rfl rfl
    · refine fin (x := 2) (y := 1) (z := 1) rfl ?_ rfl rfl
      simp [okN, lim]
      omega
    · refine fin (x := 1) (y := 4) (z := 0) rfl rfl ?_ rfl
      simp [okN, lim]
      omega
  by_cases h18 : X t i 0 = 18
  · rw [spin_18 h18] at hx
    rw [h18] at h
    have o := ok_lock (Or.inr rfl) h
    simp only [giveL, List.mem_cons, List.not_mem_nil, or_false] at hx
    rcases hx with rfl | rfl
    · exact fin (x := 1) (y := 5) (z := 0) rfl rfl rfl rfl
    · refine fin (x := 2) (y := 1) (z := 0) rfl ?_ rfl rfl
      simp [okN, lim]
      omega
  rw [spin_no h17 h18] at hx
  have hx : x = ordAt X t i := by simpa using hx
  subst hx
  show ordE _ _ _ _ (X t i 0) (X t i 1) (X t i 2) (X t i 3) = 0
  obtain ⟨op, hop⟩ : ∃ o, X t i 0 = o := ⟨_, rfl⟩
  rw [hop] at h h17 h18 ⊢
  have ho := ok_op h
  rcases op_cases op with e | rfl | rfl | rfl | rfl | rfl | rfl | rfl | rfl | rfl | rfl | rfl | rfl | rfl | rfl | rfl | rfl | rfl | rfl
  · omega
  · have q := ok_three (op := 1) rfl h
    exact fin (x := 1) (y := 5) (z := 0) rfl (k1 _ q.1) q.2.1 q.2.2
  · have q := ok_three (op := 2) rfl h
    exact fin (x := 1) (y := 1) (z := 0) rfl (k1 _ q.1) (k1 _ q.2.1) q.2.2
  · have q := ok_three (op := 3) rfl h
    exact fin (x := 1) (y := 1) (z := 1) rfl (k1 _ q.1) (k1 _ q.2.1) (k1 _ q.2.2)
  · have q := ok_three (op := 4) rfl h
    exact fin (x := 1) (y := 1) (z := 1) rfl (k1 _ q.1) (k1 _ q.2.1) (k1 _ q.2.2)
  · have q := ok_three (op := 5) rfl h
    exact fin (x := 1) (y := 1) (z := 1) rfl (k1 _ q.1) (k1 _ q.2.1) (k1 _ q.2.2)
  · have q := ok_three (op := 6) rfl h
    exact fin (x := 1) (y := 1) (z := 1) rfl (k1 _ q.1) (k1 _ q.2.1) (k1 _ q.2.2)
  · have q := ok_three (op := 7) rfl h
    exact fin (x := 1) (y := 1) (z := 1) rfl (k1 _ q.1) (k1 _ q.2.1) (k1 _ q.2.2)
  · have q := ok_three (op := 8) rfl h
    exact fin (x := 1) (y := 2) (z := 0) rfl (k1 _ q.1) (k2 _ q.2.1) q.2.2
  · have q := ok_three (op := 9) rfl h
    exact fin (x := 2) (y := 1) (z := 0) rfl (k2 _ q.1) (k1 _ q.2.1) q.2.2
  · have q := ok_three (op := 10) rfl h
    exact fin (x := 1) (y := 1) (z := 0) rfl (k1 _ q.1) (k1 _ q.2.1) q.2.2
  · have q := ok_three (op := 11) rfl h
    exact fin (x := 1) (y := 1) (z := 0) rfl (k1 _ q.1) (k1 _ q.2.1) q.2.2
  · have q := ok_three (op := 12) rfl h
    exact fin (x := 0) (y := 0) (z := 0) rfl q.1 q.2.1 q.2.2
  · have q := ok_three (op := 13) rfl h
    exact fin (x := 2) (y := 1) (z := 1) rfl (k2 _ q.1) (k1 _ q.2.1) (k1 _ q.2.2)
  · have q := ok_three (op := 14) rfl h
    exact fin (x := 4) (y := 0) (z := 0) rfl q.1 q.2.1 q.2.2
  · have q := ok_three (op := 15) rfl h
    exact fin (x := 1) (y := 4) (z := 0) rfl (k1 _ q.1) q.2.1 q.2.2
  · have q := ok_three (op := 16) rfl h
    exact fin (x := 1) (y := 0) (z := 0) rfl (k1 _ q.1) q.2.1 q.2.2
  · exact absurd rfl h17
  · exact absurd rfl h18
theorem spin_ok {n m lk rg : Nat} {L : Nat → Nat} {X : Nat → Nat → Nat → Int} (hc : COk n L X m lk rg) (hg : rg ≤ 6) : ∀ t i, t < n → i < lenR (bSpin m X) L t → ordE (8 : Nat) ((m + lk : Nat) : Int) (0 : Nat) (lenR (bSpin m X) L t) (numR (bSpin m X) L t i 0) (numR (bSpin m X) L t i 1) (numR (bSpin m X) L t i 2) (numR (bSpin m X) L t i 3) = 0 := by
  intro t j ht hj
  unfold lenR at hj
  rw [code_len] at hj
  obtain ⟨i, k, hi, hk, rfl⟩ := raw_find hj
  have h1 := code_at hk hi fenceI
  have hx : (bSpin m X t i).getD k fenceI ∈ bSpin m X t i := by
    rw [List.getD_eq_getElem?_getD, List.getElem?_eq_getElem hk]
    exact List.getElem_mem hk
  unfold numR
  rw [h1]
  exact led_ok (sz := L t) (x := (bSpin m X t i).getD k fenceI) (spin_ord hg (by omega) (hc.ord t i ht hi) hx) (fun a ha => by unfold lenR; rw [code_len]; exact pl_mono ha)
/-- All that can be wrong with the new program is that a thread has too many orders. -/
theorem spin_chk {n m lk rg : Nat} {L : Nat → Nat} {X : Nat → Nat → Nat → Int} (hc : COk n L X m lk rg) (hn : 0 < n) (hg : rg ≤ 6) (hm : m + lk ≤ 64) : chk n (lenR (bSpin m X) L) (numR (bSpin m X) L) (m + lk) 0 8 = firstThread (longR (lenR (bSpin m X) L)) n 0 := by
  have h0 : sizesE n (m + lk) 0 8 = 0 := by
    have h1 := hc.n4
    unfold sizesE
    rw [if_neg (by omega), if_neg (by omega)]
  unfold chk
  rw [h0, if_neg (by simp)]
  refine first_congr n 0 fun t _ ht => ?_
  have htn : t < n := by omega
  unfold thr longR
  by_cases e : 400 < lenR (bSpin m X) L t
  · rw [if_pos e, if_pos e]
  · rw [if_neg e, if_neg e]
    exact bad_all _ _ fun i _ hi => spin_ok hc hg t i htn (by omega)
theorem spin_cok {n m lk rg : Nat} {L : Nat → Nat} {X : Nat → Nat → Nat → Int} (hc : COk n L X m lk rg) (hg : rg ≤ 6) (hm : m + lk ≤ 64) (hl : ∀ t, t < n → lenR (bSpin m X) L t ≤ 1000) : COk n (lenR (bSpin m X) L) (numR (bSpin m X) L) (m + lk) 0 8 := ⟨hc.n4, hl, hm, by omega, by omega, by omega, spin_ok hc hg⟩
/-- What orders become may be led on. -/
theorem spin_led {n m lk rg : Nat} {L : Nat → Nat} {X : Nat → Nat → Nat → Int} (hc : COk n L X m lk rg) (hg : rg ≤ 6) {t i : Nat} (ht : t < n) (hi : i < L t) {x : I4} (hx : x ∈ bSpin m X t i) : (1 ≤ x.1 ∧ x.1 ≤ 18) ∧ (x.1 = 14 → 0 ≤ x.2.1 ∧ x.2.1 ≤ L t) ∧ (x.1 = 15 → 0 ≤ x.2.2.1 ∧ x.2.2.1 ≤ L t) := by
  have h := spin_ord hg (Nat.le_of_lt hi) (hc.ord t i ht hi) hx
  obtain ⟨o, a, b, c⟩ := x
  refine ⟨ok_op h, fun e => ?_, fun e => ?_⟩
  · have e' : o = 14 := e
    subst e'
    exact ok_jump h
  · have e' : o = 15 := e
    subst e'
    exact (ok_zero h).2
end

end Go.Proofs.Ytefnmbnakphhfad
