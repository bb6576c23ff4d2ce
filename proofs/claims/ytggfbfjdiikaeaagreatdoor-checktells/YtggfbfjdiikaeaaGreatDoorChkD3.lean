/-
  The document's Program: lists that grow and are cut.
  The document's put.
-/
import Derived.Test.YtggfbfjdiikaeaaGreatDoorSynJ0
namespace Go.Proofs.YtggfbfjdiikaeaaGreatDoor
section
open Go.RowKit

theorem infoIntC : (Tryz.prog.info? 3).map (fun i => (i.zero, i.size, i.bytes)) = some (some (.int .i64 0), 1, 8) := by kernel_rfl
theorem KpD.grown {w w' : World} {B n : Nat} {x : Value} {xs : List Value} (h : w.ownsRow B 3 1 x n xs) (hg : w.grownBy w' x.ownBlock) : KpD w w' := ⟨fun k o e h1 => by
  refine hg.block k (heap_ltD e) (fun h2 => ?_)
  rcases h.2 with ⟨h0, _⟩ | ⟨q, cp, cur, hv, _, hh, _⟩
  · rw [h0] at h2; simp [Value.ownBlock] at h2
  · rw [hv] at h2
    have hk : k = q := by simpa [Value.ownBlock] using h2
    subst hk
    rw [e] at hh
    have := Option.some.inj hh
    subst this
    exact h1 ⟨cur, (0, 0), Or.inl rfl⟩⟩
theorem cTy_int {r : Rc} (hr : r ≠ .box) : cTy r = 3 ∧ cSz r = 1 := by cases r <;> first | exact absurd rfl hr | exact ⟨rfl, rfl⟩
section
variable {w0 w w' : World} {a : Option Addr} {c : Nat} {rows : List Row} {P : Nat} {v : Rc → Value} {s s' : Cs} {f : Int × Int}
/-- A number more in a list of it, ahead of the store. -/
structure AppD (w0 w : World) (a : Option Addr) (c : Nat) (rows : List Row) (P : Nat) (v : Rc → Value) (s : Cs) (f : Int × Int) (r : Rc) (x : Int) (g cap : Nat) (w3 : World) : Prop where
  fam : Fam w3 w0.heap.size cTy cSz (upd v r (.slice (some ⟨g, 0, none⟩) (cN s r + 1) cap)) (upd (cN s) r (cN s r + 1)) (upd (cX a rows.length c v s f) r (cX a rows.length c v s f r ++ [.int .i64 x]))
  kp : KpD w w3
  low : Below w0.heap.size w0 w3
  box : v .box = boxV P
  nds : NdsR w0 a rows
  rb : r ≠ .box
theorem CDs.app (h : CDs w0 w a c rows P v s f) {r : Rc} (hr : r ≠ .box) (x : Int) (hn : cN s r ≤ 100000) : ∃ va vc g cap w3, v r = .slice va (cN s r) vc ∧ (AppS #[22, 22] 22 #[.slice va (cN s r) vc, .slice (some ⟨w.heap.size, 0, none⟩) 1 1]).run Tryz.prog (w.alloc (.cells #[.int .i64 x] 3)) = .ok (.slice (some ⟨g, 0, none⟩) (cN s r + 1) cap) w3 ∧ AppD w0 w a c rows P v s f r x g cap w3 := by
  have ho := h.fam.own r
  rw [(cTy_int hr).1, (cTy_int hr).2] at ho
  obtain ⟨va, vc, hv⟩ := fam_form ho
  obtain ⟨g, cap, w3, r1, r2, r3, r4⟩ := app_row Tryz.underlying22 infoIntC rfl (by decide) ho (Below.refl _ _) h.low.size 1 #[.int .i64 x] rfl (by intro u hu; simp at hu; subst hu; rfl) (by decide) (by omega) (by decide)
  rw [hv] at r1
  have hA := (Below.refl w.heap.size w).alloc (Nat.le_refl _) (.cells #[.int .i64 x] 3)
  refine ⟨va, vc, g, cap, w3, hv, r1, ⟨?_, ?_, ?_, h.box, h.nds, hr⟩⟩
  · refine (h.fam.below hA).grow (H := w.heap.size + 1) ?_ r3 r4 (by simp) (upd_self _ _ _) (fun q hq => upd_ne _ _ hq) (upd_self _ _ _) (fun q hq => upd_ne _ _ hq)
    rw [(cTy_int hr).1, (cTy_int hr).2]
    exact r2
  · exact (KpD.of_below hA).trans (KpD.grown (fam_keeps ho fun k hk => hA.block k (ho.lt k hk).2) r3)
  · exact ((h.low.alloc h.low.size _).grown r3 (by have := h.low.size; simp; omega) (fun k hk => (ho.lt k hk).1))
theorem AppD.lt {r : Rc} {x : Int} {g cap : Nat} {w3 : World} (h : AppD w0 w a c rows P v s f r x g cap w3) : (upd v r (.slice (some ⟨g, 0, none⟩) (cN s r + 1) cap) .box).ownBlock = some P := by
  rw [upd_ne _ _ (fun e => h.rb e.symm), h.box]; rfl
/-- .. the box's cells then. -/
theorem AppD.cells {r : Rc} {x : Int} {g cap : Nat} {w3 : World} (h : AppD w0 w a c rows P v s f r x g cap w3) (j : Nat) (u : Value) (hj : (cX a rows.length c v s f .box)[j]? = some u) : w3.cell? ⟨P, j, none⟩ = some u ∧ w3.frozen? ⟨P, j, none⟩ = false :=
  ⟨h.fam.cell h.lt (by rw [upd_ne _ _ (fun e => h.rb e.symm)]; exact hj), h.fam.frozen h.lt j⟩
/-- .. and the store. -/
theorem AppD.store {r : Rc} {x : Int} {g cap : Nat} {w3 : World} (h : AppD w0 w a c rows P v s f r x g cap w3) (j : Nat) (hj : cX a rows.length c (upd v r (.slice (some ⟨g, 0, none⟩) (cN s r + 1) cap)) s' f .box = (cX a rows.length c v s f .box).set j (.slice (some ⟨g, 0, none⟩) (cN s r + 1) cap))
    (hn : ∀ q, q ≠ r → cN s' q = cN s q) (hnr : cN s' r = cN s r + 1) (hx : ∀ q, q ≠ r → q ≠ .box → cX a rows.length c v s' f q = cX a rows.length c v s f q) (hxr : cX a rows.length c v s' f r = cX a rows.length c v s f r ++ [.int .i64 x]) :
    CDs w0 (w3.setCell ⟨P, j, none⟩ (.slice (some ⟨g, 0, none⟩) (cN s r + 1) cap)) a c rows P (upd v r (.slice (some ⟨g, 0, none⟩) (cN s r + 1) cap)) s' f ∧ KpD w (w3.setCell ⟨P, j, none⟩ (.slice (some ⟨g, 0, none⟩) (cN s r + 1) cap)) := by
  have hb : Rc.box ≠ r := fun e => h.rb e.symm
  have hv : ∀ (q : Rc) (vv : Rc → Value), q ≠ .box → cX a rows.length c vv s' f q = cX a rows.length c v s' f q := fun q vv hq => by cases q <;> first | exact absurd rfl hq | rfl
  refine ⟨⟨h.fam.put h.lt j _ (fun q => ?_) ?_ (fun q hq => ?_), ?_, h.low.setCell (p := ⟨P, j, none⟩) (h.fam.low _ _ h.lt) _, h.nds⟩, ?_⟩
  · by_cases e : q = r
    · subst e; rw [upd_self]; exact hnr
    · rw [upd_ne _ _ e]; exact hn q e
  · rw [upd_ne _ _ hb]; exact hj
  · rw [hv q _ hq]
    by_cases e : q = r
    · subst e; rw [upd_self]; exact hxr
    · rw [upd_ne _ _ e]; exact hx q e hq
  · rw [upd_ne _ _ hb]; exact h.box
  · refine h.kp.trans ⟨fun k o ho hbd => ?_⟩
    refine Below.heap_setCell _ _ _ _ (fun hk => hbd ?_)
    have h2 := (h.fam.own .box).2
    rw [upd_ne _ _ hb, upd_ne _ _ hb, upd_ne _ _ hb, h.box] at h2
    rcases h2 with ⟨h0, _⟩ | ⟨g', cap', cur, hv', _, hh, _⟩
    · cases h0
    · simp only [Value.slice.injEq, Option.some.injEq, Addr.mk.injEq, and_true] at hv'
      have hk' : k = P := hk
      rw [← hv'.1, ← hk', ho] at hh
      have := Option.some.inj hh
      subst this
      exact ⟨cur, (0, 0), Or.inr rfl⟩
/-- A name more. -/
theorem CDs.push (h : CDs w0 w a c rows P v s f) (hne : s.sc ≠ []) (i : Nat) (hn : s.sc.flatten.length ≤ 100000) : ∃ va vc g cap w3, v .th = .slice va s.sc.flatten.length vc ∧ (AppS #[22, 22] 22 #[.slice va s.sc.flatten.length vc, .slice (some ⟨w.heap.size, 0, none⟩) 1 1]).run Tryz.prog (w.alloc (.cells #[.int .i64 (i : Int)] 3)) = .ok (.slice (some ⟨g, 0, none⟩) (s.sc.flatten.length + 1) cap) w3 ∧
    (∃ u, w3.cell? ⟨P, 2, none⟩ = some u) ∧ w3.frozen? ⟨P, 2, none⟩ = false ∧ (∃ v', CDs w0 (w3.setCell ⟨P, 2, none⟩ (.slice (some ⟨g, 0, none⟩) (s.sc.flatten.length + 1) cap)) a c rows P v' (pushC s i) f) ∧ KpD w (w3.setCell ⟨P, 2, none⟩ (.slice (some ⟨g, 0, none⟩) (s.sc.flatten.length + 1) cap)) := by
  obtain ⟨va, vc, g, cap, w3, e1, e2, e3⟩ := h.app (r := .th) (by decide) (i : Int) hn
  have hsc := sc_cons hne
  have hc := e3.cells 2 _ rfl
  have hst := e3.store (s' := pushC s i) 2 rfl (fun q hq => ?_) ?_ (fun q hq hqb => ?_) ?_
  · exact ⟨va, vc, g, cap, w3, e1, e2, ⟨_, hc.1⟩, hc.2, ⟨_, hst.1⟩, hst.2⟩
  · cases q
    · rfl
    · rfl
    · exact absurd rfl hq
    · show (pushC s i).sc.length = s.sc.length
      rw [hsc]; simp [pushC]
    · rfl
  · show (pushC s i).sc.flatten.length = s.sc.flatten.length + 1
    rw [hsc]; simp [pushC]
  · cases q
    · exact absurd rfl hqb
    · rfl
    · exact absurd rfl hq
    · show iV (blL (pushC s i).sc) = iV (blL s.sc)
      rw [hsc]; rfl
    · rfl
  · show iV (thL (pushC s i)) = iV (thL s) ++ [.int .i64 (i : Int)]
    have : thL (pushC s i) = thL s ++ [(i : Int)] := by
      unfold thL
      rw [hsc]
      simp [pushC]
    rw [this]
    simp [iV]
/-- A block is opened. -/
theorem CDs.opens (h : CDs w0 w a c rows P v s f) (hn : s.sc.length ≤ 100000) : ∃ va vc g cap w3, v .bl = .slice va s.sc.length vc ∧ (AppS #[22, 22] 22 #[.slice va s.sc.length vc, .slice (some ⟨w.heap.size, 0, none⟩) 1 1]).run Tryz.prog (w.alloc (.cells #[.int .i64 (s.sc.flatten.length : Int)] 3)) = .ok (.slice (some ⟨g, 0, none⟩) (s.sc.length + 1) cap) w3 ∧
    (∃ u, w3.cell? ⟨P, 3, none⟩ = some u) ∧ w3.frozen? ⟨P, 3, none⟩ = false ∧ (∃ v', CDs w0 (w3.setCell ⟨P, 3, none⟩ (.slice (some ⟨g, 0, none⟩) (s.sc.length + 1) cap)) a c rows P v' { s with sc := [] :: s.sc } f) ∧ KpD w (w3.setCell ⟨P, 3, none⟩ (.slice (some ⟨g, 0, none⟩) (s.sc.length + 1) cap)) := by
  obtain ⟨va, vc, g, cap, w3, e1, e2, e3⟩ := h.app (r := .bl) (by decide) (s.sc.flatten.length : Int) hn
  have hc := e3.cells 3 _ rfl
  have hst := e3.store (s' := { s with sc := [] :: s.sc }) 3 rfl (fun q hq => ?_) rfl (fun q hq hqb => ?_) ?_
  · exact ⟨va, vc, g, cap, w3, e1, e2, ⟨_, hc.1⟩, hc.2, ⟨_, hst.1⟩, hst.2⟩
  · cases q <;> first | exact absurd rfl hq | rfl
  · cases q <;> first | exact absurd rfl hqb | exact absurd rfl hq | rfl
  · show iV (blL s.sc ++ [(s.sc.flatten.length : Int)]) = iV (blL s.sc) ++ _
    simp [iV]
/-- A row is cut. -/
theorem own_cut {B n m cap : Nat} {e : TypeId} {x : Option Addr} {xs : List Value} (h : w.ownsRow B e 1 (.slice x n cap) n xs) (hm : m ≤ n) : w.ownsRow B e 1 (.slice x m cap) m (xs.take m) := by
  refine ⟨by rw [List.length_take, h.1]; omega, ?_⟩
  rcases h.2 with ⟨h0, h1⟩ | ⟨g', cap', cur, hv, hg', hh, h1, h2, h3, h4⟩
  · simp only [Value.slice.injEq] at h0
    obtain ⟨rfl, rfl, rfl⟩ := h0
    exact Or.inl ⟨by rw [show m = 0 by omega], by omega⟩
  · simp only [Value.slice.injEq, true_and] at hv
    obtain ⟨rfl, rfl⟩ := hv
    refine Or.inr ⟨g', cap, cur, rfl, hg', hh, by omega, h2, h3, ?_⟩
    rw [← h4, List.take_take, Nat.mul_one, Nat.mul_one, Nat.min_eq_left hm]
theorem own_cap {B n cap : Nat} {e : TypeId} {x : Option Addr} {xs : List Value} (h : w.ownsRow B e 1 (.slice x n cap) n xs) : n ≤ cap := by
  rcases h.2 with ⟨h0, h1⟩ | ⟨g', cap', cur, hv, _, _, h1, _⟩
  · omega
  · simp only [Value.slice.injEq, true_and] at hv
    omega
theorem own_same {x : Option Addr} {n m cap : Nat} : (Value.slice x m cap).ownBlock = (Value.slice x n cap).ownBlock := by cases x <;> rfl
theorem CDs.cutR (h : CDs w0 w a c rows P v s f) {r : Rc} (hr : r ≠ .box) {x : Option Addr} {cap m : Nat} (hv : v r = .slice x (cN s r) cap) (hm : m ≤ cN s r) (j : Nat) (hj : cX a rows.length c (upd v r (.slice x m cap)) s' f .box = (cX a rows.length c v s f .box).set j (.slice x m cap))
    (hn : ∀ q, q ≠ r → cN s' q = cN s q) (hnr : cN s' r = m) (hx : ∀ q, q ≠ r → q ≠ .box → cX a rows.length c v s' f q = cX a rows.length c v s f q) (hxr : cX a rows.length c v s' f r = (cX a rows.length c v s f r).take m) :
    CDs w0 (w.setCell ⟨P, j, none⟩ (.slice x m cap)) a c rows P (upd v r (.slice x m cap)) s' f ∧ KpD w (w.setCell ⟨P, j, none⟩ (.slice x m cap)) := by
  have hb : Rc.box ≠ r := fun e => hr e.symm
  have hvv : ∀ (q : Rc) (vv : Rc → Value), q ≠ .box → cX a rows.length c vv s' f q = cX a rows.length c v s' f q := fun q vv hq => by cases q <;> first | exact absurd rfl hq | rfl
  have ho := h.fam.own r
  rw [hv, (cTy_int hr).2] at ho
  have hF : Fam w w0.heap.size cTy cSz (upd v r (.slice x m cap)) (upd (cN s) r m) (upd (cX a rows.length c v s f) r ((cX a rows.length c v s f r).take m)) := by
    refine ⟨fun q => ?_, fun q p g hq hp => ?_⟩
    · by_cases e : q = r
      · subst e
        rw [upd_self, upd_self, upd_self, (cTy_int hr).2]
        exact own_cut ho hm
      · rw [upd_ne _ _ e, upd_ne _ _ e, upd_ne _ _ e]
        exact h.fam.own q
    · have e1 : ∀ q, (upd v r (.slice x m cap) q).ownBlock = (v q).ownBlock := fun q => by
        by_cases e : q = r
        · subst e; rw [upd_self, hv]; exact own_same
        · rw [upd_ne _ _ e]
      rw [e1] at hq hp
      exact h.fam.apart q p g hq hp
  have hlt : (upd v r (.slice x m cap) .box).ownBlock = some P := by rw [upd_ne _ _ hb]; exact h.blk
  refine ⟨⟨hF.put hlt j _ (fun q => ?_) ?_ (fun q hq => ?_), ?_, h.lowSet h.blk j _, h.nds⟩, h.kept h.blk j _⟩
  · by_cases e : q = r
    · subst e; rw [upd_self]; exact hnr
    · rw [upd_ne _ _ e]; exact hn q e
  · rw [upd_ne _ _ hb]; exact hj
  · rw [hvv q _ hq]
    by_cases e : q = r
    · subst e; rw [upd_self]; exact hxr
    · rw [upd_ne _ _ e]; exact hx q e hq
  · rw [upd_ne _ _ hb]; exact h.box
theorem CDs.cutT (h : CDs w0 w a c rows P v s f) {S : List Nat} {r : List (List Nat)} (hs : s.sc = S :: r) {x : Option Addr} {cap : Nat} (hv : v .th = .slice x s.sc.flatten.length cap) :
    CDs w0 (w.setCell ⟨P, 2, none⟩ (.slice x r.flatten.length cap)) a c rows P (upd v .th (.slice x r.flatten.length cap)) { s with sc := [] :: r } f ∧ KpD w (w.setCell ⟨P, 2, none⟩ (.slice x r.flatten.length cap)) := by
  refine h.cutR (r := .th) (by decide) hv (by show _ ≤ s.sc.flatten.length; rw [hs]; simp) 2 rfl (fun q hq => ?_) rfl (fun q hq hqb => ?_) ?_
  · cases q
    · rfl
    · rfl
    · exact absurd rfl hq
    · show ([] :: r).length = s.sc.length
      rw [hs]; rfl
    · rfl
  · cases q
    · exact absurd rfl hqb
    · rfl
    · exact absurd rfl hq
    · show iV (blL ([] :: r)) = iV (blL s.sc)
      rw [hs]; rfl
    · rfl
  · show iV (thL { s with sc := [] :: r }) = (iV (thL s)).take r.flatten.length
    unfold thL iV
    rw [hs, ← List.map_take, ← List.map_take]
    congr 2
    simp
theorem CDs.cutB (h : CDs w0 w a c rows P v s f) {r : List (List Nat)} (hs : s.sc = [] :: r) {x : Option Addr} {cap : Nat} (hv : v .bl = .slice x s.sc.length cap) :
    CDs w0 (w.setCell ⟨P, 3, none⟩ (.slice x r.length cap)) a c rows P (upd v .bl (.slice x r.length cap)) { s with sc := r } f ∧ KpD w (w.setCell ⟨P, 3, none⟩ (.slice x r.length cap)) := by
  refine h.cutR (r := .bl) (by decide) hv (by show _ ≤ s.sc.length; rw [hs]; simp) 3 rfl (fun q hq => ?_) rfl (fun q hq hqb => ?_) ?_
  · cases q
    · rfl
    · rfl
    · show r.flatten.length = s.sc.flatten.length
      rw [hs]; rfl
    · exact absurd rfl hq
    · rfl
  · cases q
    · exact absurd rfl hqb
    · rfl
    · show iV (thL { s with sc := r }) = iV (thL s)
      unfold thL
      rw [hs]; rfl
    · exact absurd rfl hq
    · rfl
  · show iV (blL r) = (iV (blL s.sc)).take r.length
    rw [hs, blL]
    unfold iV
    rw [← List.map_take]
    congr 1
    rw [List.take_append_of_le_length (by rw [blL_len]; exact Nat.le_refl _), ← blL_len r, List.take_length]
end
end

section
open Go.RowKit

/-- Is a name among those of the innermost scope that stand ahead of place j? -/
def twA (rows : List Row) (L : List Nat) (m j i : Nat) : Bool := ((L.take j).drop m).any fun d => decide ((rowA rows d).text = (rowA rows i).text)
theorem twA_next {rows : List Row} {L : List Nat} {m j i d : Nat} (hm : m ≤ j) (hd : L[j]? = some d) : twA rows L m (j + 1) i = (twA rows L m j i || decide ((rowA rows d).text = (rowA rows i).text)) := by
  have hj : j < L.length := by
    rcases Nat.lt_or_ge j L.length with h | h
    · exact h
    · rw [List.getElem?_eq_none h] at hd; cases hd
  unfold twA
  rw [List.take_add_one, hd, List.drop_append_of_le_length (by rw [List.length_take]; omega), List.any_append]
  simp
theorem tw_end {rows : List Row} {s : Cs} {S : List Nat} {r : List (List Nat)} (hs : s.sc = S :: r) (i : Nat) : twA rows s.sc.flatten.reverse r.flatten.length s.sc.flatten.length i = twiceC rows s i := by
  unfold twA twiceC
  rw [hs]
  have h1 : (S :: r).flatten.length = ((S :: r).flatten.reverse).length := by rw [List.length_reverse]
  rw [h1, List.take_length]
  have h2 : ((S :: r).flatten.reverse).drop r.flatten.length = S.reverse := by simp
  rw [h2]
  simp
theorem thL_at {s : Cs} {j d : Nat} (h : s.sc.flatten.reverse[j]? = some d) : (thL s)[j]? = some (d : Int) := by
  unfold thL
  rw [List.getElem?_map, h]
  rfl
theorem blL_last {S : List Nat} {r : List (List Nat)} : (blL (S :: r))[(S :: r).length - 1]? = some (r.flatten.length : Int) := by
  rw [blL]
  rw [show (S :: r).length - 1 = (blL r).length by rw [blL_len]; simp]
  rw [List.getElem?_append_right (Nat.le_refl _), Nat.sub_self]
  rfl
theorem str_yes {a b : ByteArray} (h : a.data.toList = b.data.toList) : (a.toList == b.toList) = true := by
  rw [Lib.toList_data, Lib.toList_data, h]
  simp
section
variable {w0 w : World} {a : Option Addr} {c : Nat} {rows : List Row} {P : Nat} {v : Rc → Value} {s : Cs}
attribute [local go_sem ↓] appS_eq
set_option maxRecDepth 100000 in
set_option maxHeartbeats 3200000 in
theorem rput_any (h : CDs w0 w a c rows P v s (0, 0)) (hok : CsOk rows s) {i : Nat} (hi : i < rows.length) (hn : s.sc.flatten.length ≤ 100000) (hbn : s.sc.length ≤ 100000) :
    Calls Tryz.prog 33 #[.pointer (some ⟨P, 0, none⟩), .int .i64 (i : Int)] w fun e w' => e = .returned (.tuple #[]) ∧ (∃ v', CDs w0 w' a c rows P v' (pushC s i) (if twiceC rows s i then (8, (rowA rows i).pos) else (0, 0))) ∧ KpD w w' := by
  obtain ⟨S, r, hs⟩ : ∃ S r, s.sc = S :: r := ⟨_, _, sc_cons hok.ne⟩
  obtain ⟨g, ka, kc, rfl, hnd⟩ := h.node hi
  obtain ⟨bb, bc, hbv, hbb, -, hbl⟩ := fam_block (h.fam.own .bl) (by show 0 < s.sc.length; rw [hs]; simp)
  have hbv' : v .bl = .slice (some ⟨bb, 0, none⟩) s.sc.length bc := hbv
  obtain ⟨ta, tc, htv⟩ := fam_form (h.fam.own .th)
  have htv' : v .th = .slice ta s.sc.flatten.length tc := htv
  obtain ⟨m, hm⟩ : ∃ m, m = r.flatten.length := ⟨_, rfl⟩
  obtain ⟨n, hnn⟩ : ∃ n, n = s.sc.flatten.length := ⟨_, rfl⟩
  obtain ⟨q, hq⟩ : ∃ q, q = s.sc.length := ⟨_, rfl⟩
  have hmn : m ≤ n := by rw [hm, hnn, hs]; simp
  have hq1 : 1 ≤ q := by rw [hq, hs]; simp
  have c0 := h.c0
  have c3 := h.c3
  rw [hbv', ← hq] at c3
  have y3 : w.cell? ⟨bb, q - 1, none⟩ = some (.int .i64 (m : Int)) := by
    refine h.fam.cell hbb (iV_at ?_)
    rw [hq, hs, hm]
    exact blL_last
  have hc1 : ((q : Int) - 1) = ((q - 1 : Nat) : Int) := by omega
  have hqb : q ≤ 100000 := by omega
  have hnb : n ≤ 100000 := by omega
  obtain ⟨TI, hTI⟩ : ∃ T : ByteArray, T = ⟨⟨(rowA rows i).text⟩⟩ := ⟨_, rfl⟩
  have HFl : Hid (∀ W f, CDs w0 W (some ⟨g, 0, none⟩) c rows P v s f → Calls Tryz.prog 32 #[.pointer (some ⟨P, 0, none⟩), .int .i64 8, .int .i64 (i : Int)] W fun e w' => e = .returned (.tuple #[]) ∧ CDs w0 w' (some ⟨g, 0, none⟩) c rows P v s (if f.1 = 0 then (8, (rowA rows i).pos) else f) ∧ KpD W w') := fun W f hW => rfail_any hW hi 8
  obtain ⟨F, hF⟩ : ∃ F : Nat → Int × Int, F = fun j => if twA rows s.sc.flatten.reverse m j i then (8, (rowA rows i).pos) else (0, 0) := ⟨_, rfl⟩
  have HF0 : Hid (F m = (0, 0)) := by
    show _ = _
    rw [hF]
    simp only
    have : twA rows s.sc.flatten.reverse m m i = false := by
      unfold twA
      rw [List.drop_of_length_le (by rw [List.length_take]; omega)]
      rfl
    rw [this]; rfl
  have HFn : Hid (F n = if twiceC rows s i then (8, (rowA rows i).pos) else (0, 0)) := by
    show _ = _
    rw [hF]
    simp only
    rw [hm, hnn, tw_end hs]
  obtain ⟨R, hR⟩ : ∃ R : Int × Int, R = if twiceC rows s i then (8, (rowA rows i).pos) else (0, 0) := ⟨_, rfl⟩
  rw [← hR] at HFn ⊢
  have HK : Hid (∀ (j : Nat), m ≤ j → j < n → ∃ (d : Nat) (T : ByteArray) (tb : Nat), d < rows.length ∧ ta = some ⟨tb, 0, none⟩ ∧ (∀ W f, CDs w0 W (some ⟨g, 0, none⟩) c rows P v s f → W.cell? ⟨tb, j, none⟩ = some (.int .i64 (d : Int)) ∧ W.cell? ⟨g, d * 5 + 3, none⟩ = some (.string T) ∧ W.cell? ⟨g, i * 5 + 3, none⟩ = some (.string TI) ∧ W.cell? ⟨P, 0, none⟩ = some (.slice (some ⟨g, 0, none⟩) rows.length c) ∧ W.cell? ⟨P, 2, none⟩ = some (.slice (some ⟨tb, 0, none⟩) n tc)) ∧
      ((T.toList == TI.toList) = true ∧ F (j + 1) = (if (F j).1 = 0 then (8, (rowA rows i).pos) else F j) ∨ (T.toList == TI.toList) = false ∧ F (j + 1) = F j)) := fun j hj1 hj2 => by
    obtain ⟨d, hd⟩ : ∃ d, s.sc.flatten.reverse[j]? = some d := ⟨_, List.getElem?_eq_getElem (by simp only [List.length_reverse]; omega)⟩
    have hdm : d ∈ s.sc.flatten := by have := List.mem_of_getElem? hd; simpa using this
    obtain ⟨S9, hS9, hdS⟩ := List.mem_flatten.1 hdm
    have hdl := (hok.mem S9 hS9 d hdS).1
    obtain ⟨tb, cap, e1, e2, -, -⟩ := fam_block (h.fam.own .th) (by show 0 < s.sc.flatten.length; omega)
    rw [htv] at e1
    simp only [Value.slice.injEq] at e1
    have e1' := e1.1
    refine ⟨d, ⟨⟨(rowA rows d).text⟩⟩, tb, hdl, e1', fun W f hW => ?_, ?_⟩
    · obtain ⟨g1, ka1, kc1, hg1, hn1⟩ := hW.node hdl
      simp only [Option.some.injEq, Addr.mk.injEq, and_true] at hg1
      obtain rfl := hg1
      obtain ⟨g2, ka2, kc2, hg2, hn2⟩ := hW.node hi
      simp only [Option.some.injEq, Addr.mk.injEq, and_true] at hg2
      obtain rfl := hg2
      have hc2 := hW.c2
      rw [htv', e1', ← hnn] at hc2
      refine ⟨hW.fam.cell e2 (iV_at (thL_at hd)), hn1.t, ?_, hW.c0, hc2⟩
      rw [hTI]
      exact hn2.t
    · have hnx := twA_next (rows := rows) (i := i) hj1 hd
      by_cases ht : (rowA rows d).text = (rowA rows i).text
      · refine Or.inl ⟨str_yes (by rw [hTI]; exact ht), ?_⟩
        rw [hF]
        simp only
        rw [hnx, ht]
        cases twA rows s.sc.flatten.reverse m j i <;> simp
      · refine Or.inr ⟨ne_str (by rw [hTI]; exact ht), ?_⟩
        rw [hF]
        simp only
        rw [hnx, decide_eq_false ht, Bool.or_false]
  have HP : Hid (∀ W f, CDs w0 W (some ⟨g, 0, none⟩) c rows P v s f → ∃ va vc g9 cap w3, v .th = .slice va n vc ∧ (AppS #[22, 22] 22 #[.slice va n vc, .slice (some ⟨W.heap.size, 0, none⟩) 1 1]).run Tryz.prog (W.alloc (.cells #[.int .i64 (i : Int)] 3)) = .ok (.slice (some ⟨g9, 0, none⟩) (n + 1) cap) w3 ∧
    (∃ u, w3.cell? ⟨P, 2, none⟩ = some u) ∧ w3.frozen? ⟨P, 2, none⟩ = false ∧ (∃ v', CDs w0 (w3.setCell ⟨P, 2, none⟩ (.slice (some ⟨g9, 0, none⟩) (n + 1) cap)) (some ⟨g, 0, none⟩) c rows P v' (pushC s i) f) ∧ KpD W (w3.setCell ⟨P, 2, none⟩ (.slice (some ⟨g9, 0, none⟩) (n + 1) cap))) := fun W f hW => by
    rw [hnn]
    exact hW.push hok.ne i hn
  have HD : Hid (∀ k, CDs w0 (w.drewN k) (some ⟨g, 0, none⟩) c rows P v s (F m) ∧ KpD w (w.drewN k)) := fun k => by
    rw [HF0.out]
    exact ⟨h.below (below_drewN (Below.refl _ _)), KpD.of_below (below_drewN (Below.refl _ _))⟩
  have HT : Hid (v .th = .slice ta n tc) := by show _ = _; rw [hnn]; exact htv'
  have hi' : (i : Int) < (rows.length : Int) := by omega
  have HR9 := Hid.out (p := Hid _) hR
  clear h hok hi hn hbn hs hnd hbv hbv' htv htv' hm hnn hq hF hbb hR HF0 hTI
  go_enter Tryz.func33, Tryz.ntmps33
  go_wp2_with fail
  go_quiet (fail)
  clear c0 c3 y3 hc1
  go_wp2_with fail
  go_loopw [4] (fun x wr => ∃ j : Nat, m ≤ j ∧ j ≤ n ∧ x = .int .i64 j ∧ Hid (CDs w0 wr (some ⟨g, 0, none⟩) c rows P v s (F j) ∧ KpD w wr)) (fun x _ => n - (intOf x).toNat)
  case atStart => exact ⟨m, Nat.le_refl _, hmn, rfl, HD.out _⟩
  case round =>
    obtain ⟨j, hj1, hj2, rfl, HJ⟩ := hrel
    clear HD
    by_cases hlt : j < n
    · obtain ⟨d, T, tb, hdl, rfl, hcs, hor⟩ := HK.out j hj1 hlt
      obtain ⟨z0, z1, z2, z3, z4⟩ := hcs _ _ HJ.out.1
      have hlt' : (j : Int) < (n : Int) := by omega
      have hdl' : (d : Int) < (rows.length : Int) := by omega
      clear hcs
      rcases hor with ⟨heq, hnx⟩ | ⟨heq, hnx⟩
      · have HNX := Hid.out (p := Hid _) hnx
        clear hnx
        go_wp2_with fail
        go_quiet (fail)
        go_wp2_with fail
        refine Calls.mono (HFl.out _ _ (HJ.out.1.below (below_drewN (Below.refl _ _)))) ?_
        rintro e w2 ⟨rfl, h2, h3⟩
        rw [← HNX.out] at h2
        have HZ : Hid (CDs w0 w2 (some ⟨g, 0, none⟩) c rows P v s (F (j + 1)) ∧ KpD w w2) := ⟨h2, (HJ.out.2.trans (KpD.of_below (below_drewN (Below.refl _ _)))).trans h3⟩
        clear h2 h3 z0 z1 z2 z3 z4
        go_wp2_with fail
        go_roundw
        case rel => exact ⟨j + 1, by omega, by omega, by go_num, HZ⟩
        case measure => simp [intOf]; omega
      · have HNX := Hid.out (p := Hid _) hnx
        clear hnx
        go_wp2_with fail
        go_quiet (fail)
        go_wp2_with fail
        go_roundw
        case rel => exact ⟨j + 1, by omega, by omega, by go_num, (by rw [HNX.out]; exact ⟨HJ.out.1.below (below_drewN (Below.refl _ _)), HJ.out.2.trans (KpD.of_below (below_drewN (Below.refl _ _)))⟩ : Hid _)⟩
        case measure => simp [intOf]; omega
    · obtain rfl : j = n := by omega
      obtain ⟨va, vc, g9, cap, w3, e1, r1, ⟨u, e2⟩, e3, e4, e5⟩ := HP.out _ _ HJ.out.1
      have z2 := HJ.out.1.c2
      rw [e1] at z2
      have HZ : Hid ((∃ v', CDs w0 (w3.setCell ⟨P, 2, none⟩ (.slice (some ⟨g9, 0, none⟩) (j + 1) cap)) (some ⟨g, 0, none⟩) c rows P v' (pushC s i) (F j)) ∧ KpD w (w3.setCell ⟨P, 2, none⟩ (.slice (some ⟨g9, 0, none⟩) (j + 1) cap))) := ⟨e4, HJ.out.2.trans e5⟩
      clear e4 e5 e1
      go_wp2_with fail
      go_end0
      refine ⟨rfl, ?_, HZ.out.2⟩
      have := HZ.out.1
      rw [HFn.out] at this
      exact this
end
end

end Go.Proofs.YtggfbfjdiikaeaaGreatDoor
