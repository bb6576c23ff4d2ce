/-
  Where something may wait, by the program: what lies in memory.
-/
import Derived.Test.YtgofbkgfonlceacMwF
import Derived.Test.YtgofbkgfonlceacFRewI
import Derived.Test.YtgofbkgfonlceacRDoW
import Derived.Laws.OwnMore
namespace Go.Proofs.Ytgofbkgfonlceac
open Go.RowKit

def boolsV (l : List Bool) : List Value := l.map Value.bool
def spotsV (l : List Sp) : List Value := l.flatMap fun s => [.int .i64 (s.1 : Int), .bool s.2]
theorem boolsV_at {l : List Bool} {i : Nat} {b : Bool} (h : l[i]? = some b) : (boolsV l)[i]? = some (.bool b) := by simp [boolsV, h]
theorem spotsV_len (l : List Sp) : (spotsV l).length = l.length * 2 := by
  induction l with
  | nil => rfl
  | cons x r ih => simp [spotsV] at ih ⊢; omega
theorem spotsV_append (l r : List Sp) : spotsV (l ++ r) = spotsV l ++ spotsV r := by simp [spotsV]
theorem infoB : (Try.prog.info? 4).map (fun i => (i.zero, i.size, i.bytes)) = some (some (.bool false), 1, 1) := by kernel_rfl
theorem infoSp : (Try.prog.info? 77).map (fun i => (i.zero, i.size, i.bytes)) = some (some (.agg #[.int .i64 0, .bool false]), 2, 16) := by kernel_rfl
/-- What lies in memory while spots are gone through. -/
structure MwM (S : World) (l : Nat) (W : World) (wb km : Nat) (ov : Value) (K O : List Sp) : Prop where
  low : Below S.heap.size S W
  ws : W.ownsRow S.heap.size 4 1 (.slice (some ⟨wb, 0, none⟩) l l) l (boolsV (wsL l K))
  kn : ∃ n D, n ≤ K.length ∧ W.ownsMap Try.prog 77 (unitElem (H := Unit)) km n D ∧ ∀ q, Maps.has D q = true ↔ ∃ s, s ∈ K ∧ spL s = q
  hk : S.heap.size ≤ km
  op : W.ownsRow S.heap.size 77 2 ov O.length (spotsV O)
theorem map_obj {W : World} {km n : Nat} {D : DataW Unit} (h : W.ownsMap Try.prog 77 (unitElem (H := Unit)) km n D) : ∃ es ck, W.heap[km]? = some (.map es ck) := by
  obtain ⟨es, ck, hb, _⟩ := h
  exact ⟨es, ck, hb⟩
theorem own_notmap {W : World} {B km : Nat} {e : TypeId} {size : Nat} {v : Value} {n : Nat} {xs : List Value} (h : W.ownsRow B e size v n xs) {es : Array MapEntry} {ck : Nat} (hm : W.heap[km]? = some (.map es ck)) : v.ownBlock ≠ some km := fun e1 => by
  rcases h.2 with ⟨h0, _⟩ | ⟨g, cap, cur, hv, _, hh, _⟩
  · rw [h0] at e1; simp [Value.ownBlock] at e1
  · rw [hv] at e1
    have : g = km := by simpa [Value.ownBlock] using e1
    rw [this, hm] at hh
    cases hh
theorem owns_two {W : World} {B B' : Nat} {e e' : TypeId} {size size' : Nat} {v v' : Value} {n n' : Nat} {xs xs' : List Value} (h : W.ownsRow B e size v n xs) (h' : W.ownsRow B' e' size' v' n' xs') (hne : e ≠ e') {g : Nat} (h1 : v.ownBlock = some g) : v'.ownBlock ≠ some g := fun h2 => by
  rcases h.2 with ⟨h0, _⟩ | ⟨g1, cap, cur, hv, _, hh, _⟩
  · rw [h0] at h1; simp [Value.ownBlock] at h1
  rcases h'.2 with ⟨h0, _⟩ | ⟨g2, cap2, cur2, hv2, _, hh2, _⟩
  · rw [h0] at h2; simp [Value.ownBlock] at h2
  rw [hv] at h1
  rw [hv2] at h2
  have e1 : g1 = g := by simpa [Value.ownBlock] using h1
  have e2 : g2 = g := by simpa [Value.ownBlock] using h2
  rw [e1] at hh
  rw [e2, hh] at hh2
  simp only [Option.some.injEq, Obj.cells.injEq] at hh2
  exact hne hh2.2.1
theorem map_kept {W W' : World} {km n : Nat} {D : DataW Unit} (h : W.ownsMap Try.prog 77 (unitElem (H := Unit)) km n D) (hb : W'.heap[km]? = W.heap[km]?) : W'.ownsMap Try.prog 77 (unitElem (H := Unit)) km n D := by
  obtain ⟨es, ck, h1, h2⟩ := h
  exact ⟨es, ck, hb.trans h1, h2⟩
section
variable {S W : World} {l wb km : Nat} {ov : Value} {K O : List Sp}
theorem MwM.keep (h : MwM S l W wb km ov K O) {W' : World} (hl : Below S.heap.size S W') (hb : ∀ k, S.heap.size ≤ k → k < W.heap.size → W'.heap[k]? = W.heap[k]?) : MwM S l W' wb km ov K O := by
  obtain ⟨n, D, h1, h2, h3⟩ := h.kn
  obtain ⟨es, ck, hm⟩ := map_obj h2
  exact ⟨hl, fam_keeps h.ws fun g e => hb g (h.ws.lt g e).1 (h.ws.lt g e).2, ⟨n, D, h1, map_kept h2 (hb km h.hk (box_lt hm)), h3⟩, h.hk, fam_keeps h.op fun g e => hb g (h.op.lt g e).1 (h.op.lt g e).2⟩
theorem MwM.below (h : MwM S l W wb km ov K O) {W' : World} (hb : Below W.heap.size W W') : MwM S l W' wb km ov K O := h.keep (h.low.trans (hb.mono h.low.size)) fun k _ hk => hb.block k hk
/-- The last one is taken off. -/
theorem MwM.pop {g cap : Nat} {s : Sp} (h : MwM S l W wb km (.slice (some ⟨g, 0, none⟩) (O.length + 1) cap) K (O ++ [s])) : W.cell? ⟨g, O.length * 2, none⟩ = some (.int .i64 (s.1 : Int)) ∧ W.cell? ⟨g, O.length * 2 + 1, none⟩ = some (.bool s.2) ∧ MwM S l W wb km (.slice (some ⟨g, 0, none⟩) O.length cap) K O := by
  have h0 := h.op
  rw [List.length_append, List.length_singleton] at h0
  have e : ∀ k, (spotsV (O ++ [s]))[O.length * 2 + k]? = (spotsV [s])[k]? := fun k => by
    rw [spotsV_append, List.getElem?_append_right (by rw [spotsV_len]; omega), spotsV_len]
    congr 1
    omega
  refine ⟨fam_cell h0 rfl (by have := e 0; rw [Nat.add_zero] at this; rw [this]; rfl), fam_cell h0 rfl (by rw [e 1]; rfl), ⟨h.low, h.ws, h.kn, h.hk, ?_⟩⟩
  have h1 := fam_shrink h0 (m := O.length) (by omega)
  have e2 : (spotsV (O ++ [s])).take (O.length * 2) = spotsV O := by
    rw [spotsV_append, ← spotsV_len]
    exact List.take_left
  rw [e2] at h1
  exact h1
/-- One more is put on. -/
theorem MwM.push (h : MwM S l W wb km ov K O) {V : World} (hb : Below W.heap.size W V) (s : Sp) (hO : O.length ≤ 100000) :
    ∃ g cap w3, (AppS #[78, 78] 78 #[ov, .slice (some ⟨V.heap.size, 0, none⟩) 1 1]).run Try.prog (V.alloc (.cells #[.int .i64 (s.1 : Int), .bool s.2] 77)) = .ok (.slice (some ⟨g, 0, none⟩) (O.length + 1) cap) w3 ∧ MwM S l w3 wb km (.slice (some ⟨g, 0, none⟩) (O.length + 1) cap) K (O ++ [s]) ∧ (V.alloc (.cells #[.int .i64 (s.1 : Int), .bool s.2] 77)).grownBy w3 ov.ownBlock ∧ (ov.ownBlock = some g ∨ g = V.heap.size + 1) := by
  have h0 := h.below hb
  have hl := h0.low.size
  obtain ⟨g, cap, w3, r1, r2, r3, r4⟩ := app_row (T := 78) Try.underlying78 infoSp rfl (by omega) h0.op (Below.refl _ V) hl 1 #[.int .i64 (s.1 : Int), .bool s.2] rfl (by simp [Value.oneCell']) (by omega) (by omega) (by omega)
  have hbA : Below V.heap.size V (V.alloc (.cells #[.int .i64 (s.1 : Int), .bool s.2] 77)) := (Below.refl _ _).alloc (Nat.le_refl _) _
  have hlow : Below S.heap.size S w3 := (h0.low.alloc hl _).grown r3 (by simp; omega) (fun q hq => (h0.op.lt q hq).1)
  have hA := h0.below hbA
  obtain ⟨n, D, h1, h2, h3⟩ := hA.kn
  obtain ⟨es, ck, hm⟩ := map_obj h2
  refine ⟨g, cap, w3, r1, ⟨hlow, own_grown hA.ws r3 (fun q hq e => owns_two hA.op hA.ws (by decide) e hq), ⟨n, D, h1, map_kept h2 (grown_block r3 (box_lt hm) (own_notmap hA.op hm)), h3⟩, h.hk, ?_⟩, r3, r4⟩
  rw [List.length_append, List.length_singleton, spotsV_append]
  exact r2
/-- One more is known: the map, and what may wait. -/
theorem MwM.know (h : MwM S l W wb km ov K O) {s : Sp} (hs : s.1 < l) (hl : l ≤ 1000) (hK : ∀ q, q ∈ K → q.1 < l) {n : Nat} {D : DataW Unit} {w4 : World} (hn : n ≤ K.length) (hown : W.ownsMap Try.prog 77 (unitElem (H := Unit)) km n D) (hhas : ∀ q, Maps.has D q = true ↔ ∃ s, s ∈ K ∧ spL s = q)
    (hm4 : w4.ownsMap Try.prog 77 (unitElem (H := Unit)) km (n + 1) (D.put (spL s) (.agg []))) (hg4 : W.grownBy w4 (some km)) :
    w4.cell? ⟨wb, s.1, none⟩ = some (.bool (decide ((s.1, true) ∈ K))) ∧ w4.frozen? ⟨wb, s.1, none⟩ = false ∧ Below S.heap.size S w4 ∧ MwM S l (w4.setCell ⟨wb, s.1, none⟩ (.bool (decide ((s.1, true) ∈ K) || s.2))) wb km ov (s :: K) O := by
  have _ := hK
  have hlow : Below S.heap.size S w4 := h.low.grown hg4 h.low.size (fun k hk => by injection hk with hk; rw [← hk]; exact h.hk)
  obtain ⟨es, ck, hm⟩ := map_obj hown
  have hwk := own_notmap h.ws hm
  have hok := own_notmap h.op hm
  have hws4 : w4.ownsRow S.heap.size 4 1 (.slice (some ⟨wb, 0, none⟩) l l) l (boolsV (wsL l K)) := own_grown h.ws hg4 (fun q hq e => hwk (by rw [hq]; exact e.symm))
  have hop4 : w4.ownsRow S.heap.size 77 2 ov O.length (spotsV O) := own_grown h.op hg4 (fun q hq e => hok (by rw [hq]; exact e.symm))
  have hwb : S.heap.size ≤ wb := (h.ws.lt wb rfl).1
  refine ⟨fam_cell hws4 rfl (boolsV_at (ws_at hs)), fam_frozen hws4 rfl _, hlow, ⟨hlow.setCell hwb _, ?_, ⟨n + 1, _, by simp; omega, map_kept hm4 ?_, fun q => ?_⟩, h.hk, ?_⟩⟩
  · have := fam_put hws4 (g := wb) rfl s.1 (.bool (decide ((s.1, true) ∈ K) || s.2))
    have e : (boolsV (wsL l K)).set s.1 (.bool (decide ((s.1, true) ∈ K) || s.2)) = boolsV (wsL l (s :: K)) := by
      rw [← ws_set hs]
      simp [boolsV, List.map_set]
    rw [e] at this
    exact this
  · obtain ⟨es4, ck4, hm4'⟩ := map_obj hm4
    exact Below.heap_setCell _ _ _ _ (fun e => by
      have := own_notmap hws4 hm4'
      exact this (by rw [e]; rfl))
  · by_cases e : q = spL s
    · subst e
      rw [Maps.has_put_same hown.isMap (spKeyed.key (spKey (wf_nat (by omega))))]
      exact ⟨fun _ => ⟨s, by simp, rfl⟩, fun _ => rfl⟩
    · rw [Maps.has_put_other e, hhas q]
      constructor
      · rintro ⟨c, h1, h2⟩
        exact ⟨c, by simp [h1], h2⟩
      · rintro ⟨c, h1, h2⟩
        rcases List.mem_cons.mp h1 with rfl | h1
        · exact absurd h2.symm e
        · exact ⟨c, h1, h2⟩
  · exact owns_far hop4 (fun e => owns_two hop4 hws4 (by decide) e rfl)
end

end Go.Proofs.Ytgofbkgfonlceac
