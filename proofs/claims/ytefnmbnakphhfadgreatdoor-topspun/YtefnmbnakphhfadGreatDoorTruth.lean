/-
  A copy of a list of numbers, by the program.
  Orders anew, by the program: what is known of the new program while it is made.
  A truth as a number, by the program.
  States that are gone through one behind the other: plain functions.
  States that are gone through by the program, the last one first: plain functions.
-/
import Derived.Test.YtefnmbnakphhfadGreatDoorFam
import Derived.WalkKit
import Derived.WalkSpells
import Derived.WalkLawsBesides
import Derived.Lib.SmallJoins
import Derived.Test.YtefnmbnakphhfadGreatDoorCheckA
import Derived.Test.YtefnmbnakphhfadGreatDoorDSt
import Derived.Test.YtefnmbnakphhfadGreatDoorPlain
import Derived.Test.YtefnmbnakphhfadGreatDoorWorkP
namespace Go.Proofs.YtefnmbnakphhfadGreatDoor
section
open Go.RowKit

attribute [local go_sem ↓] appS_eq
set_option maxRecDepth 100000 in
set_option maxHeartbeats 1600000 in
theorem clone_some (w : World) (sa : Addr) (l : List Int) (c : Nat) (h : SIs w (some sa) l) (hl : l.length * 8 ≤ 140737488355328) :
    Calls Tryz.prog 46 #[.slice (some sa) l.length c] w fun e w' => ∃ g cap, e = .returned (.slice (some ⟨g, 0, none⟩) l.length cap) ∧ w.heap.size ≤ g ∧ w'.ownsRow w.heap.size 3 1 (.slice (some ⟨g, 0, none⟩) l.length cap) l.length (intsV l) ∧ Below w.heap.size w w' := by
  obtain ⟨g, cap, w3, r1, r2, r3, r4, _⟩ := app_src w w.heap.size (Nat.le_refl _) (some sa) l c h hl
  have HF : Hid (Below w.heap.size w w3) := ((Below.refl _ _).alloc (Nat.le_refl _) _).grown r3 (by simp) (fun k hk => by simp at hk; omega)
  have hne := fun W => Lib.run_eql_slice_nil (P := Tryz.prog) W 23 3 (some sa) l.length c 0 0 Tryz.underlying23
  obtain ⟨m, hm⟩ : ∃ m, l.length = m := ⟨_, rfl⟩
  rw [hm] at r1 r2 hne ⊢
  clear h hl r3 hm
  go_enter Tryz.func46, Tryz.ntmps46
  go_wp2
  go_ret
  exact ⟨g, cap, rfl, r4, r2, HF.out⟩
set_option maxRecDepth 100000 in
set_option maxHeartbeats 1600000 in
theorem clone_nil (w : World) : Calls Tryz.prog 46 #[nilV] w fun e w' => e = .returned nilV ∧ w = w' := by
  have hne := fun W => Lib.run_eql_slice_nil (P := Tryz.prog) W 23 3 none 0 0 0 0 Tryz.underlying23
  go_enter Tryz.func46, Tryz.ntmps46
  go_wp2
  go_ret
  exact ⟨rfl, rfl⟩
/-- A copy of a list. -/
theorem clone_any (w : World) (sa : Option Addr) (l : List Int) (c : Nat) (h : SIs w sa l) (hnil : sa = none → l = [] ∧ c = 0) (hl : l.length * 8 ≤ 140737488355328) :
    Calls Tryz.prog 46 #[.slice sa l.length c] w fun e w' => ∃ a cap, e = .returned (.slice a l.length cap) ∧ w'.ownsRow w.heap.size 3 1 (.slice a l.length cap) l.length (intsV l) ∧ Below w.heap.size w w' := by
  cases sa with
  | none =>
    obtain ⟨rfl, rfl⟩ := hnil rfl
    refine (clone_nil w).mono fun e w' h => ⟨none, 0, h.1, World.ownsRow_nil _ _ _ _, ?_⟩
    rw [← h.2]; exact Below.refl _ _
  | some a => exact (clone_some w a l c h hl).mono fun e w' ⟨g, cap, h1, _, h3, h4⟩ => ⟨_, cap, h1, h3, h4⟩
end

section
open Go.RowKit

theorem grown_block {w w' : World} {r : Option Nat} (h : w.grownBy w' r) {g : Nat} (hg : g < w.heap.size) (hne : r ≠ some g) : w'.heap[g]? = w.heap[g]? := h.block g hg (fun e => hne e.symm)
/-- A row stays where another one grows. -/
theorem own_grown {w w' : World} {r : Option Nat} {B : Nat} {e : TypeId} {size : Nat} {v : Value} {n : Nat} {xs : List Value} (h : w.ownsRow B e size v n xs) (hg : w.grownBy w' r) (hne : ∀ g, v.ownBlock = some g → r ≠ some g) : w'.ownsRow B e size v n xs :=
  fam_keeps h fun g e => grown_block hg (h.lt g e).2 (hne g e)
/-- What is known while a thread's orders are made: from the world S on. j orders, i places. -/
structure InI (S : World) (b : Nat → List I4) (j i : Nat) (W : World) (cv pv : Value) : Prop where
  low : Below S.heap.size S W
  code : OwnC W S.heap.size cv (rawR b j)
  pls : W.ownsRow S.heap.size 3 1 pv i (intsV ((List.range i).map fun k => (plR b k : Int)))
  apart : ∀ g, cv.ownBlock = some g → pv.ownBlock ≠ some g
section
variable {S W : World} {b : Nat → List I4} {j i : Nat} {cv pv : Value}
theorem InI.start (S : World) (b : Nat → List I4) : InI S b 0 0 S nilV nilV := ⟨Below.refl _ _, World.ownsRow_nil _ _ _ _, World.ownsRow_nil _ _ _ _, fun g h => by simp [Value.ownBlock] at h⟩
theorem InI.below (h : InI S b j i W cv pv) {W' : World} (hb : Below W.heap.size W W') : InI S b j i W' cv pv := ⟨h.low.trans (hb.mono h.low.size), h.code.below hb, owns_below2 h.pls hb, h.apart⟩
/-- One place more. -/
theorem InI.place (h : InI S b j i W cv pv) {V : World} (hb : Below W.heap.size W V) {q : Nat} (hq : q = plR b i) (hi : i ≤ 1000) :
    ∃ g cap w3, (AppS #[23, 23] 23 #[pv, .slice (some ⟨V.heap.size, 0, none⟩) 1 1]).run Tryz.prog (V.alloc (.cells #[.int .i64 q] 3)) = .ok (.slice (some ⟨g, 0, none⟩) (i + 1) cap) w3 ∧ InI S b j (i + 1) w3 cv (.slice (some ⟨g, 0, none⟩) (i + 1) cap) ∧ Below S.heap.size S w3 := by
  have h0 := h.below hb
  obtain ⟨g, cap, w3, r1, r2, r3, r4⟩ := app_row (T := 23) Tryz.underlying23 infoI rfl (by omega) h0.pls (Below.refl _ V) h0.low.size 1 #[.int .i64 q] rfl (by simp [Value.oneCell']) (by omega) (by omega) (by omega)
  have hl := h0.low.size
  have hlow : Below S.heap.size S w3 := (h0.low.alloc hl _).grown r3 (by simp; omega) (fun k hk => by have := (h0.pls.lt k hk).1; omega)
  refine ⟨g, cap, w3, r1, ⟨hlow, ?_, ?_, fun k hk => ?_⟩, hlow⟩
  · exact own_grown (show (V.alloc (.cells #[.int .i64 q] 3)).ownsRow _ _ _ _ _ _ from owns_below2 h0.code ((Below.refl _ _).alloc (Nat.le_refl _) _)) r3 (fun k hk e => h0.apart k hk e)
  · have e : intsV ((List.range (i + 1)).map fun k => (plR b k : Int)) = intsV ((List.range i).map fun k => (plR b k : Int)) ++ [.int .i64 q] := by
      rw [List.range_succ, List.map_append, hq]
      simp [intsV]
    rw [e]
    exact r2
  · intro e
    have eg : g = k := by simpa [Value.ownBlock] using e
    subst eg
    rcases r4 with r4 | r4
    · exact h0.apart g hk r4
    · have := (h0.code.lt g hk).2
      omega
/-- More orders. -/
theorem InI.more (h : InI S b j i W cv pv) {V : World} (hb : Below W.heap.size W V) (sa : Option Addr) (c : Nat) (hs : SrcL V sa (cellsT (b j))) (hl : plR b j + (b j).length ≤ 1000000) :
    ∃ v w3, (AppS #[35, 35] 35 #[cv, .slice sa (b j).length c]).run Tryz.prog V = .ok v w3 ∧ InI S b (j + 1) i w3 v pv ∧ Below S.heap.size S w3 := by
  have h0 := h.below hb
  obtain ⟨v, w3, r1, r2, r3, r4⟩ := app_code h0.code h0.low.size sa c (b j) hs (by rw [raw_len]; exact hl)
  have hlow : Below S.heap.size S w3 := h0.low.grown r3 h0.low.size (fun k hk => (h0.code.lt k hk).1)
  refine ⟨v, w3, r1, ⟨hlow, r2, own_grown h0.pls r3 (fun g e1 e2 => h0.apart g e2 e1), fun g e1 e2 => ?_⟩, hlow⟩
  rcases r4 with r4 | r4
  · exact h0.apart g (by rw [← r4]; exact e1) e2
  · rw [r4] at e1
    have := (h0.pls.lt g e2).2
    have : V.heap.size = g := by simpa using e1
    omega
/-- The places lie there. -/
theorem InI.sis (h : InI S b j i W cv pv) {a : Option Addr} {c : Nat} (hv : pv = .slice a i c) : SIs W a ((List.range i).map fun k => (plR b k : Int)) := fun k hk => by
  have hk' : k < i := by simpa using hk
  obtain ⟨g, cap, e, hg, _⟩ := fam_block h.pls (by omega)
  rw [hv] at e
  simp only [Value.slice.injEq] at e
  refine ⟨g, 0, e.1, ?_⟩
  have := fam_cell h.pls hg (intsV_at (l := (List.range i).map fun k => (plR b k : Int)) hk)
  rw [Nat.zero_add]
  exact this
end
/-- What is known of the new program while it is made: from the world S on, its box at qb, k threads. -/
structure RwI (S : World) (qb : Nat) (uv : Value) (words : List Int) (lk rg : Int) (b : Nat → Nat → List I4) (L : Nat → Nat) (k : Nat) (W : World) (cv : Value) (tv : List Value) : Prop where
  low : Below S.heap.size S W
  hq : S.heap.size ≤ qb
  box : W.heap[qb]? = some (.cells #[cv, uv, .int .i64 lk, .int .i64 rg] 25)
  words : W.ownsRow S.heap.size 3 1 uv words.length (intsV words)
  wq : uv.ownBlock ≠ some qb
  code : W.ownsRow S.heap.size 35 1 cv k tv
  cq : cv.ownBlock ≠ some qb
  cw : ∀ g, uv.ownBlock = some g → cv.ownBlock ≠ some g
  thr : ∀ t, t < k → OwnC W S.heap.size (tv.getD t nilV) (codeR (b t) (L t)) ∧ ∀ g, (tv.getD t nilV).ownBlock = some g → g ≠ qb ∧ cv.ownBlock ≠ some g
section
variable {S W : World} {qb : Nat} {uv cv : Value} {words : List Int} {lk rg : Int} {b : Nat → Nat → List I4} {L : Nat → Nat} {k : Nat} {tv : List Value}
theorem RwI.below (h : RwI S qb uv words lk rg b L k W cv tv) {W' : World} (hb : Below W.heap.size W W') : RwI S qb uv words lk rg b L k W' cv tv :=
  ⟨h.low.trans (hb.mono h.low.size), h.hq, (hb.block _ (box_lt h.box)).trans h.box, owns_below2 h.words hb, h.wq, owns_below2 h.code hb, h.cq, h.cw, fun t ht => ⟨(h.thr t ht).1.below hb, (h.thr t ht).2⟩⟩
/-- One thread more. -/
theorem RwI.push (h : RwI S qb uv words lk rg b L k W cv tv) {V : World} (hb : Below W.heap.size W V) {v : Value} {T : Nat} (hT : W.heap.size ≤ T) (hv : OwnC V T v (codeR (b k) (L k))) (hk : k ≤ 1000) :
    ∃ g cap w3, (AppS #[22, 22] 22 #[cv, .slice (some ⟨V.heap.size, 0, none⟩) 1 1]).run Tryz.prog (V.alloc (.cells #[v] 35)) = .ok (.slice (some ⟨g, 0, none⟩) (k + 1) cap) w3 ∧ w3.heap[qb]? = some (.cells #[cv, uv, .int .i64 lk, .int .i64 rg] 25) ∧ Below S.heap.size S w3 ∧
      RwI S qb uv words lk rg b L (k + 1) (w3.setCell ⟨qb, 0, none⟩ (.slice (some ⟨g, 0, none⟩) (k + 1) cap)) (.slice (some ⟨g, 0, none⟩) (k + 1) cap) (tv ++ [v]) := by
  have h0 := h.below hb
  have hl := h0.low.size
  have hwq : qb < W.heap.size := box_lt h.box
  have hone : v.oneCell' = true := by
    rcases hv.2 with ⟨rfl, _⟩ | ⟨g, cap, cur, rfl, _⟩ <;> rfl
  obtain ⟨g, cap, w3, r1, r2, r3, r4⟩ := app_row (T := 22) Tryz.underlying22 infoOs rfl (by omega) h0.code (Below.refl _ V) hl 1 #[v] rfl (by simp [hone]) (by omega) (by omega) (by omega)
  have hbA : Below V.heap.size V (V.alloc (.cells #[v] 35)) := (Below.refl _ _).alloc (Nat.le_refl _) _
  have hlow : Below S.heap.size S w3 := (h0.low.alloc hl _).grown r3 (by simp; omega) (fun q hq => (h0.code.lt q hq).1)
  have hq3 : w3.heap[qb]? = some (.cells #[cv, uv, .int .i64 lk, .int .i64 rg] 25) := by
    rw [grown_block r3 (by simp; have := box_lt h0.box; omega) h0.cq]
    exact (hbA.block _ (box_lt h0.box)).trans h0.box
  have hgq : g ≠ qb := fun e => by
    rcases r4 with r4 | r4
    · exact h0.cq (by rw [r4, e])
    · have := box_lt h0.box
      omega
  have hold : ∀ x, x < V.heap.size → cv.ownBlock ≠ some x → x ≠ g := fun x hx hne e => by
    rcases r4 with r4 | r4
    · exact hne (by rw [r4, e])
    · omega
  have htl : tv.length = k := by have := h.code.1; omega
  refine ⟨g, cap, w3, r1, hq3, hlow, ⟨hlow.setCell h.hq _, h.hq, ?_, ?_, h.wq, ?_, ?_, fun x hx e => ?_, fun t ht => ?_⟩⟩
  · rw [heap_set_same hq3]
    rfl
  · exact owns_far (own_grown (owns_below2 h0.words hbA) r3 (fun x hx => h0.cw x hx)) h.wq
  · refine owns_far r2 ?_
    simp only [Value.ownBlock]
    exact fun e => hgq (by simpa using e)
  · simp only [Value.ownBlock]
    exact fun e => hgq (by simpa using e)
  · have : g = x := by simpa [Value.ownBlock] using e
    exact hold x (h0.words.lt x hx).2 (h0.cw x hx) this.symm
  · by_cases e : t = k
    · subst e
      have e1 : (tv ++ [v]).getD t nilV = v := by simp [List.getD, ← htl]
      rw [e1]
      have hvq : ∀ x, v.ownBlock = some x → x ≠ qb ∧ x < V.heap.size ∧ cv.ownBlock ≠ some x := fun x hx => by
        have h1 := hv.lt x hx
        refine ⟨by omega, h1.2, fun e2 => ?_⟩
        have := (h.code.lt x e2).2
        omega
      refine ⟨owns_far (own_grown (owns_below2 (own_low hv (by have := h.low.size; omega)) hbA) r3 (fun x hx => (hvq x hx).2.2)) (fun e2 => (hvq qb e2).1 rfl), fun x hx => ⟨(hvq x hx).1, fun e2 => ?_⟩⟩
      have : g = x := by simpa [Value.ownBlock] using e2
      exact hold x (hvq x hx).2.1 (hvq x hx).2.2 this.symm
    · have ht' : t < k := by omega
      have e1 : (tv ++ [v]).getD t nilV = tv.getD t nilV := by simp [List.getD, List.getElem?_append_left (show t < tv.length by omega)]
      rw [e1]
      have h1 := h0.thr t ht'
      refine ⟨owns_far (own_grown (owns_below2 h1.1 hbA) r3 (fun x hx => (h1.2 x hx).2)) (fun e2 => (h1.2 qb e2).1 rfl), fun x hx => ⟨(h1.2 x hx).1, fun e2 => ?_⟩⟩
      have : g = x := by simpa [Value.ownBlock] using e2
      exact hold x (h1.1.lt x hx).2 (h1.2 x hx).2 this.symm
end

theorem owns_two {W : World} {B B' : Nat} {e e' : TypeId} {size size' : Nat} {v v' : Value} {n n' : Nat} {xs xs' : List Value} (h : W.ownsRow B e size v n xs) (h' : W.ownsRow B' e' size' v' n' xs') (hne : e ≠ e') {g : Nat} (h1 : v.ownBlock = some g) : v'.ownBlock ≠ some g := fun h2 => by
  rcases h.2 with ⟨h0, _⟩ | ⟨g1, cap, cur, hv, _, hh, _⟩
  · rw [h0] at h1; simp [Value.ownBlock] at h1
  rcases h'.2 with ⟨h0, _⟩ | ⟨g2, cap2, cur2, hv2, _, hh2, _⟩
  · rw [h0] at h2; simp [Value.ownBlock] at h2
  rw [hv] at h1
  rw [hv2] at h2
  have e1 : g1 = g := by simpa [Value.ownBlock] using h1
  have e2 : g2 = g := by simpa [Value.ownBlock] using h2
  rw [e1] at hh
  rw [e2, hh] at hh2
  simp only [Option.some.injEq, Obj.cells.injEq] at hh2
  exact hne hh2.2.1
end

section
open Go.RowKit

theorem truth_any (b : Bool) (w : World) : Calls Tryz.prog 113 #[.bool b] w fun e w' => e = .returned (.int .i64 (bitI b)) ∧ w' = w := by
  go_enter Tryz.func113, Tryz.ntmps113
  cases b <;> go_wp2 <;> go_ret <;> exact ⟨rfl, rfl⟩
end

section
open Go.RowKit

section
variable {S : Type} {nx : S → List S} {outs : S → List Oc} {s0 : S} {K : List S} {P P' : S → Prop} {E E' : Oc → Prop}
end
section
variable {L : Nat → Nat} {X : Nat → Nat → Nat → Int} {mode : Int} {s : Sx}
theorem outs_none (h : movesX L X mode s = []) : outsX L X mode s = [⟨if endedX L s then 0 else 2, s.words, s.prints⟩] := by
  unfold outsX
  rw [h]
  rfl
theorem mv_getD {l : List Int} {mv : Int} (h : mv ∈ l) : ∃ j, j < l.length ∧ l.getD j 0 = mv := by
  obtain ⟨j, hj, e⟩ := List.getElem_of_mem h
  exact ⟨j, hj, by rw [List.getD_eq_getElem?_getD, List.getElem?_eq_getElem hj]; exact e⟩
theorem getD_mv {l : List Int} {j : Nat} (h : j < l.length) : l.getD j 0 ∈ l := by
  rw [List.getD_eq_getElem?_getD, List.getElem?_eq_getElem h]
  exact List.getElem_mem h
theorem fell_out {mv : Int} (h : mv ∈ movesX L X mode s) (hf : (doX X mode s mv.toNat).fell = true) : (⟨1, [], (doX X mode s mv.toNat).prints⟩ : Oc) ∈ outsX L X mode s := by
  unfold outsX
  refine List.mem_append_right _ (List.mem_filterMap.mpr ⟨mv, h, ?_⟩)
  rw [hf]
  rfl
end
end

section
open Go.RowKit

/-- What holds while the program goes through states: K known, P gone through, Z begun, O still open, F those that fell. -/
structure Df (L : Nat → Nat) (X : Nat → Nat → Nat → Int) (mode : Int) (s0 : Sx) (K P Z O F : List Sx) : Prop where
  nodup : K.Nodup
  first : s0 ∈ K
  reach : ∀ s, s ∈ K → Rch (nxX L X mode) s0 s
  split : ∀ s, s ∈ K ↔ s ∈ Z ∨ s ∈ O
  zo : (Z ++ O).Nodup
  next : ∀ s, s ∈ P → ∀ t, t ∈ nxX L X mode s → t ∈ K
  fin : ∀ f, f ∈ F → ∃ s mv, s ∈ Z ∧ mv ∈ movesX L X mode s ∧ doX X mode s mv.toNat = f ∧ f.fell = true
  fall : ∀ s, s ∈ P → ∀ mv, mv ∈ movesX L X mode s → (doX X mode s mv.toNat).fell = true → doX X mode s mv.toNat ∈ F
section
variable {L : Nat → Nat} {X : Nat → Nat → Nat → Int} {mode : Int} {s0 : Sx} {K P Z O F : List Sx}
theorem Df.begin : Df L X mode s0 [s0] [] [] [s0] [] :=
  ⟨by simp, by simp, fun s h => by rw [List.mem_singleton.mp h]; exact .base, fun s => by simp, by simp, fun _ h => absurd h List.not_mem_nil, fun _ h => absurd h List.not_mem_nil, fun _ h => absurd h List.not_mem_nil⟩
theorem Df.len (h : Df L X mode s0 K P Z O F) : Z.length + O.length = K.length := by
  have h1 := nodup_len h.zo (r := K) (fun x hx => (h.split x).2 (List.mem_append.mp hx))
  have h2 := nodup_len h.nodup (r := Z ++ O) (fun x hx => List.mem_append.mpr ((h.split x).1 hx))
  rw [List.length_append] at h1 h2
  omega
/-- The last one that is open is begun. -/
theorem Df.pop {s : Sx} (h : Df L X mode s0 K Z Z (O ++ [s]) F) : Df L X mode s0 K Z (Z ++ [s]) O F :=
  ⟨h.nodup, h.first, h.reach, fun x => by
    rw [h.split x, List.mem_append, List.mem_append]
    constructor
    · rintro (h1 | h1 | h1)
      · exact Or.inl (Or.inl h1)
      · exact Or.inr h1
      · exact Or.inl (Or.inr h1)
    · rintro ((h1 | h1) | h1)
      · exact Or.inl h1
      · exact Or.inr (Or.inr h1)
      · exact Or.inr (Or.inl h1), by
    refine h.zo.perm ?_
    rw [List.append_assoc]
    exact List.Perm.append_left _ List.perm_append_comm, h.next, fun f hf => by
    obtain ⟨x, mv, h1, h2⟩ := h.fin f hf
    exact ⟨x, mv, List.mem_append_left _ h1, h2⟩, h.fall⟩
/-- One that was not known is come to. -/
theorem Df.come {s t : Sx} (h : Df L X mode s0 K P Z O F) (hs : s ∈ K) (ht : t ∈ nxX L X mode s) (hn : t ∉ K) : Df L X mode s0 (K ++ [t]) P Z (O ++ [t]) F :=
  ⟨by
    rw [List.nodup_append]
    refine ⟨h.nodup, by simp, fun a ha b hb e => ?_⟩
    rw [List.mem_singleton.mp hb] at e
    exact hn (e ▸ ha), List.mem_append_left _ h.first, fun x hx => by
    rcases List.mem_append.mp hx with hx | hx
    · exact h.reach x hx
    · rw [List.mem_singleton.mp hx]; exact .step (h.reach s hs) ht, fun x => by
    rw [List.mem_append, List.mem_append, h.split x, or_assoc], by
    rw [← List.append_assoc, List.nodup_append]
    refine ⟨h.zo, by simp, fun a ha b hb e => ?_⟩
    rw [List.mem_singleton.mp hb] at e
    exact hn (e ▸ (h.split a).2 (List.mem_append.mp ha)), fun x hx y hy => List.mem_append_left _ (h.next x hx y hy), h.fin, h.fall⟩
/-- One fell. -/
theorem Df.fell {s : Sx} {mv : Int} (h : Df L X mode s0 K P Z O F) (hs : s ∈ Z) (hm : mv ∈ movesX L X mode s) (hf : (doX X mode s mv.toNat).fell = true) : Df L X mode s0 K P Z O (F ++ [doX X mode s mv.toNat]) :=
  ⟨h.nodup, h.first, h.reach, h.split, h.zo, h.next, fun f hf' => by
    rcases List.mem_append.mp hf' with hf' | hf'
    · exact h.fin f hf'
    · rw [List.mem_singleton.mp hf']; exact ⟨s, mv, hs, hm, rfl, hf⟩, fun x hx mv' h1 h2 => List.mem_append_left _ (h.fall x hx mv' h1 h2)⟩
/-- What was made of the first k moves. -/
def Fwd (L : Nat → Nat) (X : Nat → Nat → Nat → Int) (mode : Int) (s : Sx) (K F : List Sx) (k : Nat) : Prop :=
  ∀ j, j < k → ((doX X mode s ((movesX L X mode s).getD j 0).toNat).fell = true → doX X mode s ((movesX L X mode s).getD j 0).toNat ∈ F) ∧ ((doX X mode s ((movesX L X mode s).getD j 0).toNat).fell = false → doX X mode s ((movesX L X mode s).getD j 0).toNat ∈ K)
theorem Fwd.next {s : Sx} {K' F' : List Sx} {k : Nat} (h : Fwd L X mode s K F k) (hK : ∀ t, t ∈ K → t ∈ K') (hF : ∀ t, t ∈ F → t ∈ F') (h1 : (doX X mode s ((movesX L X mode s).getD k 0).toNat).fell = true → doX X mode s ((movesX L X mode s).getD k 0).toNat ∈ F') (h2 : (doX X mode s ((movesX L X mode s).getD k 0).toNat).fell = false → doX X mode s ((movesX L X mode s).getD k 0).toNat ∈ K') : Fwd L X mode s K' F' (k + 1) := fun j hj => by
  rcases Nat.lt_or_ge j k with h3 | h3
  · exact ⟨fun hf => hF _ ((h j h3).1 hf), fun hf => hK _ ((h j h3).2 hf)⟩
  · obtain rfl : j = k := by omega
    exact ⟨h1, h2⟩
/-- One has been gone through. -/
theorem Df.gone {s : Sx} (h : Df L X mode s0 K Z (Z ++ [s]) O F) (hw : Fwd L X mode s K F (movesX L X mode s).length) : Df L X mode s0 K (Z ++ [s]) (Z ++ [s]) O F :=
  ⟨h.nodup, h.first, h.reach, h.split, h.zo, fun x hx t ht => by
    rcases List.mem_append.mp hx with hx | hx
    · exact h.next x hx t ht
    · rw [List.mem_singleton.mp hx] at ht
      obtain ⟨mv, h1, h2, h3⟩ := mem_nx.mp ht
      obtain ⟨j, hj, rfl⟩ := mv_getD h1
      rw [← h2] at h3 ⊢
      exact (hw j hj).2 h3, h.fin, fun x hx mv h1 h2 => by
    rcases List.mem_append.mp hx with hx | hx
    · exact h.fall x hx mv h1 h2
    · rw [List.mem_singleton.mp hx] at h1 h2 ⊢
      obtain ⟨j, hj, rfl⟩ := mv_getD h1
      exact (hw j hj).1 h2⟩
/-- Nothing is open: all that can be come to has been gone through. -/
theorem Df.whole (h : Df L X mode s0 K Z Z [] F) : ∀ s, s ∈ Z ↔ Rch (nxX L X mode) s0 s := by
  have hz : ∀ s, s ∈ K ↔ s ∈ Z := fun s => by rw [h.split s]; simp
  refine fun s => ⟨fun hs => h.reach s ((hz s).2 hs), fun hs => ?_⟩
  induction hs with
  | base => exact (hz _).1 h.first
  | step _ ht ih => exact (hz _).1 (h.next _ ih _ ht)
/-- The outcomes that are come to are those of what was begun and of what fell. -/
def outcX (L : Nat → Nat) (X : Nat → Nat → Nat → Int) (mode : Int) (Z F : List Sx) (o : Oc) : Prop :=
  (∃ s, s ∈ Z ∧ movesX L X mode s = [] ∧ o = ⟨if endedX L s then 0 else 2, s.words, s.prints⟩) ∨ ∃ f, f ∈ F ∧ o = ⟨1, [], f.prints⟩
theorem Df.outs (h : Df L X mode s0 K Z Z [] F) (o : Oc) : outcX L X mode Z F o ↔ ∃ s, Rch (nxX L X mode) s0 s ∧ o ∈ outsX L X mode s := by
  constructor
  · rintro (⟨s, hs, hm, rfl⟩ | ⟨f, hf, rfl⟩)
    · refine ⟨s, (h.whole s).1 hs, ?_⟩
      rw [outs_none hm]
      simp
    · obtain ⟨s, mv, h1, h2, h3, h4⟩ := h.fin f hf
      refine ⟨s, (h.whole s).1 h1, ?_⟩
      rw [← h3] at h4 ⊢
      exact fell_out h2 h4
  · rintro ⟨s, hs, ho⟩
    have hz := (h.whole s).2 hs
    by_cases hm : movesX L X mode s = []
    · rw [outs_none hm] at ho
      exact Or.inl ⟨s, hz, hm, List.mem_singleton.mp ho⟩
    · unfold outsX at ho
      rw [if_neg hm, List.nil_append] at ho
      obtain ⟨mv, h1, h2⟩ := List.mem_filterMap.mp ho
      cases hf : (doX X mode s mv.toNat).fell with
      | false => rw [hf] at h2; cases h2
      | true =>
        rw [hf] at h2
        rw [← Option.some.inj h2]
        exact Or.inr ⟨_, h.fall s hz mv h1 hf, rfl⟩
theorem Df.told (h : Df L X mode s0 K Z Z [] F) {l : List Oc} {mx : Nat} (hs : SortedO l) (hl : ∀ o, o ∈ l ↔ outcX L X mode Z F o) (hk : K.length ≤ mx) : Told (nxX L X mode) (outsX L X mode) s0 mx false l := by
  refine Or.inr ⟨rfl, hs, fun o => (hl o).trans (h.outs o), K, h.nodup, fun s => ⟨h.reach s, fun hr => ?_⟩, hk⟩
  rw [h.split s]
  exact Or.inl ((h.whole s).2 hr)
theorem Df.full (h : Df L X mode s0 K P Z O F) {mx : Nat} (l : List Oc) (hk : mx < K.length) : Told (nxX L X mode) (outsX L X mode) s0 mx true l := Or.inl ⟨rfl, K, h.nodup, h.reach, hk⟩
end
end

end Go.Proofs.YtefnmbnakphhfadGreatDoor
