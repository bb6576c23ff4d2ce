/-
  All that can be come to, gone through by the kernel: what is told of it.
  Where no orders clash, stores that wait cannot be seen; and the clash of two threads that the statements look for by themselves: plain functions.
  A program that passed Check.
  Find of the two threads that the statements look for a clash in by themselves.
-/
import Derived.Test.YtgofbkgfonlceacGreatDoorWorkP
import Derived.Test.YtgofbkgfonlceacGreatDoorRcP
import Derived.Test.YtgofbkgfonlceacGreatDoorRaceS
import Derived.Test.YtgofbkgfonlceacGreatDoorReachP
import Derived.Test.YtgofbkgfonlceacGreatDoorRunP
import Derived.Test.YtgofbkgfonlceacGreatDoorRcFind
namespace Go.Proofs.YtgofbkgfonlceacGreatDoor
section
open Go.RowKit

section
variable {S : Type} [DecidableEq S]
/-- All that can be come to, gone through: what is still to be looked at, what is known. -/
def goK (nx : S → List S) : Nat → List S → List S → List S
  | 0, _, k => k
  | _ + 1, [], k => k
  | f + 1, s :: r, k =>
    let new := (nx s).foldl (fun l t => if t ∈ k ∨ t ∈ l then l else l ++ [t]) []
    goK nx f (r ++ new) (k ++ new)
theorem new_mem {k : List S} : ∀ {l a : List S} {x : S}, x ∈ l.foldl (fun l t => if t ∈ k ∨ t ∈ l then l else l ++ [t]) a → x ∈ a ∨ x ∈ l
  | [], a, x, h => Or.inl h
  | b :: l, a, x, h => by
    rw [List.foldl_cons] at h
    rcases new_mem h with h1 | h1
    · split at h1
      · exact Or.inl h1
      · rw [List.mem_append] at h1
        rcases h1 with h1 | h1
        · exact Or.inl h1
        · rw [List.mem_singleton.mp h1]; exact Or.inr (by simp)
    · exact Or.inr (by simp [h1])
theorem go_reach {nx : S → List S} {s0 : S} : ∀ {f : Nat} {r k : List S}, (∀ s, s ∈ r → Rch nx s0 s) → (∀ s, s ∈ k → Rch nx s0 s) → ∀ s, s ∈ goK nx f r k → Rch nx s0 s
  | 0, _, _, _, h2 => h2
  | _ + 1, [], _, _, h2 => h2
  | f + 1, s :: r, k, h1, h2 => by
    have hn : ∀ x, x ∈ (nx s).foldl (fun l t => if t ∈ k ∨ t ∈ l then l else l ++ [t]) [] → Rch nx s0 x := fun x hx => by
      rcases new_mem hx with h | h
      · cases h
      · exact (h1 s (by simp)).step h
    refine go_reach (f := f) (fun x hx => ?_) (fun x hx => ?_)
    · rw [List.mem_append] at hx
      exact hx.elim (fun h => h1 x (by simp [h])) (hn x)
    · rw [List.mem_append] at hx
      exact hx.elim (h2 x) (hn x)
def closedK (nx : S → List S) (k : List S) : Bool := k.all fun s => (nx s).all fun t => decide (t ∈ k)
theorem nodup_of : ∀ l : List S, ∃ r : List S, r.Nodup ∧ (∀ x, x ∈ r ↔ x ∈ l) ∧ r.length ≤ l.length
  | [] => ⟨[], List.nodup_nil, fun _ => Iff.rfl, Nat.le_refl _⟩
  | a :: l => by
    obtain ⟨r, h1, h2, h3⟩ := nodup_of l
    by_cases h : a ∈ r
    · exact ⟨r, h1, fun x => by rw [h2, List.mem_cons]; exact ⟨Or.inr, fun e => e.elim (fun e => by rw [e]; exact (h2 a).mp h) id⟩, by simp; omega⟩
    · exact ⟨a :: r, List.nodup_cons.mpr ⟨h, h1⟩, fun x => by rw [List.mem_cons, List.mem_cons, h2], by simp; omega⟩
theorem go_more {nx : S → List S} {s : S} : ∀ {f : Nat} {r k : List S}, s ∈ k → s ∈ goK nx f r k
  | 0, _, _, h => h
  | _ + 1, [], _, h => h
  | f + 1, _ :: _, _, h => go_more (f := f) (List.mem_append.mpr (Or.inl h))
/-- What is told where all was gone through. -/
theorem told_of {nx : S → List S} {outs : S → List Oc} {s0 : S} {mx f : Nat} (hcl : closedK nx (goK nx f [s0] [s0]) = true) (hk : (goK nx f [s0] [s0]).length ≤ mx) : Told nx outs s0 mx false (((goK nx f [s0] [s0]).flatMap outs).foldr insO []) := by
  have hr : ∀ s, s ∈ goK nx f [s0] [s0] → Rch nx s0 s := go_reach (fun x hx => by rw [List.mem_singleton.mp hx]; exact .base) (fun x hx => by rw [List.mem_singleton.mp hx]; exact .base)
  have hall : ∀ s, Rch nx s0 s → s ∈ goK nx f [s0] [s0] := fun s hs => by
    induction hs with
    | base => exact go_more (by simp)
    | step _ ht ih =>
      unfold closedK at hcl
      rw [List.all_eq_true] at hcl
      have := hcl _ ih
      rw [List.all_eq_true] at this
      simpa using this _ ht
  obtain ⟨r, n1, n2, n3⟩ := nodup_of (goK nx f [s0] [s0])
  refine Or.inr ⟨rfl, ?_, fun o => ?_, r, n1, fun s => (n2 s).trans ⟨hr s, hall s⟩, by omega⟩
  · have : ∀ l : List Oc, SortedO (l.foldr insO []) := fun l => by
      induction l with
      | nil => exact List.Pairwise.nil
      | cons a l ih => exact sorted_insO ih
    exact this _
  · have : ∀ l : List Oc, o ∈ l.foldr insO [] ↔ o ∈ l := fun l => by
      induction l with
      | nil => exact Iff.rfl
      | cons a l ih => rw [List.foldr_cons, mem_insO, ih, List.mem_cons]
    rw [this, List.mem_flatMap]
    exact ⟨fun ⟨s, h1, h2⟩ => ⟨s, hr s h1, h2⟩, fun ⟨s, h1, h2⟩ => ⟨s, hall s h1, h2⟩⟩
end
end

section
open Go.RowKit

/-- Where no clash is told, the outcomes with stores that wait are those without. -/
theorem free_same {n : Nat} {L : Nat → Nat} {X : Nat → Nat → Nat → Int} {words : List Int} {lk rg : Nat} {a b : List Oc} {mx : Nat} (hc : COk n L X words.length lk rg) (hz : ToldC L X (beginX n words lk rg) []) (ha : Told (nxX L X 0) (outsX L X 0) (beginX n words lk rg) mx false a) (hb : Told (nxX L X 1) (outsX L X 1) (beginX n words lk rg) mx false b) : a = b := by
  rcases ha with ⟨e, _⟩ | ⟨_, sa, ma, _⟩
  · cases e
  rcases hb with ⟨e, _⟩ | ⟨_, sb, mb, _⟩
  · cases e
  refine sorted_same sa sb fun o => ?_
  rw [ma, mb]
  have hwait : ∀ t, t < n → (thOf (beginX n words lk rg) t).wait = [] := fun t ht => by
    unfold thOf beginX
    simp [List.getD, ht]
  constructor
  · rintro ⟨s, h1, h2⟩
    exact ⟨s, reach_more begin_ok rfl hc h1, outs_more begin_ok rfl hc h1 h2⟩
  · rintro ⟨s, h1, h2⟩
    exact race_free begin_ok rfl hwait LkI.begin hc (by decide) (toldC_none hz fun s hs => (reach_ok begin_ok rfl hc (Int.le_refl _) hs).1.ths) h1 h2
/-- The clashes of a state, gone through. -/
def clsL (L : Nat → Nat) (X : Nat → Nat → Nat → Int) (s : Sx) : List (List Int) := (List.range s.ths.length).flatMap fun b => (List.range b).flatMap fun a => (clP L X s a b).toList
theorem mem_clsL {L : Nat → Nat} {X : Nat → Nat → Nat → Int} {s : Sx} {c : List Int} : c ∈ clsL L X s ↔ ClsX L X s c := by
  unfold clsL ClsX
  simp only [List.mem_flatMap, List.mem_range, Option.mem_toList]
  exact ⟨fun ⟨b, h1, a, h2, h3⟩ => ⟨a, b, h2, h1, h3⟩, fun ⟨a, b, h2, h1, h3⟩ => ⟨b, h1, a, h2, h3⟩⟩
/-- What clashes are told where all was gone through. -/
theorem toldC_of {L : Nat → Nat} {X : Nat → Nat → Nat → Int} {s0 : Sx} {f : Nat} (hcl : closedK (nxX L X 0) (goK (nxX L X 0) f [s0] [s0]) = true) : ToldC L X s0 (((goK (nxX L X 0) f [s0] [s0]).flatMap (clsL L X)).foldr insL []) := by
  have hr : ∀ s, s ∈ goK (nxX L X 0) f [s0] [s0] → Rch (nxX L X 0) s0 s := go_reach (fun x hx => by rw [List.mem_singleton.mp hx]; exact .base) (fun x hx => by rw [List.mem_singleton.mp hx]; exact .base)
  have hall : ∀ s, Rch (nxX L X 0) s0 s → s ∈ goK (nxX L X 0) f [s0] [s0] := fun s hs => by
    induction hs with
    | base => exact go_more (by simp)
    | step _ ht ih =>
      unfold closedK at hcl
      rw [List.all_eq_true] at hcl
      have := hcl _ ih
      rw [List.all_eq_true] at this
      simpa using this _ ht
  refine ⟨?_, fun c => ?_⟩
  · have : ∀ l : List (List Int), SortedL (l.foldr insL []) := fun l => by
      induction l with
      | nil => exact List.Pairwise.nil
      | cons a l ih => exact sorted_insL ih
    exact this _
  · have : ∀ l : List (List Int), c ∈ l.foldr insL [] ↔ c ∈ l := fun l => by
      induction l with
      | nil => exact Iff.rfl
      | cons a l ih => rw [List.foldr_cons, mem_insL, ih, List.mem_cons]
    rw [this, List.mem_flatMap]
    exact ⟨fun ⟨s, h1, h2⟩ => ⟨s, hr s h1, mem_clsL.mp h2⟩, fun ⟨s, h1, h2⟩ => ⟨s, hall s h1, mem_clsL.mpr h2⟩⟩
/-- One thread stores, one loads. -/
def litL : Nat → Nat := fun _ => 1
def litX : Nat → Nat → Nat → Int := fun t _ q => if q = 0 then (if t = 0 then 9 else 8) else 0
def litS : List Sx := goK (nxX litL litX 0) 100 [beginX 2 [0] 0 1] [beginX 2 [0] 0 1]
theorem lit_len : litS.length ≤ 4000 ∧ ((litS.flatMap (clsL litL litX)).foldr insL []).length = 1 := by decide +kernel
theorem lit_closed : closedK (nxX litL litX 0) (goK (nxX litL litX 0) 100 [beginX 2 [0] 0 1] [beginX 2 [0] 0 1]) = true := by decide +kernel
/-- How many states they come to, and their clash. -/
theorem lit_told : Told (nxX litL litX 0) (fun _ => []) (beginX 2 [0] 0 1) 4000 false ((litS.flatMap fun _ => []).foldr insO []) :=
  told_of (f := 100) lit_closed (by have := lit_len.1; unfold litS at this; exact this)
theorem lit_one {full : Bool} {l : List (List Int)} (h1 : Told (nxX litL litX 0) (fun _ => []) (beginX 2 [0] 0 1) 4000 full []) (h2 : full = false → ToldC litL litX (beginX 2 [0] 0 1) l) : full = false ∧ l.length = 1 := by
  obtain ⟨e, _⟩ := told_same h1 lit_told
  refine ⟨e, ?_⟩
  have := toldC_same (h2 e) (toldC_of lit_closed)
  rw [this]
  exact lit_len.2
theorem lit_chk : chk 2 litL litX 1 0 1 = (0, 0, 0) := by decide +kernel
end

section
open Go.RowKit

theorem bad_none {E : Nat → Int} : ∀ (f k : Nat), firstBad E f k = none → ∀ i, k ≤ i → i < k + f → E i = 0
  | 0, k, _, i, h1, h2 => by omega
  | f + 1, k, h, i, h1, h2 => by
    rw [firstBad] at h
    split at h
    · rename_i h0
      by_cases e : i = k
      · subst e; exact h0
      · exact bad_none f (k + 1) h i (by omega) (by omega)
    · cases h
theorem thread_ok {R : Nat → Option (Int × Int)} (hR : ∀ t c a, R t = some (c, a) → c ≠ 0) : ∀ (f k : Nat), (firstThread R f k).1 = 0 → ∀ i, k ≤ i → i < k + f → R i = none
  | 0, k, _, i, h1, h2 => by omega
  | f + 1, k, h, i, h1, h2 => by
    rw [firstThread] at h
    split at h
    · rename_i h0
      by_cases e : i = k
      · subst e; exact h0
      · exact thread_ok hR f (k + 1) h i (by omega) (by omega)
    · rename_i c a h0
      exact absurd h (hR k c a h0)
theorem thread_zero {R : Nat → Option (Int × Int)} (hR : ∀ t c a, R t = some (c, a) → c ≠ 0) : ∀ (f k : Nat), (firstThread R f k).1 = 0 → firstThread R f k = (0, 0, 0)
  | 0, _, _ => rfl
  | f + 1, k, h => by
    rw [firstThread] at h ⊢
    split at h
    · exact thread_zero hR f (k + 1) h
    · rename_i c a h0
      exact absurd h (hR k c a h0)
theorem bad_ne {E : Nat → Int} : ∀ (f k : Nat) (c a : Int), firstBad E f k = some (c, a) → c ≠ 0
  | 0, k, c, a, h => by simp [firstBad] at h
  | f + 1, k, c, a, h => by
    rw [firstBad] at h
    split at h
    · exact bad_ne f (k + 1) c a h
    · rename_i h0
      simp only [Option.some.injEq, Prod.mk.injEq] at h
      rw [← h.1]; exact h0
theorem thr_ne {rg wd lk : Int} {L : Nat → Nat} {X : Nat → Nat → Nat → Int} : ∀ t c a, thr rg wd lk L X t = some (c, a) → c ≠ 0 := fun t c a e => by
  unfold thr at e
  split at e
  · simp at e; omega
  · exact bad_ne _ _ _ _ e

/-- What Check lets pass: the sizes, every order. -/
theorem chk_cok {n m : Nat} {L : Nat → Nat} {X : Nat → Nat → Nat → Int} {lk rg x y z : Int} (h : chk n L X m lk rg = (x, y, z)) (hx : x = 0) : y = 0 ∧ z = 0 ∧ 0 < n ∧ ∃ lk' rg' : Nat, lk = lk' ∧ rg = rg' ∧ COk n L X m lk' rg' := by
  subst hx
  unfold chk at h
  split at h
  · rename_i h1
    simp only [Prod.mk.injEq] at h
    exact absurd h.1 h1
  · rename_i h1
    have h1 : sizesE n m lk rg = 0 := by simpa using h1
    unfold sizesE at h1
    split at h1
    · cases h1
    · split at h1
      · cases h1
      · rename_i h2 h3
        have hz := thread_zero thr_ne n 0 (by rw [h])
        rw [h] at hz
        simp only [Prod.mk.injEq] at hz
        have hR : ∀ t, t < n → thr rg m lk L X t = none := fun t ht => thread_ok thr_ne n 0 (by rw [h]) t (Nat.zero_le _) (by omega)
        have hL : ∀ t, t < n → L t ≤ 400 ∧ firstBad (fun i => ordE rg m lk (L t) (X t i 0) (X t i 1) (X t i 2) (X t i 3)) (L t) 0 = none := fun t ht => by
          have := hR t ht
          unfold thr at this
          split at this
          · cases this
          · exact ⟨by omega, this⟩
        obtain ⟨lk', rfl⟩ := Int.eq_ofNat_of_zero_le (by omega : 0 ≤ lk)
        obtain ⟨rg', rfl⟩ := Int.eq_ofNat_of_zero_le (by omega : 0 ≤ rg)
        exact ⟨hz.2.1, hz.2.2, by omega, lk', rg', rfl, rfl, by omega, fun t ht => (hL t ht).1, by omega, by omega, by omega, by omega, fun t i ht hi => bad_none (L t) 0 (hL t ht).2 i (Nat.zero_le _) (by omega)⟩
end

section
open Go.RowKit

theorem find_lit (w : World) (ca : Option Addr) (cc : Nat) (wa : Option Addr) (wc : Nat) (A : Nat → Option Addr) (C : Nat → Nat) (hp : PIn w ca 2 A litL C litX) (hw : SIs w wa [0]) (hwa : wa ≠ none) (htab : TabB w.heap.size w) :
    Calls Tryz.prog 7 #[prgV ca 2 cc wa 1 wc 0 1] w fun e w' => ∃ a cap, e = .returned (.tuple #[.slice a 1 cap, ints3 0 0 0]) ∧ Below w.heap.size w w' := by
  obtain ⟨_, _, hn0, lk', rg', e1, e2, hc⟩ := chk_cok lit_chk rfl
  obtain rfl : lk' = 0 := by omega
  obtain rfl : rg' = 1 := by omega
  refine Calls.mono (find_yes w ca 2 cc wa wc 0 1 [0] A litL C litX lit_chk hp hc hn0 hw (fun h => absurd h hwa) (fun t i _ _ => ?_) (fun x hx => ?_) htab) ?_
  · unfold I64n litX; simp
  · rw [List.mem_singleton.mp hx]; unfold I64n; simp
  · rintro e w' ⟨full, a, cap, l, h1, h2, _, _, h5, h6⟩
    obtain ⟨rfl, hl⟩ := lit_one h2 h5
    rw [hl] at h1
    exact ⟨a, cap, h1, h6⟩
/-- Where the two threads lie. -/
structure LitAt (W : World) (ca wa : Option Addr) : Prop where
  prog : PIn W ca 2 (fun t => ca.map fun p => ⟨p.block - 2 + t, 0, none⟩) litL (fun _ => 1) litX
  words : SIs W wa [0]
  some : wa ≠ none
theorem lit_cell {t q : Nat} (hq : q < 4) : (#[Value.int .i64 (litX t 0 0), .int .i64 0, .int .i64 0, .int .i64 0] : Array Value)[q]? = Option.some (.int .i64 (litX t 0 q)) := by
  match q, hq with
  | 0, _ => rfl
  | 1, _ => rfl
  | 2, _ => rfl
  | 3, _ => rfl
theorem lit_lay (w : World) : LitAt ((((w.alloc (.cells #[.int .i64 9, .int .i64 0, .int .i64 0, .int .i64 0] 34)).alloc (.cells #[.int .i64 8, .int .i64 0, .int .i64 0, .int .i64 0] 34)).alloc (.cells #[.slice (some ⟨w.heap.size, 0, none⟩) 1 1, .slice (some ⟨w.heap.size + 1, 0, none⟩) 1 1] 35)).alloc (.cells #[.int .i64 0] 3)) (some ⟨w.heap.size + 1 + 1, 0, none⟩) (some ⟨w.heap.size + 1 + 1 + 1, 0, none⟩) := by
  obtain ⟨O1, h1⟩ : ∃ o : Obj, o = .cells #[.int .i64 9, .int .i64 0, .int .i64 0, .int .i64 0] 34 := ⟨_, rfl⟩
  obtain ⟨O2, h2⟩ : ∃ o : Obj, o = .cells #[.int .i64 8, .int .i64 0, .int .i64 0, .int .i64 0] 34 := ⟨_, rfl⟩
  obtain ⟨O3, h3⟩ : ∃ o : Obj, o = .cells #[.slice (some ⟨w.heap.size, 0, none⟩) 1 1, .slice (some ⟨w.heap.size + 1, 0, none⟩) 1 1] 35 := ⟨_, rfl⟩
  obtain ⟨O4, h4⟩ : ∃ o : Obj, o = .cells #[.int .i64 0] 3 := ⟨_, rfl⟩
  rw [← h1, ← h2, ← h3, ← h4]
  have b1 : ((((w.alloc O1).alloc O2).alloc O3).alloc O4).heap[w.heap.size]? = some O1 := box_later (box_later (box_later (heap_alloc_new w O1) O2) O3) O4
  have b2 : ((((w.alloc O1).alloc O2).alloc O3).alloc O4).heap[w.heap.size + 1]? = some O2 := box_later (box_later (by have := heap_alloc_new (w.alloc O1) O2; rwa [World.size_alloc] at this) O3) O4
  have b3 : ((((w.alloc O1).alloc O2).alloc O3).alloc O4).heap[w.heap.size + 1 + 1]? = some O3 := box_later (by have := heap_alloc_new ((w.alloc O1).alloc O2) O3; rwa [World.size_alloc, World.size_alloc] at this) O4
  have b4 : ((((w.alloc O1).alloc O2).alloc O3).alloc O4).heap[w.heap.size + 1 + 1 + 1]? = some O4 := by have := heap_alloc_new (((w.alloc O1).alloc O2).alloc O3) O4; rwa [World.size_alloc, World.size_alloc, World.size_alloc] at this
  obtain ⟨W, hW⟩ : ∃ W, W = ((((w.alloc O1).alloc O2).alloc O3).alloc O4) := ⟨_, rfl⟩
  rw [← hW] at b1 b2 b3 b4 ⊢
  rw [h1] at b1
  rw [h2] at b2
  rw [h3] at b3
  rw [h4] at b4
  refine ⟨⟨fun t ht => ⟨w.heap.size + 1 + 1, 0, rfl, ?_⟩, fun t i ht hi => ?_, fun t ht => by unfold litL; omega, by omega⟩, fun i hi => ⟨w.heap.size + 1 + 1 + 1, 0, rfl, ?_⟩, fun e => by cases e⟩
  · match t, ht with
    | 0, _ => exact box_cell b3 rfl
    | 1, _ => exact box_cell b3 rfl
  · obtain rfl : i = 0 := by have : i < 1 := hi; omega
    match t, ht with
    | 0, _ => exact ⟨w.heap.size, 0, rfl, box_cell b1 (lit_cell (t := 0) (by omega)), box_cell b1 (lit_cell (t := 0) (q := 1) (by omega)), box_cell b1 (lit_cell (t := 0) (q := 2) (by omega)), box_cell b1 (lit_cell (t := 0) (q := 3) (by omega))⟩
    | 1, _ => exact ⟨w.heap.size + 1, 0, rfl, box_cell b2 (lit_cell (t := 1) (by omega)), box_cell b2 (lit_cell (t := 1) (q := 1) (by omega)), box_cell b2 (lit_cell (t := 1) (q := 2) (by omega)), box_cell b2 (lit_cell (t := 1) (q := 3) (by omega))⟩
  · obtain rfl : i = 0 := by have : i < 1 := hi; omega
    exact box_cell b4 rfl
theorem find_litAt (w : World) (ca wa : Option Addr) (cc wc : Nat) (h : LitAt w ca wa) (htab : TabB w.heap.size w) :
    Calls Tryz.prog 7 #[prgV ca 2 cc wa 1 wc 0 1] w fun e w' => ∃ a cap, e = .returned (.tuple #[.slice a 1 cap, ints3 0 0 0]) ∧ Below w.heap.size w w' := find_lit w ca cc wa wc _ _ h.prog h.words h.some htab
end

end Go.Proofs.YtgofbkgfonlceacGreatDoor
