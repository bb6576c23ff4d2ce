/-
  What the document's Ints does with two lists of the same numbers.
  A list of numbers that was made is one that can be read.
  Orders anew, by the program: what each becomes is told by a function.
  Orders that were made, as a program of their own.
  Moves of the document's run: x.
  Moves of the document's run: a store by a register.
  Two programs that were made anew are the same; a program that is some.
-/
import Derived.Test.YtocfocjnnjdcgaaDoorBase
import Derived.Test.YtocfocjnnjdcgaaDoorOrder
import Derived.Test.YtocfocjnnjdcgaaDoorRDone
import Derived.Test.YtocfocjnnjdcgaaDoorBox
import Derived.Deep.RegionHeld3
import Derived.Test.YtocfocjnnjdcgaaDoorCOkP
import Derived.Test.YtocfocjnnjdcgaaDoorRDoP
import Derived.Test.YtocfocjnnjdcgaaDoorRunP
namespace Go.Proofs.YtocfocjnnjdcgaaDoor
section
open Go.RowKit

/-- A list of numbers lies in w. -/
def IIn (w : World) (a : Option Addr) (n : Nat) (X : Nat → Int) : Prop := ∀ i, i < n → ∃ b o, a = some ⟨b, o, none⟩ ∧ w.cell? ⟨b, o + i, none⟩ = some (.int .i64 (X i))
theorem IIn.below {w w' : World} {a : Option Addr} {n : Nat} {X : Nat → Int} (h : IIn w a n X) (hb : Below w.heap.size w w') : IIn w' a n X := fun i hi => by
  obtain ⟨b, o, hc, h1⟩ := h i hi
  exact ⟨b, o, hc, (hb.cell (lt_of_cell h1)).trans h1⟩
end

section
open Go.RowKit

theorem IsI.iin {w : World} {B : Nat} {a : Option Addr} {len c : Nat} {xs : List Int} (h : IsI w B a len c xs) : IIn w a len (fun i => xs.getD i 0) := fun i hi => by
  obtain ⟨g, cap, h1, h2, _, _⟩ := fam_block h.own (by omega)
  simp only [Value.slice.injEq] at h1
  exact ⟨g, 0, h1.1, by simpa using fam_cell h.own h2 (intsV_at (by rw [h.is]; exact hi))⟩
end

section
open Go.RowKit

theorem alloc_drew (w : World) (o : Obj) : (w.alloc o).drew.heap[w.heap.size]? = some o := heap_alloc_new w o
theorem cell_far4 {w : World} {b o b' o' : Nat} {u v : Value} (h : w.cell? ⟨b, o, none⟩ = some v) (hne : b ≠ b') : (w.setCell ⟨b', o', none⟩ u).cell? ⟨b, o, none⟩ = some v := by
  rw [World.cell?_of_block (w := w) (Below.heap_setCell _ _ _ _ (fun x => hne (by simpa using x)))]
  exact h
theorem raw_mem {b : Nat → List I4} {x : I4} : ∀ {L : Nat}, x ∈ rawR b L → ∃ i, i < L ∧ x ∈ b i
  | 0, h => by cases h
  | L + 1, h => by
    rw [rawR, List.mem_append] at h
    rcases h with h | h
    · obtain ⟨i, h1, h2⟩ := raw_mem h
      exact ⟨i, by omega, h2⟩
    · exact ⟨L, by omega, h⟩
attribute [local go_sem ↓] appS_eq in
end

section
open Go.RowKit

/-- Orders that were made, as a program's. -/
theorem new_pin {w : World} {B : Nat} {b : Nat → Nat → List I4} {L : Nat → Nat} {n : Nat} {cv : Value} {tv : List Value} (hc : w.ownsRow B 36 1 cv n tv) (ht : ∀ t, t < n → OwnC w B (tv.getD t nilV) (codeR (b t) (L t))) (hn : n ≤ 1000) (hl : ∀ t, t < n → lenR b L t ≤ 1000000) :
    ∃ ca cc A C, cv = .slice ca n cc ∧ PIn w ca n A (lenR b L) C (numR b L) := by
  obtain ⟨ca, cc, rfl⟩ := fam_form hc
  have htl : tv.length = n := by have := hc.1; omega
  have hf : ∀ t, ∃ a c, t < n → tv.getD t nilV = .slice a (lenR b L t) c := fun t => by
    by_cases h : t < n
    · obtain ⟨a, c, e⟩ := fam_form (ht t h)
      exact ⟨a, c, fun _ => e⟩
    · exact ⟨none, 0, fun h' => absurd h' h⟩
  refine ⟨ca, cc, fun t => (hf t).choose, fun t => (hf t).choose_spec.choose, rfl, ⟨fun t h => ?_, fun t i h hi => ?_, fun t h => by have := hl t h; omega, by omega⟩⟩
  · obtain ⟨g, cap, e, hg, _⟩ := fam_block hc (by omega)
    simp only [Value.slice.injEq] at e
    refine ⟨g, 0, e.1, ?_⟩
    have e2 := (hf t).choose_spec.choose_spec h
    have e3 : tv[t]? = some (tv.getD t nilV) := by simp [List.getD, show t < tv.length by omega]
    rw [e2] at e3
    rw [Nat.zero_add]
    exact fam_cell hc hg e3
  · have h1 := ht t h
    have e2 := (hf t).choose_spec.choose_spec h
    rw [e2] at h1
    obtain ⟨g, cap, e, hg, _⟩ := fam_block h1 (Nat.lt_of_le_of_lt (Nat.zero_le _) hi)
    simp only [Value.slice.injEq] at e
    obtain ⟨y0, y1, y2, y3⟩ := cellsT_at (l := codeR (b t) (L t)) hi fenceI
    refine ⟨g, 0, e.1, ?_, ?_, ?_, ?_⟩
    · rw [Nat.zero_add]; exact fam_cell h1 hg y0
    · rw [Nat.zero_add]; exact fam_cell h1 hg y1
    · rw [Nat.zero_add]; exact fam_cell h1 hg y2
    · rw [Nat.zero_add]; exact fam_cell h1 hg y3
/-- What a rewritten program is. -/
def NewQ (w : World) (n : Nat) (words : List Int) (lk rg : Int) (b : Nat → Nat → List I4) (L : Nat → Nat) (e : Ending) (w' : World) : Prop := ∃ (va : Option Addr) (vc : Nat) (ua : Option Addr) (uc : Nat) (tv : List Value), e = .returned (.agg #[.slice va n vc, .slice ua words.length uc, .int .i64 lk, .int .i64 rg]) ∧ w'.ownsRow w.heap.size 36 1 (.slice va n vc) n tv ∧ (∀ t, t < n → OwnC w' w.heap.size (tv.getD t nilV) (codeR (b t) (L t))) ∧ w'.ownsRow w.heap.size 3 1 (.slice ua words.length uc) words.length (intsV words) ∧ Below w.heap.size w w'
theorem NewQ.below {w V V' : World} {n : Nat} {words : List Int} {lk rg : Int} {b : Nat → Nat → List I4} {L : Nat → Nat} {e : Ending} (h : NewQ w n words lk rg b L e V) (hb : Below V.heap.size V V') : NewQ w n words lk rg b L e V' := by
  obtain ⟨va, vc, ua, uc, tv, h0, h1, h2, h3, h4⟩ := h
  exact ⟨va, vc, ua, uc, tv, h0, owns_below2 h1 hb, fun t ht => (h2 t ht).below hb, owns_below2 h3 hb, h4.trans (hb.mono h4.size)⟩
/-- Stores below it change nothing. -/
theorem NewQ.far {w U V V' : World} {n : Nat} {words : List Int} {lk rg : Int} {b : Nat → Nat → List I4} {L : Nat → Nat} {e : Ending} (h : NewQ U n words lk rg b L e V) (hk : ∀ g, U.heap.size ≤ g → g < V.heap.size → V'.heap[g]? = V.heap[g]?) (hw : w.heap.size ≤ U.heap.size) (hb : Below w.heap.size w V') : NewQ w n words lk rg b L e V' := by
  obtain ⟨va, vc, ua, uc, tv, h0, h1, h2, h3, h4⟩ := h
  exact ⟨va, vc, ua, uc, tv, h0, own_low (fam_keeps h1 fun g hg => hk g (h1.lt g hg).1 (h1.lt g hg).2) hw, fun t ht => own_low (fam_keeps (h2 t ht) fun g hg => hk g ((h2 t ht).lt g hg).1 ((h2 t ht).lt g hg).2) hw, own_low (fam_keeps h3 fun g hg => hk g (h3.lt g hg).1 (h3.lt g hg).2) hw, hb⟩
theorem sis_own {w : World} {B : Nat} {a : Option Addr} {c : Nat} {l : List Int} (h : w.ownsRow B 3 1 (.slice a l.length c) l.length (intsV l)) : SIs w a l := fun k hk => by
  obtain ⟨g, cap, e, hg, _⟩ := fam_block h (by omega)
  simp only [Value.slice.injEq] at e
  refine ⟨g, 0, e.1, ?_⟩
  rw [Nat.zero_add]
  exact fam_cell h hg (intsV_at hk)
end

section
open Go.RowKit

set_option maxRecDepth 100000 in
set_option maxHeartbeats 3200000 in
theorem do_8 (w : World) (B sb : Nat) (P : Pg) (v : Rl → Value) (s : Sx) (A : Nat → Option Addr) (L C : Nat → Nat) (X : Nat → Nat → Nat → Int) (m lk rg t : Nat) (mv : Int) (_h0 : 0 ≤ mv) (_h1 : mv ≤ 1000) (hq : mv / 8 = t) (hr : mv % 8 = 0) (hx : Cx w B sb P v s A L C X m lk rg t) (hop : opT X s t 0 = 8) :
    Calls Tryd.prog 80 #[.pointer (some ⟨sb, 0, none⟩), .int .i64 mv] w (DoQ B sb P v w (orderX P.mode (stepS s t) t 8 (opT X s t 1) (opT X s t 2) (opT X s t 3))) := by
  obtain ⟨n, tb, tc, rb, rc, pc, ⟨htn, hn4, hpc4⟩, HPC, c5, HNX, HPRE⟩ := hx.pre
  have htl : t < s.ths.length := by have := hx.ho.ths; have := hx.ht; omega
  have hrl : (thOf s t).regs.length = rg := hx.ho.regs t hx.ht
  have hord := hx.hc.ord t (thOf s t).pc hx.ht hx.hlt
  have hsz := hx.hc.L4 t hx.ht
  have hrg2 := hx.hc.rg2
  change ordE rg m lk (L t) (opT X s t 0) (opT X s t 1) (opT X s t 2) (opT X s t 3) = 0 at hord
  rw [hop] at hord
  rw [hop] at HNX
  obtain ⟨a, ea⟩ : ∃ x, opT X s t 1 = x := ⟨_, rfl⟩
  obtain ⟨b, eb⟩ : ∃ x, opT X s t 2 = x := ⟨_, rfl⟩
  obtain ⟨c, ec⟩ : ∃ x, opT X s t 3 = x := ⟨_, rfl⟩
  rw [ea, eb, ec] at hord HNX ⊢
  clear ea eb ec
  obtain ⟨⟨ia, rfl, ha⟩, ⟨ib, rfl, hb⟩⟩ := by
    have h3 := ok_load hord
    exact (⟨toN h3.1, toN h3.2⟩ : _ ∧ _)
  have hwl : s.words.length = m := hx.ho.words
  have hol : s.own.length = lk := hx.ho.own
  have hm64 := hx.hc.m64
  have hlk4 := hx.hc.lk4
  have hw3 := hx.ho.wlen t hx.ht
  have hthn := hx.ho.ths
  have hpn4 := hx.hc.n4
  have hsl : (stepS s t).ths.length = s.ths.length := stepS_len s t
  have hsw : (thOf (stepS s t) t).wait.length ≤ 3 := by rw [stepS_wait htl]; exact hw3
  have HST : Hid (orderX P.mode (stepS s t) t 8 (ia : Int) (ib : Int) c = setR (stepS s t) t (ia : Int) (findsW s t (ib : Int))) := by
    show setR (stepS s t) t (ia : Int) _ = _
    simp only [stepS_finds htl]
  have HX := Hid.out (p := Hid _) hx
  clear hx hord hop hsz
  go_enter Tryd.func80, Tryd.ntmps80
  go_wp2_with fail
  refine Calls.mono HNX.out ?_
  rintro e w1 ⟨rfl, hb1⟩
  have HP := HPRE.out w1 hb1
  have d5 := HP.c5
  have dp := HP.cp
  have df := HP.cf
  have dr := HP.cr
  have nrt := HP.nrt
  have ntr := HP.ntr
  have lrb := HP.lrb
  have ltb := HP.ltb
  have fa := HP.frz ia
  have wa := HP.regW htl (r := ia) (by omega)
  obtain ⟨VA, eA⟩ : ∃ x, getR s t (ia : Int) = x := ⟨_, rfl⟩
  rw [eA] at wa
  clear eA
  have HF := Hid.out (p := Hid _) (HP.fin htl ia (findsW s t (ib : Int)))
  have HC : Hid (∀ o, Calls Tryd.prog 98 #[.pointer (some ⟨sb, 0, none⟩), .int .i64 t, .int .i64 (ib : Int)] ((w1.setCell ⟨tb, t * 3, none⟩ (.int .i64 ((pc : Int) + 1))).alloc o).drew fun e w' => e = .returned (.int .i64 (findsW s t (ib : Int))) ∧ w' = ((w1.setCell ⟨tb, t * 3, none⟩ (.int .i64 ((pc : Int) + 1))).alloc o).drew) := fun o => by
    have := finds_D _ B sb P v (stepS s t) t ib ((HP.D.alloc o).drew) (by rw [hsl]; exact htl) (by rw [hsl]; omega) (by show ib < s.words.length; omega) (by show s.words.length ≤ 64; omega) hsw
    rwa [stepS_finds htl] at this
  clear HP HPRE HNX
  go_wp2
  refine region_tail 9 (by kernel_rfl) (by kernel_rfl) ?_
  simp only [List.take_succ_cons, List.take_zero, List.drop_succ_cons, List.drop_zero]
  repeat still_step
  still_call (HC.out _)
  repeat still_step
  refine wpStill_nil ?_
  go_wp2
  all_goals go_end0
  all_goals refine ⟨rfl, v, ?_⟩
  all_goals rw [HST.out]
  all_goals exact ⟨DSt.same (HF.out.1.alloc _) rfl, Moved.same (HF.out.2.alloc _) rfl rfl rfl rfl⟩

set_option maxRecDepth 100000 in
set_option maxHeartbeats 3200000 in
theorem do_9 (w : World) (B sb : Nat) (P : Pg) (v : Rl → Value) (s : Sx) (A : Nat → Option Addr) (L C : Nat → Nat) (X : Nat → Nat → Nat → Int) (m lk rg t : Nat) (mv : Int) (_h0 : 0 ≤ mv) (_h1 : mv ≤ 1000) (hq : mv / 8 = t) (hr : mv % 8 = 0) (hx : Cx w B sb P v s A L C X m lk rg t) (hop : opT X s t 0 = 9) :
    Calls Tryd.prog 80 #[.pointer (some ⟨sb, 0, none⟩), .int .i64 mv] w (DoQ B sb P v w (orderX P.mode (stepS s t) t 9 (opT X s t 1) (opT X s t 2) (opT X s t 3))) := by
  obtain ⟨n, tb, tc, rb, rc, pc, ⟨htn, hn4, hpc4⟩, HPC, c5, HNX, HPRE⟩ := hx.pre
  have htl : t < s.ths.length := by have := hx.ho.ths; have := hx.ht; omega
  have hrl : (thOf s t).regs.length = rg := hx.ho.regs t hx.ht
  have hord := hx.hc.ord t (thOf s t).pc hx.ht hx.hlt
  have hsz := hx.hc.L4 t hx.ht
  have hrg2 := hx.hc.rg2
  change ordE rg m lk (L t) (opT X s t 0) (opT X s t 1) (opT X s t 2) (opT X s t 3) = 0 at hord
  rw [hop] at hord
  rw [hop] at HNX
  obtain ⟨a, ea⟩ : ∃ x, opT X s t 1 = x := ⟨_, rfl⟩
  obtain ⟨b, eb⟩ : ∃ x, opT X s t 2 = x := ⟨_, rfl⟩
  obtain ⟨c, ec⟩ : ∃ x, opT X s t 3 = x := ⟨_, rfl⟩
  rw [ea, eb, ec] at hord HNX ⊢
  clear ea eb ec
  obtain ⟨⟨ia, rfl, ha⟩, ⟨ib, rfl, hb⟩⟩ := by
    have h3 := ok_store hord
    exact (⟨toN h3.1, toN h3.2⟩ : _ ∧ _)
  have hwl : s.words.length = m := hx.ho.words
  have hol : s.own.length = lk := hx.ho.own
  have hm64 := hx.hc.m64
  have hlk4 := hx.hc.lk4
  have hw3 := hx.ho.wlen t hx.ht
  have hthn := hx.ho.ths
  have hpn4 := hx.hc.n4
  have hsl : (stepS s t).ths.length = s.ths.length := stepS_len s t
  have hsw : (thOf (stepS s t) t).wait.length ≤ 3 := by rw [stepS_wait htl]; exact hw3
  obtain ⟨Vb, eb⟩ : ∃ x, getR s t (ib : Int) = x := ⟨_, rfl⟩
  have HVb : Hid (getR s t (ib : Int) = Vb) := eb
  have HST : Hid (orderX P.mode (stepS s t) t 9 (ia : Int) (ib : Int) c = storeW P.mode (stepS s t) t ⟨false, (ia : Int), Vb⟩) := by
    show storeW P.mode (stepS s t) t ⟨false, (ia : Int), _⟩ = _
    rw [stepS_getR htl, eb]
  clear eb
  have hmode := hx.hm
  have hBw := hx.hB
  have HX := Hid.out (p := Hid _) hx
  clear hx hord hop hsz
  go_enter Tryd.func80, Tryd.ntmps80
  go_wp2_with fail
  refine Calls.mono HNX.out ?_
  rintro e w1 ⟨rfl, hb1⟩
  have HP := HPRE.out w1 hb1
  have d5 := HP.c5
  have dp := HP.cp
  have df := HP.cf
  have dr := HP.cr
  have nrt := HP.nrt
  have ntr := HP.ntr
  have lrb := HP.lrb
  have ltb := HP.ltb
  have wb := HP.regW htl (r := ib) (by omega)
  rw [HVb.out] at wb
  have HC : Hid (∀ o, Calls Tryd.prog 99 #[.pointer (some ⟨sb, 0, none⟩), .int .i64 t, .agg #[.bool false, .int .i64 (ia : Int), .int .i64 Vb]] ((w1.setCell ⟨tb, t * 3, none⟩ (.int .i64 ((pc : Int) + 1))).alloc o).drew fun e w' => e = .returned (.tuple #[]) ∧ ∃ v', DSt w' B P sb v' (storeW P.mode (stepS s t) t ⟨false, (ia : Int), Vb⟩) ∧ Moved w w' v v') := fun o =>
    (store_any _ B sb P v (stepS s t) t ⟨false, (ia : Int), Vb⟩ ((HP.D.alloc o).drew) (by have := (HP.M.alloc o).size; simp at this ⊢; omega) hmode (by rw [hsl]; exact htl) (by rw [hsl]; omega) hsw (by show (0 : Int) ≤ (ia : Int); omega) (by show (ia : Int) < ((s.words.length : Nat) : Int); omega) (by show s.words.length ≤ 64; omega) (by show s.own.length ≤ 4; omega)).mono fun e w' ⟨h1, v', h2, h3⟩ => ⟨h1, v', h2, ((HP.M.alloc o).drew).trans h3⟩
  clear HP HPRE HNX
  go_wp2
  refine region_tail 10 (by kernel_rfl) (by kernel_rfl) ?_
  simp only [List.take_succ_cons, List.take_zero, List.drop_succ_cons, List.drop_zero]
  repeat still_step
  refine wpStill_nil ?_
  go_wp2_with fail
  refine Calls.mono (HC.out _) ?_
  rintro e w2 ⟨rfl, v2, hD2, hM2⟩
  go_wp2_with fail
  go_end0
  refine ⟨rfl, v2, ?_⟩
  rw [HST.out]
  exact ⟨hD2, hM2⟩

set_option maxRecDepth 100000 in
set_option maxHeartbeats 3200000 in
theorem do_12 (w : World) (B sb : Nat) (P : Pg) (v : Rl → Value) (s : Sx) (A : Nat → Option Addr) (L C : Nat → Nat) (X : Nat → Nat → Nat → Int) (m lk rg t : Nat) (mv : Int) (_h0 : 0 ≤ mv) (_h1 : mv ≤ 1000) (hq : mv / 8 = t) (hr : mv % 8 = 0) (hx : Cx w B sb P v s A L C X m lk rg t) (hop : opT X s t 0 = 12) :
    Calls Tryd.prog 80 #[.pointer (some ⟨sb, 0, none⟩), .int .i64 mv] w (DoQ B sb P v w (orderX P.mode (stepS s t) t 12 (opT X s t 1) (opT X s t 2) (opT X s t 3))) := by
  obtain ⟨n, tb, tc, rb, rc, pc, ⟨htn, hn4, hpc4⟩, HPC, c5, HNX, HPRE⟩ := hx.pre
  have htl : t < s.ths.length := by have := hx.ho.ths; have := hx.ht; omega
  have hrl : (thOf s t).regs.length = rg := hx.ho.regs t hx.ht
  have hord := hx.hc.ord t (thOf s t).pc hx.ht hx.hlt
  have hsz := hx.hc.L4 t hx.ht
  have hrg2 := hx.hc.rg2
  change ordE rg m lk (L t) (opT X s t 0) (opT X s t 1) (opT X s t 2) (opT X s t 3) = 0 at hord
  rw [hop] at hord
  rw [hop] at HNX
  obtain ⟨a, ea⟩ : ∃ x, opT X s t 1 = x := ⟨_, rfl⟩
  obtain ⟨b, eb⟩ : ∃ x, opT X s t 2 = x := ⟨_, rfl⟩
  obtain ⟨c, ec⟩ : ∃ x, opT X s t 3 = x := ⟨_, rfl⟩
  rw [ea, eb, ec] at hord HNX ⊢
  clear ea eb ec
  have hwl : s.words.length = m := hx.ho.words
  have hol : s.own.length = lk := hx.ho.own
  have hm64 := hx.hc.m64
  have hlk4 := hx.hc.lk4
  have hw3 := hx.ho.wlen t hx.ht
  have hthn := hx.ho.ths
  have hpn4 := hx.hc.n4
  have hsl : (stepS s t).ths.length = s.ths.length := stepS_len s t
  have hsw : (thOf (stepS s t) t).wait.length ≤ 3 := by rw [stepS_wait htl]; exact hw3
  have HST : Hid (orderX P.mode (stepS s t) t 12 a b c = stepS s t) := rfl
  have HX := Hid.out (p := Hid _) hx
  clear hx hord hop hsz
  go_enter Tryd.func80, Tryd.ntmps80
  go_wp2_with fail
  refine Calls.mono HNX.out ?_
  rintro e w1 ⟨rfl, hb1⟩
  have HP := HPRE.out w1 hb1
  have d5 := HP.c5
  have dp := HP.cp
  have df := HP.cf
  have dr := HP.cr
  have nrt := HP.nrt
  have ntr := HP.ntr
  have lrb := HP.lrb
  have ltb := HP.ltb
  have HF : Hid (DSt (w1.setCell ⟨tb, t * 3, none⟩ (.int .i64 ((pc : Int) + 1))) B P sb v (stepS s t) ∧ Moved w (w1.setCell ⟨tb, t * 3, none⟩ (.int .i64 ((pc : Int) + 1))) v v) := ⟨HP.D, HP.M⟩
  clear HP HPRE HNX
  go_wp2
  all_goals go_end0
  all_goals refine ⟨rfl, v, ?_⟩
  all_goals rw [HST.out]
  all_goals exact ⟨DSt.same (HF.out.1.alloc _) rfl, Moved.same (HF.out.2.alloc _) rfl rfl rfl rfl⟩

set_option maxRecDepth 100000 in
set_option maxHeartbeats 3200000 in
theorem do_17 (w : World) (B sb : Nat) (P : Pg) (v : Rl → Value) (s : Sx) (A : Nat → Option Addr) (L C : Nat → Nat) (X : Nat → Nat → Nat → Int) (m lk rg t : Nat) (mv : Int) (_h0 : 0 ≤ mv) (_h1 : mv ≤ 1000) (hq : mv / 8 = t) (hr : mv % 8 = 0) (hx : Cx w B sb P v s A L C X m lk rg t) (hop : opT X s t 0 = 17) :
    Calls Tryd.prog 80 #[.pointer (some ⟨sb, 0, none⟩), .int .i64 mv] w (DoQ B sb P v w (orderX P.mode (stepS s t) t 17 (opT X s t 1) (opT X s t 2) (opT X s t 3))) := by
  obtain ⟨n, tb, tc, rb, rc, pc, ⟨htn, hn4, hpc4⟩, HPC, c5, HNX, HPRE⟩ := hx.pre
  have htl : t < s.ths.length := by have := hx.ho.ths; have := hx.ht; omega
  have hrl : (thOf s t).regs.length = rg := hx.ho.regs t hx.ht
  have hord := hx.hc.ord t (thOf s t).pc hx.ht hx.hlt
  have hsz := hx.hc.L4 t hx.ht
  have hrg2 := hx.hc.rg2
  change ordE rg m lk (L t) (opT X s t 0) (opT X s t 1) (opT X s t 2) (opT X s t 3) = 0 at hord
  rw [hop] at hord
  rw [hop] at HNX
  obtain ⟨a, ea⟩ : ∃ x, opT X s t 1 = x := ⟨_, rfl⟩
  obtain ⟨b, eb⟩ : ∃ x, opT X s t 2 = x := ⟨_, rfl⟩
  obtain ⟨c, ec⟩ : ∃ x, opT X s t 3 = x := ⟨_, rfl⟩
  rw [ea, eb, ec] at hord HNX ⊢
  clear ea eb ec
  obtain ⟨ia, rfl, ha⟩ := toN (ok_lock (Or.inl rfl) hord)
  have hwl : s.words.length = m := hx.ho.words
  have hol : s.own.length = lk := hx.ho.own
  have hm64 := hx.hc.m64
  have hlk4 := hx.hc.lk4
  have hw3 := hx.ho.wlen t hx.ht
  have hthn := hx.ho.ths
  have hpn4 := hx.hc.n4
  have hsl : (stepS s t).ths.length = s.ths.length := stepS_len s t
  have hsw : (thOf (stepS s t) t).wait.length ≤ 3 := by rw [stepS_wait htl]; exact hw3
  have HST : Hid (orderX P.mode (stepS s t) t 17 (ia : Int) b c = { stepS s t with own := (stepS s t).own.set ia (t : Int) }) := rfl
  have HX := Hid.out (p := Hid _) hx
  clear hx hord hop hsz
  go_enter Tryd.func80, Tryd.ntmps80
  go_wp2_with fail
  refine Calls.mono HNX.out ?_
  rintro e w1 ⟨rfl, hb1⟩
  have HP := HPRE.out w1 hb1
  have d5 := HP.c5
  have dp := HP.cp
  have df := HP.cf
  have dr := HP.cr
  have nrt := HP.nrt
  have ntr := HP.ntr
  have lrb := HP.lrb
  have ltb := HP.ltb
  obtain ⟨ob, oc, hov, hob, hlo⟩ := HP.D.ownB (by show 0 < s.own.length; omega)
  have HF : Hid (DSt ((w1.setCell ⟨tb, t * 3, none⟩ (.int .i64 ((pc : Int) + 1))).setCell ⟨ob, ia, none⟩ (.int .i64 (t : Int))) B P sb v { stepS s t with own := (stepS s t).own.set ia (t : Int) } ∧ Moved w ((w1.setCell ⟨tb, t * 3, none⟩ (.int .i64 ((pc : Int) + 1))).setCell ⟨ob, ia, none⟩ (.int .i64 (t : Int))) v v) := ⟨HP.D.setOwn hob ia t, HP.M.put hob ia _⟩
  have nso := HP.D.fam.ne HP.D.bblk HP.btb (by simp)
  have nto := HP.D.fam.ne HP.btb hob (by simp)
  have not := HP.D.fam.ne hob HP.btb (by simp)
  have c7 := HP.D.c7
  rw [hov, show (stepS s t).own.length = s.own.length from rfl, hol] at c7
  have c7' := (World.cell?_of_block (w := w1) (a := ⟨sb, 7, none⟩) (Below.heap_setCell _ _ _ _ HP.nst)).symm.trans c7
  have co := HP.D.owner hob (r := ia) (by show ia < s.own.length; omega)
  have co' := (World.cell?_of_block (w := w1) (a := ⟨ob, ia, none⟩) (Below.heap_setCell _ _ _ _ not)).symm.trans co
  have fo := HP.D.fam.frozen hob ia
  have fo' := (World.frozen?_of_block (w := w1) (a := ⟨ob, ia, none⟩) (Below.heap_setCell _ _ _ _ not)).symm.trans fo
  have lsb := HP.lsb
  have lob : ob < w1.heap.size := by simpa [World.setCell] using hlo
  obtain ⟨y, ey⟩ : ∃ y, (stepS s t).own.getD ia 0 = y := ⟨_, rfl⟩
  rw [ey] at co'
  clear HP HPRE HNX hov hob c7 co fo ey hlo
  go_wp2
  refine region_tail 8 (by kernel_rfl) (by kernel_rfl) ?_
  simp only [List.take_succ_cons, List.take_zero, List.drop_succ_cons, List.drop_zero]
  repeat still_step
  refine wpStill_nil ?_
  go_wp2
  all_goals go_end0
  all_goals refine ⟨rfl, v, ?_⟩
  all_goals rw [HST.out]
  all_goals exact ⟨DSt.same (HF.out.1.alloc _) rfl, Moved.same (HF.out.2.alloc _) rfl rfl rfl rfl⟩
end

section
open Go.RowKit

set_option maxRecDepth 100000 in
set_option maxHeartbeats 3200000 in
theorem do_11 (w : World) (B sb : Nat) (P : Pg) (v : Rl → Value) (s : Sx) (A : Nat → Option Addr) (L C : Nat → Nat) (X : Nat → Nat → Nat → Int) (m lk rg t : Nat) (mv : Int) (_h0 : 0 ≤ mv) (_h1 : mv ≤ 1000) (hq : mv / 8 = t) (hr : mv % 8 = 0) (hx : Cx w B sb P v s A L C X m lk rg t) (hop : opT X s t 0 = 11) :
    Calls Tryd.prog 80 #[.pointer (some ⟨sb, 0, none⟩), .int .i64 mv] w (DoQ B sb P v w (orderX P.mode (stepS s t) t 11 (opT X s t 1) (opT X s t 2) (opT X s t 3))) := by
  obtain ⟨n, tb, tc, rb, rc, pc, ⟨htn, hn4, hpc4⟩, HPC, c5, HNX, HPRE⟩ := hx.pre
  have htl : t < s.ths.length := by have := hx.ho.ths; have := hx.ht; omega
  have hrl : (thOf s t).regs.length = rg := hx.ho.regs t hx.ht
  have hord := hx.hc.ord t (thOf s t).pc hx.ht hx.hlt
  have hsz := hx.hc.L4 t hx.ht
  have hrg2 := hx.hc.rg2
  change ordE rg m lk (L t) (opT X s t 0) (opT X s t 1) (opT X s t 2) (opT X s t 3) = 0 at hord
  rw [hop] at hord
  rw [hop] at HNX
  obtain ⟨a, ea⟩ : ∃ x, opT X s t 1 = x := ⟨_, rfl⟩
  obtain ⟨b, eb⟩ : ∃ x, opT X s t 2 = x := ⟨_, rfl⟩
  obtain ⟨c, ec⟩ : ∃ x, opT X s t 3 = x := ⟨_, rfl⟩
  rw [ea, eb, ec] at hord HNX ⊢
  clear ea eb ec
  obtain ⟨⟨ia, rfl, ha⟩, ⟨ib, rfl, hb⟩⟩ := by
    have h3 := ok_rr (by omega) hord
    exact (⟨toN h3.1, toN h3.2⟩ : _ ∧ _)
  have hwl : s.words.length = m := hx.ho.words
  have hol : s.own.length = lk := hx.ho.own
  have hm64 := hx.hc.m64
  have hlk4 := hx.hc.lk4
  have hw3 := hx.ho.wlen t hx.ht
  have hthn := hx.ho.ths
  have hpn4 := hx.hc.n4
  have hsl : (stepS s t).ths.length = s.ths.length := stepS_len s t
  have hsw : (thOf (stepS s t) t).wait.length ≤ 3 := by rw [stepS_wait htl]; exact hw3
  obtain ⟨Va, ea⟩ : ∃ x, getR s t (ia : Int) = x := ⟨_, rfl⟩
  have HVa : Hid (getR s t (ia : Int) = Va) := ea
  obtain ⟨Vb, eb⟩ : ∃ x, getR s t (ib : Int) = x := ⟨_, rfl⟩
  have HVb : Hid (getR s t (ib : Int) = Vb) := eb
  clear ea eb
  have hmode := hx.hm
  have hBw := hx.hB
  by_cases hin : 0 ≤ Va ∧ Va < (s.words.length : Int)
  · obtain ⟨wd, rfl, hwd⟩ := toN hin
    have HST : Hid (orderX P.mode (stepS s t) t 11 (ia : Int) (ib : Int) c = storeW P.mode (stepS s t) t ⟨false, (wd : Int), Vb⟩) := by
      show (if getR (stepS s t) t (ia : Int) < 0 ∨ ((stepS s t).words.length : Int) ≤ getR (stepS s t) t (ia : Int) then _ else _) = _
      rw [stepS_getR htl, stepS_getR htl, HVa.out, HVb.out, if_neg (by show ¬ ((wd : Int) < 0 ∨ (s.words.length : Int) ≤ (wd : Int)); omega)]
    have HX := Hid.out (p := Hid _) hx
    clear hx hord hop hsz hin
    go_enter Tryd.func80, Tryd.ntmps80
    go_wp2_with fail
    refine Calls.mono HNX.out ?_
    rintro e w1 ⟨rfl, hb1⟩
    have HP := HPRE.out w1 hb1
    have d5 := HP.c5
    have dp := HP.cp
    have df := HP.cf
    have dr := HP.cr
    have nrt := HP.nrt
    have ntr := HP.ntr
    have lrb := HP.lrb
    have ltb := HP.ltb
    have wa := HP.regW htl (r := ia) (by omega)
    rw [HVa.out] at wa
    have wb := HP.regW htl (r := ib) (by omega)
    rw [HVb.out] at wb
    have HC : Hid (∀ o, Calls Tryd.prog 99 #[.pointer (some ⟨sb, 0, none⟩), .int .i64 t, .agg #[.bool false, .int .i64 (wd : Int), .int .i64 Vb]] ((w1.setCell ⟨tb, t * 3, none⟩ (.int .i64 ((pc : Int) + 1))).alloc o).drew fun e w' => e = .returned (.tuple #[]) ∧ ∃ v', DSt w' B P sb v' (storeW P.mode (stepS s t) t ⟨false, (wd : Int), Vb⟩) ∧ Moved w w' v v') := fun o =>
      (store_any _ B sb P v (stepS s t) t ⟨false, (wd : Int), Vb⟩ ((HP.D.alloc o).drew) (by have := (HP.M.alloc o).size; simp at this ⊢; omega) hmode (by rw [hsl]; exact htl) (by rw [hsl]; omega) hsw (by show (0 : Int) ≤ (wd : Int); omega) (by show (wd : Int) < ((s.words.length : Nat) : Int); omega) (by show s.words.length ≤ 64; omega) (by show s.own.length ≤ 4; omega)).mono fun e w' ⟨h1, v', h2, h3⟩ => ⟨h1, v', h2, ((HP.M.alloc o).drew).trans h3⟩
    have HWD : Hid (∀ o, Calls Tryd.prog 100 #[.pointer (some ⟨sb, 0, none⟩), .int .i64 (wd : Int)] ((w1.setCell ⟨tb, t * 3, none⟩ (.int .i64 ((pc : Int) + 1))).alloc o) fun e w' => e = .returned (.bool true) ∧ ((w1.setCell ⟨tb, t * 3, none⟩ (.int .i64 ((pc : Int) + 1))).alloc o) = w') := fun o =>
      word_yes _ B sb P v (stepS s t) (wd : Int) (HP.D.alloc o) (by show s.words.length ≤ 64; omega) (by show 0 ≤ (wd : Int) ∧ (wd : Int) < (s.words.length : Int); omega)
    clear HP HPRE HNX
    go_wp2_with fail
    refine Calls.mono (HWD.out _) ?_
    rintro e w2 ⟨rfl, rfl⟩
    go_wp2
    refine region_tail 13 (by kernel_rfl) (by kernel_rfl) ?_
    simp only [List.take_succ_cons, List.take_zero, List.drop_succ_cons, List.drop_zero]
    repeat still_step
    refine wpStill_nil ?_
    go_wp2_with fail
    refine Calls.mono (HC.out _) ?_
    rintro e w3 ⟨rfl, v2, hD2, hM2⟩
    go_wp2_with fail
    go_end0
    refine ⟨rfl, v2, ?_⟩
    rw [HST.out]
    exact ⟨hD2, hM2⟩
  · have HST : Hid (orderX P.mode (stepS s t) t 11 (ia : Int) (ib : Int) c = fallX (stepS s t)) := by
      show (if getR (stepS s t) t (ia : Int) < 0 ∨ ((stepS s t).words.length : Int) ≤ getR (stepS s t) t (ia : Int) then _ else _) = _
      rw [stepS_getR htl, HVa.out, if_pos (by show Va < 0 ∨ (s.words.length : Int) ≤ Va; omega)]
    have HX := Hid.out (p := Hid _) hx
    clear hx hord hop hsz
    go_enter Tryd.func80, Tryd.ntmps80
    go_wp2_with fail
    refine Calls.mono HNX.out ?_
    rintro e w1 ⟨rfl, hb1⟩
    have HP := HPRE.out w1 hb1
    have d5 := HP.c5
    have dp := HP.cp
    have df := HP.cf
    have dr := HP.cr
    have nrt := HP.nrt
    have ntr := HP.ntr
    have lrb := HP.lrb
    have ltb := HP.ltb
    have wa := HP.regW htl (r := ia) (by omega)
    rw [HVa.out] at wa
    have HF : Hid (DSt ((w1.setCell ⟨tb, t * 3, none⟩ (.int .i64 ((pc : Int) + 1))).setCell ⟨sb, 9, none⟩ (.bool true)) B P sb v (fallX (stepS s t)) ∧ Moved w ((w1.setCell ⟨tb, t * 3, none⟩ (.int .i64 ((pc : Int) + 1))).setCell ⟨sb, 9, none⟩ (.bool true)) v v) := ⟨HP.D.fall, HP.M.put HP.D.bblk 9 _⟩
    have hset : ∀ o, ((w1.setCell ⟨tb, t * 3, none⟩ (.int .i64 ((pc : Int) + 1))).alloc o).setCell ⟨sb, 9, none⟩ (.bool true) = ((w1.setCell ⟨tb, t * 3, none⟩ (.int .i64 ((pc : Int) + 1))).setCell ⟨sb, 9, none⟩ (.bool true)).alloc o := fun o => setCell_up (by have := HP.lsb; simpa [World.setCell] using this)
    have HWD : Hid (∀ o, Calls Tryd.prog 100 #[.pointer (some ⟨sb, 0, none⟩), .int .i64 Va] ((w1.setCell ⟨tb, t * 3, none⟩ (.int .i64 ((pc : Int) + 1))).alloc o) fun e w' => e = .returned (.bool false) ∧ ((w1.setCell ⟨tb, t * 3, none⟩ (.int .i64 ((pc : Int) + 1))).setCell ⟨sb, 9, none⟩ (.bool true)).alloc o = w') := fun o => by
      have := word_no _ B sb P v (stepS s t) Va (HP.D.alloc o) (by show s.words.length ≤ 64; omega) (by show Va < 0 ∨ (s.words.length : Int) ≤ Va; omega)
      rwa [hset o] at this
    clear HP HPRE HNX hset
    go_wp2_with fail
    refine Calls.mono (HWD.out _) ?_
    rintro e w2 ⟨rfl, rfl⟩
    go_wp2
    all_goals go_end0
    all_goals refine ⟨rfl, v, ?_⟩
    all_goals rw [HST.out]
    all_goals exact ⟨DSt.same (HF.out.1.alloc _) rfl, Moved.same (HF.out.2.alloc _) rfl rfl rfl rfl⟩
end

section
open Go.RowKit

/-- A program that was made anew lies in memory. -/
def MkP (b : Nat → Nat → List I4) (n : Nat) (L : Nat → Nat) (words : List Int) (V : World) (va ua : Option Addr) : Prop := (∃ A C, PIn V va n A (lenR b L) C (numR b L)) ∧ SIs V ua words
theorem mk_new {W U : World} {n : Nat} {words : List Int} {lk rg : Int} {b : Nat → Nat → List I4} {L : Nat → Nat} {va : Option Addr} {vc : Nat} {ua : Option Addr} {uc : Nat} (hN : NewQ W n words lk rg b L (.returned (.agg #[.slice va n vc, .slice ua words.length uc, .int .i64 lk, .int .i64 rg])) U) (hn : n ≤ 4) (hl : ∀ t, t < n → lenR b L t ≤ 1000000) : MkP b n L words U va ua := by
  obtain ⟨va', vc', ua', uc', tv, he, h1, h2, h3, _⟩ := hN
  simp only [Ending.returned.injEq, Value.agg.injEq, Array.mk.injEq, List.cons.injEq, Value.slice.injEq, true_and, and_true] at he
  obtain ⟨⟨rfl, rfl⟩, rfl, rfl⟩ := he
  obtain ⟨ca', cc', A', C', e1, hpin⟩ := new_pin h1 h2 (by omega) hl
  simp only [Value.slice.injEq, true_and] at e1
  obtain ⟨rfl, rfl⟩ := e1
  exact ⟨⟨A', C', hpin⟩, sis_own h3⟩
end

end Go.Proofs.YtocfocjnnjdcgaaDoor
