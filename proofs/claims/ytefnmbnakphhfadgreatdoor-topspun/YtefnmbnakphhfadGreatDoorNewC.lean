/-
  Orders that were made, as a program of their own.
  Boxes that a call makes first, and what is stored into them at its end.
  Words in place of locks, by the program: small functions.
  Words in place of locks, by the program: what is wrong ahead of any change, and what an order becomes.
-/
import Derived.Test.YtefnmbnakphhfadGreatDoorFRew
import Derived.Test.YtefnmbnakphhfadGreatDoorFenL
import Derived.Test.YtefnmbnakphhfadGreatDoorCheckA
import Derived.Test.YtefnmbnakphhfadGreatDoorDSt
import Derived.Deep.RegionHeld3
namespace Go.Proofs.YtefnmbnakphhfadGreatDoor
section
open Go.RowKit

/-- Orders that were made, as a program's. -/
theorem new_pin {w : World} {B : Nat} {b : Nat → Nat → List I4} {L : Nat → Nat} {n : Nat} {cv : Value} {tv : List Value} (hc : w.ownsRow B 35 1 cv n tv) (ht : ∀ t, t < n → OwnC w B (tv.getD t nilV) (codeR (b t) (L t))) (hn : n ≤ 1000) (hl : ∀ t, t < n → lenR b L t ≤ 1000000) :
    ∃ ca cc A C, cv = .slice ca n cc ∧ PIn w ca n A (lenR b L) C (numR b L) := by
  obtain ⟨ca, cc, rfl⟩ := fam_form hc
  have htl : tv.length = n := by have := hc.1; omega
  have hf : ∀ t, ∃ a c, t < n → tv.getD t nilV = .slice a (lenR b L t) c := fun t => by
    by_cases h : t < n
    · obtain ⟨a, c, e⟩ := fam_form (ht t h)
      exact ⟨a, c, fun _ => e⟩
    · exact ⟨none, 0, fun h' => absurd h' h⟩
  refine ⟨ca, cc, fun t => (hf t).choose, fun t => (hf t).choose_spec.choose, rfl, ⟨fun t h => ?_, fun t i h hi => ?_, fun t h => by have := hl t h; omega, by omega⟩⟩
  · obtain ⟨g, cap, e, hg, _⟩ := fam_block hc (by omega)
    simp only [Value.slice.injEq] at e
    refine ⟨g, 0, e.1, ?_⟩
    have e2 := (hf t).choose_spec.choose_spec h
    have e3 : tv[t]? = some (tv.getD t nilV) := by simp [List.getD, show t < tv.length by omega]
    rw [e2] at e3
    rw [Nat.zero_add]
    exact fam_cell hc hg e3
  · have h1 := ht t h
    have e2 := (hf t).choose_spec.choose_spec h
    rw [e2] at h1
    obtain ⟨g, cap, e, hg, _⟩ := fam_block h1 (Nat.lt_of_le_of_lt (Nat.zero_le _) hi)
    simp only [Value.slice.injEq] at e
    obtain ⟨y0, y1, y2, y3⟩ := cellsT_at (l := codeR (b t) (L t)) hi fenceI
    refine ⟨g, 0, e.1, ?_, ?_, ?_, ?_⟩
    · rw [Nat.zero_add]; exact fam_cell h1 hg y0
    · rw [Nat.zero_add]; exact fam_cell h1 hg y1
    · rw [Nat.zero_add]; exact fam_cell h1 hg y2
    · rw [Nat.zero_add]; exact fam_cell h1 hg y3
/-- What orders become may be led on. -/
theorem new_led {n m lk rg : Nat} {L : Nat → Nat} {X : Nat → Nat → Nat → Int} (hc : COk n L X m lk rg) {t i : Nat} (ht : t < n) (hi : i < L t) {x : I4} (hx : x = ordAt X t i ∨ x = fenceI) : (1 ≤ x.1 ∧ x.1 ≤ 18) ∧ (x.1 = 14 → 0 ≤ x.2.1 ∧ x.2.1 ≤ L t) ∧ (x.1 = 15 → 0 ≤ x.2.2.1 ∧ x.2.2.1 ≤ L t) := by
  have h := hc.ord t i ht hi
  rcases hx with rfl | rfl
  · refine ⟨ok_op h, fun e => ?_, fun e => ?_⟩
    · have e' : X t i 0 = 14 := e
      rw [e'] at h
      exact ok_jump h
    · have e' : X t i 0 = 15 := e
      rw [e'] at h
      exact (ok_zero h).2
  · refine ⟨by decide, fun e => ?_, fun e => ?_⟩
    · exact absurd e (by decide)
    · exact absurd e (by decide)
/-- What a rewritten program is. -/
def NewQ (w : World) (n : Nat) (words : List Int) (lk rg : Int) (b : Nat → Nat → List I4) (L : Nat → Nat) (e : Ending) (w' : World) : Prop := ∃ (va : Option Addr) (vc : Nat) (ua : Option Addr) (uc : Nat) (tv : List Value), e = .returned (.agg #[.slice va n vc, .slice ua words.length uc, .int .i64 lk, .int .i64 rg]) ∧ w'.ownsRow w.heap.size 35 1 (.slice va n vc) n tv ∧ (∀ t, t < n → OwnC w' w.heap.size (tv.getD t nilV) (codeR (b t) (L t))) ∧ w'.ownsRow w.heap.size 3 1 (.slice ua words.length uc) words.length (intsV words) ∧ Below w.heap.size w w'
theorem NewQ.below {w V V' : World} {n : Nat} {words : List Int} {lk rg : Int} {b : Nat → Nat → List I4} {L : Nat → Nat} {e : Ending} (h : NewQ w n words lk rg b L e V) (hb : Below V.heap.size V V') : NewQ w n words lk rg b L e V' := by
  obtain ⟨va, vc, ua, uc, tv, h0, h1, h2, h3, h4⟩ := h
  exact ⟨va, vc, ua, uc, tv, h0, owns_below2 h1 hb, fun t ht => (h2 t ht).below hb, owns_below2 h3 hb, h4.trans (hb.mono h4.size)⟩
/-- Stores below it change nothing. -/
theorem NewQ.far {w U V V' : World} {n : Nat} {words : List Int} {lk rg : Int} {b : Nat → Nat → List I4} {L : Nat → Nat} {e : Ending} (h : NewQ U n words lk rg b L e V) (hk : ∀ g, U.heap.size ≤ g → g < V.heap.size → V'.heap[g]? = V.heap[g]?) (hw : w.heap.size ≤ U.heap.size) (hb : Below w.heap.size w V') : NewQ w n words lk rg b L e V' := by
  obtain ⟨va, vc, ua, uc, tv, h0, h1, h2, h3, h4⟩ := h
  exact ⟨va, vc, ua, uc, tv, h0, own_low (fam_keeps h1 fun g hg => hk g (h1.lt g hg).1 (h1.lt g hg).2) hw, fun t ht => own_low (fam_keeps (h2 t ht) fun g hg => hk g ((h2 t ht).lt g hg).1 ((h2 t ht).lt g hg).2) hw, own_low (fam_keeps h3 fun g hg => hk g (h3.lt g hg).1 (h3.lt g hg).2) hw, hb⟩
theorem sis_own {w : World} {B : Nat} {a : Option Addr} {c : Nat} {l : List Int} (h : w.ownsRow B 3 1 (.slice a l.length c) l.length (intsV l)) : SIs w a l := fun k hk => by
  obtain ⟨g, cap, e, hg, _⟩ := fam_block h (by omega)
  simp only [Value.slice.injEq] at e
  refine ⟨g, 0, e.1, ?_⟩
  rw [Nat.zero_add]
  exact fam_cell h hg (intsV_at hk)
end

section
open Go.RowKit

abbrev noP : Value := .agg #[nilV, nilV, .int .i64 0, .int .i64 0]
/-- Three boxes that a call makes first. -/
theorem box3 (w : World) (P R F : Obj) : ∃ W, ((w.alloc P).alloc R).alloc F = W ∧ w.heap.size + 3 = W.heap.size ∧ ∀ V, Below W.heap.size W V → Below w.heap.size w V ∧ V.heap[w.heap.size]? = some P ∧ V.heap[w.heap.size + 1]? = some R ∧ V.heap[w.heap.size + 1 + 1]? = some F := by
  refine ⟨_, rfl, by simp, fun V hb => ⟨?_, ?_, ?_, ?_⟩⟩
  · exact ((((Below.refl _ _).alloc (Nat.le_refl _) _).alloc (by simp) _).alloc (by simp; omega) _).trans (hb.mono (by simp; omega))
  · exact (hb.block _ (by simp; omega)).trans (box_later (box_later (heap_alloc_new _ _) _) _)
  · have := (hb.block (w.heap.size + 1) (by simp)).trans (box_later (show ((w.alloc P).alloc R).heap[w.heap.size + 1]? = some R by have := heap_alloc_new (w.alloc P) R; simpa using this) _)
    exact this
  · have := (hb.block (w.heap.size + 1 + 1) (by simp)).trans (show (((w.alloc P).alloc R).alloc F).heap[w.heap.size + 1 + 1]? = some F by have := heap_alloc_new ((w.alloc P).alloc R) F; simpa using this)
    exact this
theorem below7n {w w' : World} (h : Below w.heap.size w w') (a b c d e f g : Value) : Below w.heap.size w (((((((w'.setCell ⟨w.heap.size + 1, 0, none⟩ a).setCell ⟨w.heap.size + 1, 1, none⟩ b).setCell ⟨w.heap.size + 1, 2, none⟩ c).setCell ⟨w.heap.size + 1, 3, none⟩ d).setCell ⟨w.heap.size + 1 + 1, 0, none⟩ e).setCell ⟨w.heap.size + 1 + 1, 1, none⟩ f).setCell ⟨w.heap.size + 1 + 1, 2, none⟩ g) := by
  have h1 : w.heap.size ≤ w.heap.size + 1 := by omega
  have h2 : w.heap.size ≤ w.heap.size + 1 + 1 := by omega
  exact ((((((h.setCell h1 _).setCell h1 _).setCell h1 _).setCell h1 _).setCell h2 _).setCell h2 _).setCell h2 _
theorem below7 {w w' : World} (h : Below w.heap.size w w') (a b c d e f g : Value) : Below w.heap.size w (((((((w'.setCell ⟨w.heap.size + 1, 0, none⟩ a).setCell ⟨w.heap.size + 1, 1, none⟩ b).setCell ⟨w.heap.size + 1, 2, none⟩ c).setCell ⟨w.heap.size + 1, 3, none⟩ d).setCell ⟨w.heap.size + 1 + 1, 0, none⟩ e).setCell ⟨w.heap.size + 1 + 1, 1, none⟩ f).setCell ⟨w.heap.size + 1 + 1, 2, none⟩ g).drew := (below7n h a b c d e f g).drew
theorem far7 {w' : World} {k g : Nat} (h1 : g ≠ k + 1) (h2 : g ≠ k + 1 + 1) (a b c d e f q : Value) : (((((((w'.setCell ⟨k + 1, 0, none⟩ a).setCell ⟨k + 1, 1, none⟩ b).setCell ⟨k + 1, 2, none⟩ c).setCell ⟨k + 1, 3, none⟩ d).setCell ⟨k + 1 + 1, 0, none⟩ e).setCell ⟨k + 1 + 1, 1, none⟩ f).setCell ⟨k + 1 + 1, 2, none⟩ q).heap[g]? = w'.heap[g]? := by
  have e1 : ∀ (Z : World) (q : Nat) (u : Value), (Z.setCell ⟨k + 1, q, none⟩ u).heap[g]? = Z.heap[g]? := fun Z q u => Below.heap_setCell _ _ _ _ (fun x => h1 (by simpa using x))
  have e2 : ∀ (Z : World) (q : Nat) (u : Value), (Z.setCell ⟨k + 1 + 1, q, none⟩ u).heap[g]? = Z.heap[g]? := fun Z q u => Below.heap_setCell _ _ _ _ (fun x => h2 (by simpa using x))
  rw [e2, e2, e2, e1, e1, e1, e1]
end

section
open Go.RowKit

theorem take_any (w : World) (wd at' : Int) : Calls Tryz.prog 28 #[.int .i64 wd, .int .i64 at'] w fun e w' => ∃ sa c, e = .returned (.slice sa 4 c) ∧ SrcL w' sa (cellsT (takeL wd at')) ∧ Below w.heap.size w w' := by
  go_enter Tryz.func28, Tryz.ntmps28
  go_wp2
  go_ret
  exact ⟨_, _, rfl, srcL_block (heap_alloc_new w _), (Below.refl _ _).alloc (Nat.le_refl _) _⟩
theorem give_any (w : World) (wd : Int) : Calls Tryz.prog 30 #[.int .i64 wd] w fun e w' => ∃ sa c, e = .returned (.slice sa 2 c) ∧ SrcL w' sa (cellsT (giveL wd)) ∧ Below w.heap.size w w' := by
  go_enter Tryz.func30, Tryz.ntmps30
  go_wp2
  go_ret
  exact ⟨_, _, rfl, srcL_block (heap_alloc_new w _), (Below.refl _ _).alloc (Nat.le_refl _) _⟩
theorem spinWord_any (w : World) (ca : Option Addr) (n cc : Nat) (wa : Option Addr) (m wc : Nat) (lk rg l : Int) (hm : m ≤ 64) (h0 : 0 ≤ l) (hl : l < 100) :
    Calls Tryz.prog 29 #[prgV ca n cc wa m wc lk rg, .int .i64 l] w fun e w' => e = .returned (.int .i64 ((m : Int) + l)) ∧ Below w.heap.size w w' := by
  go_enter Tryz.func29, Tryz.ntmps29
  go_wp2
  go_ret
  exact ⟨by go_num, (Below.refl _ _).alloc (Nat.le_refl _) _⟩
end

section
open Go.RowKit

/-- What is wrong ahead of any change. -/
def refF (c : Int × Int × Int) (m : Nat) (lk rg : Int) : Int × Int × Int := if c.1 ≠ 0 then c else if 6 < rg then (3, 0, 0) else if 64 < (m : Int) + lk then (1, 0, 0) else (0, 0, 0)
set_option maxRecDepth 100000 in
set_option maxHeartbeats 1600000 in
theorem refuse_any (w : World) (ca : Option Addr) (n cc : Nat) (wa : Option Addr) (m wc : Nat) (lk rg : Int) (A : Nat → Option Addr) (L C : Nat → Nat) (X : Nat → Nat → Nat → Int) (hp : PIn w ca n A L C X) (x y z : Int) (hr : refF (chk n L X m lk rg) m lk rg = (x, y, z)) (hb : (chk n L X m lk rg).1 = 0 → m ≤ 64 ∧ 0 ≤ lk ∧ lk ≤ 4) :
    Calls Tryz.prog 25 #[prgV ca n cc wa m wc lk rg] w fun e w' => e = .returned (ints3 x y z) ∧ Below w.heap.size w w' := by
  obtain ⟨cx, cy, cz, hc⟩ : ∃ a b c, chk n L X m lk rg = (a, b, c) := ⟨_, _, _, rfl⟩
  have HCK : Hid (∀ V, Below w.heap.size w V → Calls Tryz.prog 15 #[.agg #[.slice ca n cc, .slice wa m wc, .int .i64 lk, .int .i64 rg]] V fun e w' => e = .returned (ints3 cx cy cz) ∧ Below V.heap.size V w') := fun V hV => check_any ca n cc wa m wc lk rg A L C X cx cy cz hc V (hp.below hV)
  rw [hc] at hr hb
  simp only at hb
  have HR := Hid.out (p := Hid _) hr
  clear hp hc hr
  obtain ⟨W0, hW0⟩ : ∃ V, (w.alloc (.cells #[.slice ca n cc, .slice wa m wc, .int .i64 lk, .int .i64 rg] 25)).alloc (.cells #[.int .i64 0, .int .i64 0, .int .i64 0] 29) = V := ⟨_, rfl⟩
  have hB0 : Boxes W0 w.heap.size ca n cc wa m wc lk rg := by rw [← hW0]; exact boxes_made w ca n cc wa m wc lk rg _ _
  have hb0 : Below w.heap.size w W0 := by rw [← hW0]; exact ((Below.refl _ _).alloc (Nat.le_refl _) _).alloc (by simp) _
  have hx0 : W0.heap[w.heap.size + 1]? = some (.cells #[.int .i64 0, .int .i64 0, .int .i64 0] 29) := by
    rw [← hW0]
    have := heap_alloc_new (w.alloc (.cells #[.slice ca n cc, .slice wa m wc, .int .i64 lk, .int .i64 rg] 25)) (.cells #[.int .i64 0, .int .i64 0, .int .i64 0] 29)
    simpa using this
  have HW0 := Hid.out (p := Hid _) hW0
  have H0 : Hid (Boxes W0 w.heap.size ca n cc wa m wc lk rg ∧ Below w.heap.size w W0 ∧ W0.heap[w.heap.size + 1]? = some (.cells #[.int .i64 0, .int .i64 0, .int .i64 0] 29)) := ⟨hB0, hb0, hx0⟩
  clear hW0 hB0 hb0 hx0
  go_enter Tryz.func25, Tryz.ntmps25
  go_wp2_with fail
  rw [HW0.out]
  refine Calls.mono (HCK.out _ H0.out.2.1) ?_
  rintro e w1 ⟨rfl, hb1⟩
  have hB1 := H0.out.1.below hb1
  have hl1 : w.heap.size + 1 < w1.heap.size := by have := hB1.size; omega
  have H1 : Hid (Below w.heap.size w w1) := H0.out.2.1.trans (hb1.mono H0.out.2.1.size)
  have n1 : w1.heap.size ≠ w.heap.size + 1 := by omega
  have n3 : w.heap.size + 1 ≠ w1.heap.size := by omega
  have n5 : w.heap.size ≠ w1.heap.size := by omega
  have hx1 := (hb1.block _ (box_lt H0.out.2.2)).trans H0.out.2.2
  obtain ⟨_, _, p1, p2, p3, r0, r1, r2, f0, f1, f2⟩ := hB1
  have u1 := cell_up p1
  have u2 := cell_up p2
  have u3 := cell_up p3
  have hq : ∀ (a b c : Value) (o : Obj), ((((w1.setCell ⟨w.heap.size + 1, 0, none⟩ a).setCell ⟨w.heap.size + 1, 1, none⟩ b).setCell ⟨w.heap.size + 1, 2, none⟩ c).alloc o).heap[w.heap.size + 1]? = some (.cells #[a, b, c] 29) := fun a b c o => box_later (by rw [heap_set_same (heap_set_same (heap_set_same hx1))]; rfl) o
  have q0 := fun (a b c : Value) (o : Obj) => box_cell (i := 0) (hq a b c o) rfl
  have q1 := fun (a b c : Value) (o : Obj) => box_cell (i := 1) (hq a b c o) rfl
  have q2 := fun (a b c : Value) (o : Obj) => box_cell (i := 2) (hq a b c o) rfl
  have hle : w.heap.size ≤ w.heap.size + 1 := by omega
  have hBo : ∀ a b c o, Below w.heap.size w ((((w1.setCell ⟨w.heap.size + 1, 0, none⟩ a).setCell ⟨w.heap.size + 1, 1, none⟩ b).setCell ⟨w.heap.size + 1, 2, none⟩ c).alloc o) := fun a b c o => by
    have h : Below w.heap.size w (((w1.setCell ⟨w.heap.size + 1, 0, none⟩ a).setCell ⟨w.heap.size + 1, 1, none⟩ b).setCell ⟨w.heap.size + 1, 2, none⟩ c) := ((H1.out.setCell hle _).setCell hle _).setCell hle _
    exact h.alloc h.size _
  have HBO := Hid.out (p := Hid _) hBo
  clear hBo hb1 H0 HW0 HCK hq hx1
  unfold refF at HR
  by_cases hx : cx = 0
  · subst hx
    obtain ⟨h64, h0, h4⟩ := hb rfl
    by_cases h6 : 6 < rg
    · have e := HR.out
      simp only [ne_eq, not_true_eq_false, ↓reduceIte, if_pos h6, Prod.mk.injEq] at e
      obtain ⟨rfl, rfl, rfl⟩ := e
      clear HR
      go_wp2
      exact bodyPost_ret (v := ints3 3 0 0) (by simp [results, Tryz.results25, go_sem, q0, q1, q2]) rfl ⟨rfl, HBO.out _ _ _ _⟩
    · by_cases h7 : 64 < (m : Int) + lk
      · have e := HR.out
        simp only [ne_eq, not_true_eq_false, ↓reduceIte, if_neg h6, if_pos h7, Prod.mk.injEq] at e
        obtain ⟨rfl, rfl, rfl⟩ := e
        clear HR
        go_wp2
        exact bodyPost_ret (v := ints3 1 0 0) (by simp [results, Tryz.results25, go_sem, q0, q1, q2]) rfl ⟨rfl, HBO.out _ _ _ _⟩
      · have e := HR.out
        simp only [ne_eq, not_true_eq_false, ↓reduceIte, if_neg h6, if_neg h7, Prod.mk.injEq] at e
        obtain ⟨rfl, rfl, rfl⟩ := e
        clear HR
        go_wp2
        exact bodyPost_ret (v := ints3 0 0 0) (by simp [results, Tryz.results25, go_sem, q0, q1, q2]) rfl ⟨rfl, HBO.out _ _ _ _⟩
  · have hx' : (cx != 0) = true := by simpa using hx
    have e := HR.out
    simp only [ne_eq, hx, not_false_eq_true, ↓reduceIte, Prod.mk.injEq] at e
    obtain ⟨rfl, rfl, rfl⟩ := e
    clear HR
    go_wp2
    exact bodyPost_ret (v := ints3 cx cy cz) (by simp [results, Tryz.results25, go_sem, q0, q1, q2]) rfl ⟨rfl, HBO.out _ _ _ _⟩

set_option maxRecDepth 100000 in
set_option maxHeartbeats 3200000 in
/-- What an order becomes, as Link asks. -/
theorem link1_any (w : World) (pb : Nat) (ca : Option Addr) (n cc : Nat) (wa : Option Addr) (m wc : Nat) (lk rg : Nat) (A : Nat → Option Addr) (L C : Nat → Nat) (X : Nat → Nat → Nat → Int) (t i : Nat) (hp : PIn w ca n A L C X) (hc : COk n L X m lk rg) (ht : t < n) (hi : i < L t) (hb : w.heap[pb]? = some (.cells #[.slice ca n cc, .slice wa m wc, .int .i64 lk, .int .i64 rg] 25)) :
    Calls Tryz.prog 27 #[.int .i64 t, .int .i64 i, .pointer (some ⟨pb, 0, none⟩)] w fun e w' => ∃ sa c, e = .returned (.slice sa (bSpin m X t i).length c) ∧ SrcL w' sa (cellsT (bSpin m X t i)) ∧ Below w.heap.size w w' := by
  have hbl := box_lt hb
  have b0 := box_cell (i := 0) hb rfl
  have b1 := box_cell (i := 1) hb rfl
  have b2 := box_cell (i := 2) hb rfl
  have b3 := box_cell (i := 3) hb rfl
  obtain ⟨cb, co, rfl, hcd⟩ := hp.code t ht
  obtain ⟨ab, ao, hA, c0, c1, c2, c3⟩ := hp.ord t i ht hi
  rw [hA] at hcd
  have hln := hc.L4 t ht
  have hnn := hc.n4
  have hm64 := hc.m64
  have hlk4 := hc.lk4
  have hcO := hc.ord t i ht hi
  obtain ⟨x0, h0⟩ : ∃ x, X t i 0 = x := ⟨_, rfl⟩
  obtain ⟨x1, h1⟩ : ∃ x, X t i 1 = x := ⟨_, rfl⟩
  obtain ⟨x2, h2⟩ : ∃ x, X t i 2 = x := ⟨_, rfl⟩
  obtain ⟨x3, h3⟩ : ∃ x, X t i 3 = x := ⟨_, rfl⟩
  obtain ⟨l, hl⟩ : ∃ x, L t = x := ⟨_, rfl⟩
  have hbj : bSpin m X t i = if x0 = 17 then takeL ((m : Int) + x1) i else if x0 = 18 then giveL ((m : Int) + x1) else [(x0, x1, x2, x3)] := by unfold bSpin ordAt; rw [h0, h1, h2, h3]
  rw [h0] at c0 hcO; rw [h1] at c1 hcO; rw [h2] at c2; rw [h3] at c3
  rw [hl] at hcd hi hln
  have HB1 : Hid (∀ o, Below w.heap.size w (w.alloc o)) := fun o => (Below.refl _ _).alloc (Nat.le_refl _) _
  clear hp hA h0 h1 h2 h3 hl hb hc
  rw [hbj]
  clear hbj
  by_cases h17 : x0 = 17
  · subst h17
    have hx1 := ok_lock (Or.inl rfl) hcO
    clear hcO
    rw [if_pos rfl]
    go_enter Tryz.func27, Tryz.ntmps27
    go_wp2_with fail
    refine Calls.mono (spinWord_any _ (some ⟨cb, co, none⟩) n cc wa m wc lk rg x1 hm64 hx1.1 (by omega)) ?_
    rintro e w1 ⟨rfl, hb1⟩
    have H1 : Hid (Below w.heap.size w w1) := (HB1.out _).trans (hb1.mono (by simp))
    clear hb1
    go_wp2_with fail
    refine Calls.mono (take_any w1 ((m : Int) + x1) i) ?_
    rintro e w2 ⟨sa, c, rfl, hs, hb2⟩
    have H2 : Hid (SrcL w2 sa (cellsT (takeL ((m : Int) + x1) i)) ∧ Below w.heap.size w w2) := ⟨hs, H1.out.trans (hb2.mono H1.out.size)⟩
    clear hs hb2
    go_wp2_with fail
    go_ret
    exact ⟨sa, c, rfl, H2.out⟩
  · rw [if_neg h17]
    have h17' : (x0 == 17) = false := by simpa using h17
    by_cases h18 : x0 = 18
    · subst h18
      have hx1 := ok_lock (Or.inr rfl) hcO
      clear hcO
      rw [if_pos rfl]
      go_enter Tryz.func27, Tryz.ntmps27
      go_wp2_with fail
      refine Calls.mono (spinWord_any _ (some ⟨cb, co, none⟩) n cc wa m wc lk rg x1 hm64 hx1.1 (by omega)) ?_
      rintro e w1 ⟨rfl, hb1⟩
      have H1 : Hid (Below w.heap.size w w1) := (HB1.out _).trans (hb1.mono (by simp))
      clear hb1
      go_wp2_with fail
      refine Calls.mono (give_any w1 ((m : Int) + x1)) ?_
      rintro e w2 ⟨sa, c, rfl, hs, hb2⟩
      have H2 : Hid (SrcL w2 sa (cellsT (giveL ((m : Int) + x1))) ∧ Below w.heap.size w w2) := ⟨hs, H1.out.trans (hb2.mono H1.out.size)⟩
      clear hs hb2
      go_wp2_with fail
      go_ret
      exact ⟨sa, c, rfl, H2.out⟩
    · have h18' : (x0 == 18) = false := by simpa using h18
      rw [if_neg h18]
      clear hcO
      go_enter Tryz.func27, Tryz.ntmps27
      go_wp2_with fail
      go_ret
      have hh : ∀ a b : Obj, ((w.alloc a).alloc b).heap[w.heap.size + 1]? = some b := fun a b => by
        have := heap_alloc_new (w.alloc a) b
        rw [World.size_alloc] at this
        exact this
      exact ⟨_, _, rfl, srcL_block (hh _ _), (HB1.out _).alloc (by simp) _⟩
end

end Go.Proofs.YtefnmbnakphhfadGreatDoor
