/-
  A program that is being made: more words behind its own, other numbers.
  Words in place of locks, by the program: Link.
  What the program looks up and picks in a run: whether threads have ended, which number of the script is taken.
-/
import Derived.Test.YtefnmbnakphhfadGreatDoorNewC
import Derived.Test.YtefnmbnakphhfadGreatDoorPStepP
import Derived.Test.YtefnmbnakphhfadGreatDoorDSt
namespace Go.Proofs.YtefnmbnakphhfadGreatDoor
section
open Go.RowKit

section
variable {S W : World} {qb : Nat} {uv cv : Value} {words : List Int} {lk rg : Int} {b : Nat → Nat → List I4} {L : Nat → Nat} {k : Nat} {tv : List Value}
/-- One word more. -/
theorem RwI.word (h : RwI S qb uv words lk rg b L k W cv tv) (x : Int) (hk : words.length ≤ 1000) :
    ∃ g cap w3, (AppS #[23, 23] 23 #[uv, .slice (some ⟨W.heap.size, 0, none⟩) 1 1]).run Tryz.prog (W.alloc (.cells #[.int .i64 x] 3)) = .ok (.slice (some ⟨g, 0, none⟩) (words.length + 1) cap) w3 ∧ w3.heap[qb]? = some (.cells #[cv, uv, .int .i64 lk, .int .i64 rg] 25) ∧
      RwI S qb (.slice (some ⟨g, 0, none⟩) (words.length + 1) cap) (words ++ [x]) lk rg b L k (w3.setCell ⟨qb, 1, none⟩ (.slice (some ⟨g, 0, none⟩) (words.length + 1) cap)) cv tv := by
  have hl := h.low.size
  obtain ⟨g, cap, w3, r1, r2, r3, r4⟩ := app_row (T := 23) Tryz.underlying23 infoI rfl (by omega) h.words (Below.refl _ W) hl 1 #[.int .i64 x] rfl (by simp [Value.oneCell']) (by omega) (by omega) (by omega)
  have hbA : Below W.heap.size W (W.alloc (.cells #[.int .i64 x] 3)) := (Below.refl _ _).alloc (Nat.le_refl _) _
  have hlow : Below S.heap.size S w3 := (h.low.alloc hl _).grown r3 (by simp; omega) (fun q hq => (h.words.lt q hq).1)
  have hq3 : w3.heap[qb]? = some (.cells #[cv, uv, .int .i64 lk, .int .i64 rg] 25) := by
    rw [grown_block r3 (by simp; have := box_lt h.box; omega) h.wq]
    exact (hbA.block _ (box_lt h.box)).trans h.box
  have hgq : g ≠ qb := fun e => by
    rcases r4 with r4 | r4
    · exact h.wq (by rw [r4, e])
    · have := box_lt h.box
      omega
  have hold : ∀ y, y < W.heap.size → uv.ownBlock ≠ some y → y ≠ g := fun y hy hne e => by
    rcases r4 with r4 | r4
    · exact hne (by rw [r4, e])
    · omega
  have hcu : ∀ y, cv.ownBlock = some y → uv.ownBlock ≠ some y := fun y hy e => h.cw y e hy
  refine ⟨g, cap, w3, r1, hq3, ⟨hlow.setCell h.hq _, h.hq, ?_, ?_, ?_, ?_, h.cq, fun y hy e => ?_, fun t ht => ?_⟩⟩
  · rw [heap_set_same hq3]
    rfl
  · refine owns_far ?_ (by simp only [Value.ownBlock]; exact fun e => hgq (by simpa using e))
    have e : (words ++ [x]).length = words.length + 1 := by simp
    rw [e, show intsV (words ++ [x]) = intsV words ++ [.int .i64 x] by simp [intsV]]
    exact r2
  · simp only [Value.ownBlock]
    exact fun e => hgq (by simpa using e)
  · exact owns_far (own_grown (owns_below2 h.code hbA) r3 (fun y hy => hcu y hy)) h.cq
  · have : g = y := by simpa [Value.ownBlock] using hy
    subst this
    exact hold _ (h.code.lt g e).2 (hcu g e) rfl
  · have h1 := h.thr t ht
    have hne : ∀ y, (tv.getD t nilV).ownBlock = some y → uv.ownBlock ≠ some y := fun y hy => owns_two h1.1 h.words (by decide) hy
    exact ⟨owns_far (own_grown (owns_below2 h1.1 hbA) r3 (fun y hy => hne y hy)) (fun e2 => (h1.2 qb e2).1 rfl), h1.2⟩
/-- Other numbers of locks and registers. -/
theorem RwI.nums (h : RwI S qb uv words lk rg b L k W cv tv) (lk' rg' : Int) : RwI S qb uv words lk' rg' b L k ((W.setCell ⟨qb, 2, none⟩ (.int .i64 lk')).setCell ⟨qb, 3, none⟩ (.int .i64 rg')) cv tv :=
  ⟨(h.low.setCell h.hq _).setCell h.hq _, h.hq, by rw [heap_set_same (heap_set_same h.box)]; rfl, owns_far (owns_far h.words h.wq) h.wq, h.wq, owns_far (owns_far h.code h.cq) h.cq, h.cq, h.cw, fun t ht => ⟨owns_far (owns_far (h.thr t ht).1 (fun e => ((h.thr t ht).2 _ e).1 rfl)) (fun e => ((h.thr t ht).2 _ e).1 rfl), (h.thr t ht).2⟩⟩
end
/-- A new program, laid into a box. -/
theorem new_box {w V : World} {n : Nat} {va : Option Addr} {vc : Nat} {ua : Option Addr} {un uc : Nat} {words : List Int} {lk rg : Int} {b : Nat → Nat → List I4} {L : Nat → Nat} {tv : List Value} (h1 : V.ownsRow w.heap.size 35 1 (.slice va n vc) n tv) (h2 : ∀ t, t < n → OwnC V w.heap.size (tv.getD t nilV) (codeR (b t) (L t))) (h3 : V.ownsRow w.heap.size 3 1 (.slice ua un uc) words.length (intsV words)) (h4 : Below w.heap.size w V) :
    RwI w V.heap.size (.slice ua un uc) words lk rg b L n (V.alloc (.cells #[.slice va n vc, .slice ua un uc, .int .i64 lk, .int .i64 rg] 25)) (.slice va n vc) tv := by
  have hb : Below V.heap.size V (V.alloc (.cells #[.slice va n vc, .slice ua un uc, .int .i64 lk, .int .i64 rg] 25)) := (Below.refl _ _).alloc (Nat.le_refl _) _
  exact ⟨h4.trans (hb.mono h4.size), h4.size, heap_alloc_new _ _, owns_below2 h3 hb, fun e => by have := (h3.lt _ e).2; omega, owns_below2 h1 hb, fun e => by have := (h1.lt _ e).2; omega, fun g hg => owns_two h3 h1 (by decide) hg, fun t ht => ⟨owns_below2 (h2 t ht) hb, fun g hg => ⟨by have := ((h2 t ht).lt g hg).2; omega, owns_two (h2 t ht) h1 (by decide) hg⟩⟩⟩
end

section
open Go.RowKit

set_option maxRecDepth 100000 in
set_option maxHeartbeats 1600000 in
/-- Link, of a program that is refused ahead of any change. -/
theorem link_no (w : World) (ca : Option Addr) (n cc : Nat) (wa : Option Addr) (m wc : Nat) (lk rg x y z : Int) (A : Nat → Option Addr) (L C : Nat → Nat) (X : Nat → Nat → Nat → Int) (hp : PIn w ca n A L C X) (hr : refF (chk n L X m lk rg) m lk rg = (x, y, z)) (hb : (chk n L X m lk rg).1 = 0 → m ≤ 64 ∧ 0 ≤ lk ∧ lk ≤ 4) (hx : x ≠ 0) :
    Calls Tryz.prog 12 #[prgV ca n cc wa m wc lk rg] w fun e w' => e = .returned (.tuple #[noP, ints3 x y z]) ∧ Below w.heap.size w w' := by
  obtain ⟨W3, hW3, hz3, hat⟩ := box3 w (.cells #[.slice ca n cc, .slice wa m wc, .int .i64 lk, .int .i64 rg] 25) (.cells #[nilV, nilV, .int .i64 0, .int .i64 0] 25) (.cells #[.int .i64 0, .int .i64 0, .int .i64 0] 29)
  have HCK : Hid (∀ V, Below w.heap.size w V → Calls Tryz.prog 25 #[.agg #[.slice ca n cc, .slice wa m wc, .int .i64 lk, .int .i64 rg]] V fun e w' => e = .returned (ints3 x y z) ∧ Below V.heap.size V w') := fun V hV => refuse_any V ca n cc wa m wc lk rg A L C X (hp.below hV) x y z hr hb
  have hx' : (x != 0) = true := by simpa using hx
  have HAT := Hid.out (p := Hid _) hat
  have HW3 := Hid.out (p := Hid _) hW3
  clear hp hr hb hx hat hW3
  go_enter Tryz.func12, Tryz.ntmps12
  go_wp2_with fail
  rw [HW3.out]
  refine Calls.mono (HCK.out _ (HAT.out _ (Below.refl _ _)).1) ?_
  rintro e w1 ⟨rfl, hb1⟩
  obtain ⟨hw1, b0, b1, b2⟩ := HAT.out w1 hb1
  have t0 : ∀ o, (w1.alloc o).cell? ⟨w.heap.size + 1, 0, none⟩ = some nilV := fun o => box_cell (box_later b1 o) rfl
  have t1 : ∀ o, (w1.alloc o).cell? ⟨w.heap.size + 1, 1, none⟩ = some nilV := fun o => box_cell (box_later b1 o) rfl
  have t2 : ∀ o, (w1.alloc o).cell? ⟨w.heap.size + 1, 2, none⟩ = some (.int .i64 0) := fun o => box_cell (box_later b1 o) rfl
  have t3 : ∀ o, (w1.alloc o).cell? ⟨w.heap.size + 1, 3, none⟩ = some (.int .i64 0) := fun o => box_cell (box_later b1 o) rfl
  have u0 : ∀ o, (w1.alloc o).cell? ⟨w.heap.size + 1 + 1, 0, none⟩ = some (.int .i64 0) := fun o => box_cell (box_later b2 o) rfl
  have u1 : ∀ o, (w1.alloc o).cell? ⟨w.heap.size + 1 + 1, 1, none⟩ = some (.int .i64 0) := fun o => box_cell (box_later b2 o) rfl
  have u2 : ∀ o, (w1.alloc o).cell? ⟨w.heap.size + 1 + 1, 2, none⟩ = some (.int .i64 0) := fun o => box_cell (box_later b2 o) rfl
  have tf : ∀ o i, (w1.alloc o).frozen? ⟨w.heap.size + 1, i, none⟩ = false := fun o i => box_free (box_later b1 o)
  have uf : ∀ o i, (w1.alloc o).frozen? ⟨w.heap.size + 1 + 1, i, none⟩ = false := fun o i => box_free (box_later b2 o)
  have hl2 : w.heap.size + 1 + 1 < w1.heap.size := box_lt b2
  have n1 : w1.heap.size ≠ w.heap.size + 1 := by omega
  have n2 : w1.heap.size ≠ w.heap.size + 1 + 1 := by omega
  have n3 : w.heap.size + 1 ≠ w1.heap.size := by omega
  have n4 : w.heap.size + 1 + 1 ≠ w1.heap.size := by omega
  have HB1 := Hid.out (p := Hid _) hw1
  clear hw1 hb1 b0 b1 b2 HW3 HAT HCK
  go_wp2_with fail
  go_region
  all_goals go_wp2
  have hB : Below w.heap.size w (w1.alloc (.cells #[.int .i64 x, .int .i64 y, .int .i64 z] 29)) := HB1.out.alloc HB1.out.size _
  all_goals refine bodyPost_ret (v := .tuple #[noP, ints3 x y z]) (by simp [results, Tryz.results12, go_sem, t0, t1, t2, t3, u0, u1, u2]) rfl ⟨rfl, ?_⟩
  all_goals exact below7 hB _ _ _ _ _ _ _
attribute [local go_sem ↓] appS_eq in
set_option maxRecDepth 100000 in
set_option maxHeartbeats 3200000 in
/-- Link, of a program that may be linked. -/
theorem link_may (w : World) (ca : Option Addr) (n cc : Nat) (wa : Option Addr) (words : List Int) (wc lk rg : Nat) (x y z : Int) (A : Nat → Option Addr) (L C : Nat → Nat) (X : Nat → Nat → Nat → Int) (hp : PIn w ca n A L C X) (hw : SIs w wa words) (hnil : wa = none → words = [] ∧ wc = 0) (hchk : chk n L X words.length lk rg = (0, 0, 0)) (hc : COk n L X words.length lk rg) (hg : rg ≤ 6) (hm : words.length + lk ≤ 64) (hq : chk n (lenR (bSpin words.length X) L) (numR (bSpin words.length X) L) (words.length + lk) 0 8 = (x, y, z)) :
    Calls Tryz.prog 12 #[prgV ca n cc wa words.length wc lk rg] w fun e w' => if x = 0 then ∃ (va : Option Addr) (vc : Nat) (ua : Option Addr) (uc : Nat), e = .returned (.tuple #[.agg #[.slice va n vc, .slice ua (words.length + lk) uc, .int .i64 0, .int .i64 8], ints3 0 0 0]) ∧ Hid (∀ V, Below w'.heap.size w' V → NewQ w n (words ++ List.replicate lk 0) 0 8 (bSpin words.length X) L (.returned (.agg #[.slice va n vc, .slice ua (words.length + lk) uc, .int .i64 0, .int .i64 8])) V) ∧ Below w.heap.size w w' else e = .returned (.tuple #[noP, ints3 x y z]) ∧ Below w.heap.size w w' := by
  obtain ⟨W3, hW3, hz3, hat⟩ := box3 w (.cells #[.slice ca n cc, .slice wa words.length wc, .int .i64 lk, .int .i64 rg] 25) (.cells #[nilV, nilV, .int .i64 0, .int .i64 0] 25) (.cells #[.int .i64 0, .int .i64 0, .int .i64 0] 29)
  have HCK : Hid (∀ V, Below w.heap.size w V → Calls Tryz.prog 25 #[.agg #[.slice ca n cc, .slice wa words.length wc, .int .i64 lk, .int .i64 rg]] V fun e w' => e = .returned (ints3 0 0 0) ∧ Below V.heap.size V w') := fun V hV => refuse_any V ca n cc wa words.length wc lk rg A L C X (hp.below hV) 0 0 0 (by rw [hchk]; unfold refF; rw [if_neg (by simp), if_neg (by omega), if_neg (by omega)]) (fun _ => ⟨hc.m64, by omega, by have := hc.lk4; omega⟩)
  have HPT : Hid (∀ V, V.heap[w.heap.size]? = some (.cells #[.slice ca n cc, .slice wa words.length wc, .int .i64 lk, .int .i64 rg] 25) → Below w.heap.size w V → Calls Tryz.prog 26 #[.agg #[.slice ca n cc, .slice wa words.length wc, .int .i64 lk, .int .i64 rg], .func (.func 27) #[] #[.pointer (some ⟨w.heap.size, 0, none⟩)]] V (NewQ V n words lk rg (bSpin words.length X) L)) := fun V hbx hV => by
    have h := rewrite_any V ca n cc wa words wc lk rg 27 #[.pointer (some ⟨w.heap.size, 0, none⟩)] A L C X (bSpin words.length X) (hw.below hV) hnil hc.m64 (hp.below hV) (by have := hc.n4; omega) hc.L4 (fun t i _ _ => spin_len.1) (fun t i x ht hi hx => spin_led hc hg ht hi hx) (fun xs w => by kernel_rfl) (fun U t i hU ht hi => link1_any U w.heap.size ca n cc wa words.length wc lk rg A L C X t i (hp.below (hV.trans (hU.mono hV.size))) hc ht hi ((hU.block _ (box_lt hbx)).trans hbx))
    refine Calls.mono h ?_
    rintro e w' ⟨cv, uv, tv, rfl, h1, h2, h3, h4⟩
    obtain ⟨va, vc, rfl⟩ := fam_form h1
    obtain ⟨ua, uc, rfl⟩ := fam_form h3
    exact ⟨va, vc, ua, uc, tv, rfl, h1, h2, h3, h4⟩
  have HCQ : Hid (∀ V S qb va vc ua uc tv, RwI S qb (.slice ua (words.length + lk) uc) (words ++ List.replicate lk 0) 0 8 (bSpin words.length X) L n V (.slice va n vc) tv → Calls Tryz.prog 15 #[.agg #[.slice va n vc, .slice ua (words.length + lk) uc, .int .i64 0, .int .i64 8]] V fun e w' => e = .returned (ints3 x y z) ∧ Below V.heap.size V w') := fun V S qb va vc ua uc tv hR => by
    obtain ⟨ca', cc', A', C', e1, hpin⟩ := new_pin hR.code (fun t ht => (hR.thr t ht).1) (by have := hc.n4; omega) (fun t ht => by
      unfold lenR
      rw [code_len]
      have h4 := hc.L4 t ht
      have := spin_pl words.length X t (L t)
      omega)
    simp only [Value.slice.injEq, true_and] at e1
    obtain ⟨rfl, rfl⟩ := e1
    exact check_any va n vc ua (words.length + lk) uc 0 8 A' (lenR (bSpin words.length X) L) C' (numR (bSpin words.length X) L) x y z hq V hpin
  have HAT := Hid.out (p := Hid _) hat
  have HW3 := Hid.out (p := Hid _) hW3
  have hlk4 := hc.lk4
  obtain ⟨mw, hmw⟩ : ∃ k, words.length = k := ⟨_, rfl⟩
  have HMW : Hid (words.length = mw) := hmw
  rw [hmw] at HCK HPT HCQ HAT HW3 hm ⊢
  clear hp hchk hat hW3 hw hnil hc hq hmw hg
  go_enter Tryz.func12, Tryz.ntmps12
  go_wp2_with fail
  rw [HW3.out]
  refine Calls.mono (HCK.out _ (HAT.out _ (Below.refl _ _)).1) ?_
  rintro e w1 ⟨rfl, hb1⟩
  obtain ⟨hw1, b0, b1, b2⟩ := HAT.out w1 hb1
  have hl2 : w.heap.size + 1 + 1 < w1.heap.size := box_lt b2
  have p0 : ∀ o, (w1.alloc o).cell? ⟨w.heap.size, 0, none⟩ = some (.slice ca n cc) := fun o => box_cell (box_later b0 o) rfl
  have p1 : ∀ o, (w1.alloc o).cell? ⟨w.heap.size, 1, none⟩ = some (.slice wa mw wc) := fun o => box_cell (box_later b0 o) rfl
  have p2 : ∀ o, (w1.alloc o).cell? ⟨w.heap.size, 2, none⟩ = some (.int .i64 lk) := fun o => box_cell (box_later b0 o) rfl
  have p3 : ∀ o, (w1.alloc o).cell? ⟨w.heap.size, 3, none⟩ = some (.int .i64 rg) := fun o => box_cell (box_later b0 o) rfl
  have H1 : Hid (Below W3.heap.size W3 w1 ∧ Below w.heap.size w w1 ∧ w1.heap[w.heap.size]? = some (.cells #[.slice ca n cc, .slice wa mw wc, .int .i64 lk, .int .i64 rg] 25)) := ⟨hb1, hw1, b0⟩
  clear hb1 hw1 b0 b1 b2 HW3 HCK
  go_wp2_with fail
  have hbU : Below w.heap.size w (w1.alloc (.cells #[.int .i64 0, .int .i64 0, .int .i64 0] 29)) := H1.out.2.1.alloc H1.out.2.1.size _
  refine Calls.mono (HPT.out _ (box_later H1.out.2.2 _) hbU) ?_
  rintro e w2 ⟨va, vc, ua, uc, tv, rfl, h1, h2, h3, h4⟩
  have hR := new_box (lk := (lk : Int)) (rg := (rg : Int)) h1 h2 h3 h4
  rw [HMW.out] at hR ⊢
  obtain ⟨U, hU⟩ : ∃ V, w1.alloc (.cells #[.int .i64 0, .int .i64 0, .int .i64 0] 29) = V := ⟨_, rfl⟩
  have hUs : U.heap.size = w1.heap.size + 1 := by rw [← hU]; simp
  have hbU3 : Below W3.heap.size W3 U := by rw [← hU]; exact H1.out.1.alloc H1.out.1.size _
  rw [hU] at hR hbU h4
  have HU3 : Hid (Below W3.heap.size W3 U ∧ Below w.heap.size w U) := ⟨hbU3, hbU⟩
  have hs12 : U.heap.size ≤ w2.heap.size := h4.size
  obtain ⟨W4, hW4⟩ : ∃ V, w2.alloc (.cells #[.slice va n vc, .slice ua mw uc, .int .i64 lk, .int .i64 rg] 25) = V := ⟨_, rfl⟩
  have HW4 := Hid.out (p := Hid _) hW4
  rw [hW4] at hR
  obtain ⟨qb, hqb⟩ : ∃ q, w2.heap.size = q := ⟨_, rfl⟩
  rw [hqb] at hR hs12
  have HQ4 := Hid.out (p := Hid _) hqb
  have HR := Hid.out (p := Hid _) hR
  obtain ⟨_, hp4, _⟩ := HAT.out w2 (hbU3.trans (h4.mono hbU3.size))
  have z2 : ∀ o, (w2.alloc o).cell? ⟨w.heap.size, 2, none⟩ = some (.int .i64 lk) := fun o => box_cell (box_later hp4 o) rfl
  clear hR h1 h2 h3 h4 hW4 hbU hbU3 hU p0 p1 p2 p3 HPT H1 hp4 hqb
  go_wp2
  rw [HW4.out, HQ4.out]
  clear HW4 z2
  go_loopw [19] (fun i wr => ∃ (k : Nat) (ub : Option Addr) (ud : Nat), k ≤ lk ∧ i = .int .i64 k ∧ Hid (RwI U qb (.slice ub (mw + k) ud) (words ++ List.replicate k 0) lk rg (bSpin mw X) L n wr (.slice va n vc) tv)) (fun i _ => lk - (intOf i).toNat)
  case atStart => exact ⟨0, _, _, Nat.zero_le _, rfl, by show RwI _ _ _ _ _ _ _ _ _ _ _ _; simpa using HR.out⟩
  case round =>
    obtain ⟨k, ub, ud, hk, rfl, HL⟩ := hrel
    clear HR
    have hwl : (words ++ List.replicate k 0).length = mw + k := by rw [List.length_append, List.length_replicate, HMW.out]
    by_cases hlt : k < lk
    · obtain ⟨g3, cap3, w3, hrun3, hbx3, hR3⟩ := HL.out.word 0 (by rw [hwl]; omega)
      rw [hwl] at hrun3 hR3
      have x1 := box_cell (i := 1) HL.out.box rfl
      have x3 := box_cell (i := 1) hbx3 rfl
      have xf : w3.frozen? ⟨qb, 1, none⟩ = false := box_free hbx3
      have HR3 : Hid (RwI U qb (.slice (some ⟨g3, 0, none⟩) (mw + (k + 1)) cap3) (words ++ List.replicate (k + 1) 0) lk rg (bSpin mw X) L n (w3.setCell ⟨qb, 1, none⟩ (.slice (some ⟨g3, 0, none⟩) (mw + k + 1) cap3)) (.slice va n vc) tv) := by
        show RwI _ _ _ _ _ _ _ _ _ _ _ _
        rw [List.replicate_succ', ← List.append_assoc, ← Nat.add_assoc]
        exact hR3
      clear hR3 hbx3 hwl
      go_wp2
      go_roundw
      case rel => exact ⟨k + 1, _, _, by omega, by go_num, HR3⟩
      case measure => simp [intOf]; omega
    · have hkn : k = lk := by omega
      subst hkn
      have hbx := HL.out.box
      have y0 := box_cell (i := 0) hbx rfl
      have y1 := box_cell (i := 1) hbx rfl
      have y2 := box_cell (i := 2) hbx rfl
      have y3 := box_cell (i := 3) hbx rfl
      have yf : ∀ i, wr.frozen? ⟨qb, i, none⟩ = false := fun i => box_free hbx
      have hR5 := HL.out.nums 0 8
      obtain ⟨W5, hW5⟩ : ∃ V, (wr.setCell ⟨qb, 2, none⟩ (.int .i64 0)).setCell ⟨qb, 3, none⟩ (.int .i64 8) = V := ⟨_, rfl⟩
      have HW5 := Hid.out (p := Hid _) hW5
      rw [hW5] at hR5
      have HR5 := Hid.out (p := Hid _) hR5
      obtain ⟨lk, rfl⟩ : ∃ l, l = k := ⟨_, rfl⟩
      clear hR5 hW5 hbx hwl HL
      go_wp2_with fail
      rw [HW5.out]
      refine Calls.mono (HCQ.out W5 U qb va vc ub ud tv HR5.out) ?_
      rintro e w6 ⟨rfl, hb6⟩
      have hR6 := HR5.out.below hb6
      have hU6 := HU3.out.1.trans (hR6.low.mono HU3.out.1.size)
      obtain ⟨hw6, b0, b1, b2⟩ := HAT.out w6 hU6
      have b3 := hR6.box
      have t0 : ∀ o, (w6.alloc o).cell? ⟨w.heap.size + 1, 0, none⟩ = some nilV := fun o => box_cell (box_later b1 o) rfl
      have t1 : ∀ o, (w6.alloc o).cell? ⟨w.heap.size + 1, 1, none⟩ = some nilV := fun o => box_cell (box_later b1 o) rfl
      have t2 : ∀ o, (w6.alloc o).cell? ⟨w.heap.size + 1, 2, none⟩ = some (.int .i64 0) := fun o => box_cell (box_later b1 o) rfl
      have t3 : ∀ o, (w6.alloc o).cell? ⟨w.heap.size + 1, 3, none⟩ = some (.int .i64 0) := fun o => box_cell (box_later b1 o) rfl
      have u0 : ∀ o, (w6.alloc o).cell? ⟨w.heap.size + 1 + 1, 0, none⟩ = some (.int .i64 0) := fun o => box_cell (box_later b2 o) rfl
      have u1 : ∀ o, (w6.alloc o).cell? ⟨w.heap.size + 1 + 1, 1, none⟩ = some (.int .i64 0) := fun o => box_cell (box_later b2 o) rfl
      have u2 : ∀ o, (w6.alloc o).cell? ⟨w.heap.size + 1 + 1, 2, none⟩ = some (.int .i64 0) := fun o => box_cell (box_later b2 o) rfl
      have tf : ∀ o i, (w6.alloc o).frozen? ⟨w.heap.size + 1, i, none⟩ = false := fun o i => box_free (box_later b1 o)
      have uf : ∀ o i, (w6.alloc o).frozen? ⟨w.heap.size + 1 + 1, i, none⟩ = false := fun o i => box_free (box_later b2 o)
      have s0 : ∀ o, (w6.alloc o).cell? ⟨qb, 0, none⟩ = some (.slice va n vc) := fun o => box_cell (box_later b3 o) rfl
      have s1 : ∀ o, (w6.alloc o).cell? ⟨qb, 1, none⟩ = some (.slice ub (mw + lk) ud) := fun o => box_cell (box_later b3 o) rfl
      have s2 : ∀ o, (w6.alloc o).cell? ⟨qb, 2, none⟩ = some (.int .i64 0) := fun o => box_cell (box_later b3 o) rfl
      have s3 : ∀ o, (w6.alloc o).cell? ⟨qb, 3, none⟩ = some (.int .i64 8) := fun o => box_cell (box_later b3 o) rfl
      have hl6 : qb < w6.heap.size := box_lt b3
      have n1 : w6.heap.size ≠ w.heap.size + 1 := by omega
      have n2 : w6.heap.size ≠ w.heap.size + 1 + 1 := by omega
      have n3 : w.heap.size + 1 ≠ w6.heap.size := by omega
      have n4 : w.heap.size + 1 + 1 ≠ w6.heap.size := by omega
      have n5 : qb ≠ w.heap.size + 1 := by omega
      have n6 : qb ≠ w.heap.size + 1 + 1 := by omega
      have n7 : w.heap.size + 1 ≠ qb := by omega
      have n8 : w.heap.size + 1 + 1 ≠ qb := by omega
      have hNQ : NewQ U n (words ++ List.replicate lk 0) 0 8 (bSpin mw X) L (.returned (.agg #[.slice va n vc, .slice ub (mw + lk) ud, .int .i64 0, .int .i64 8])) w6 := by
        have hwl : (words ++ List.replicate lk 0).length = mw + lk := by rw [List.length_append, List.length_replicate, HMW.out]
        refine ⟨va, vc, ub, ud, tv, by rw [hwl], hR6.code, fun t ht => (hR6.thr t ht).1, ?_, hR6.low⟩
        have := hR6.words
        rw [hwl] at this ⊢
        exact this
      have H3 : Hid (Below w.heap.size w w6 ∧ NewQ U n (words ++ List.replicate lk 0) 0 8 (bSpin mw X) L (.returned (.agg #[.slice va n vc, .slice ub (mw + lk) ud, .int .i64 0, .int .i64 8])) w6) := ⟨hw6, hNQ⟩
      clear hw6 hU6 hR6 hb6 b0 b1 b2 b3 HAT HCQ hNQ HR5 HW5 y0 y1 y2 y3 yf
      by_cases hx : x = 0
      · subst hx
        go_wp2
        have hB : Below w.heap.size w (w6.alloc (.cells #[.int .i64 0, .int .i64 y, .int .i64 z] 29)) := H3.out.1.alloc H3.out.1.size _
        have hbn := below7n hB (.slice va n vc) (.slice ub (mw + lk) ud) (.int .i64 0) (.int .i64 8) (.int .i64 0) (.int .i64 0) (.int .i64 0)
        refine bodyPost_ret (v := .tuple #[.agg #[.slice va n vc, .slice ub (mw + lk) ud, .int .i64 0, .int .i64 8], ints3 0 0 0]) (by simp [results, Tryz.results12, go_sem, t0, t1, t2, t3, u0, u1, u2]) rfl ⟨va, vc, ub, ud, rfl, fun V hV => ?_, hbn⟩
        refine NewQ.below (V := (((((((w6.alloc (.cells #[.int .i64 0, .int .i64 y, .int .i64 z] 29)).setCell ⟨w.heap.size + 1, 0, none⟩ (.slice va n vc)).setCell ⟨w.heap.size + 1, 1, none⟩ (.slice ub (mw + lk) ud)).setCell ⟨w.heap.size + 1, 2, none⟩ (.int .i64 0)).setCell ⟨w.heap.size + 1, 3, none⟩ (.int .i64 8)).setCell ⟨w.heap.size + 1 + 1, 0, none⟩ (.int .i64 0)).setCell ⟨w.heap.size + 1 + 1, 1, none⟩ (.int .i64 0)).setCell ⟨w.heap.size + 1 + 1, 2, none⟩ (.int .i64 0)) ?_ hV
        refine H3.out.2.far (fun g hg1 hg2 => ?_) (by omega) hbn
        rw [far7 (by omega) (by omega)]
        exact ((Below.refl w6.heap.size w6).alloc (Nat.le_refl _) _).block g hg2
      · have hx' : (x != 0) = true := by simpa using hx
        go_wp2_with fail
        go_region
        all_goals go_wp2
        have hB : Below w.heap.size w (w6.alloc (.cells #[.int .i64 x, .int .i64 y, .int .i64 z] 29)) := H3.out.1.alloc H3.out.1.size _
        all_goals exact bodyPost_ret (v := .tuple #[noP, ints3 x y z]) (by simp [results, Tryz.results12, go_sem, t0, t1, t2, t3, u0, u1, u2]) rfl ⟨rfl, below7 hB _ _ _ _ _ _ _⟩
end

section
open Go.RowKit

set_option maxRecDepth 100000 in
set_option maxHeartbeats 1600000 in
theorem tended_any (w : World) (B : Nat) (Q : Cd) (sb mb : Nat) (v : Rp → Value) (s : Sx) (tb t : Nat) (hs : QSt w B Q sb mb v s) (htb : (v .thr).ownBlock = some tb) (ht : t < s.ths.length) (_hn : s.ths.length ≤ 4) (_hL : Q.L t ≤ 1000) (hpc : (thOf s t).pc ≤ Q.L t) :
    Calls Tryz.prog 66 #[.pointer (some ⟨tb, t * 3, none⟩)] w fun e w' => e = .returned (.bool (endedT Q.L s t)) ∧ ∃ k, w' = w.drewN k := by
  have c0 := hs.code htb ht
  have c1 := hs.pc htb ht
  have hr : endedT Q.L s t = decide ((thOf s t).pc = Q.L t) := by
    unfold endedT
    exact decide_eq_decide.2 (by omega)
  rw [hr]
  obtain ⟨pc, hp⟩ : ∃ x, (thOf s t).pc = x := ⟨_, rfl⟩
  obtain ⟨l, hl⟩ : ∃ x, Q.L t = x := ⟨_, rfl⟩
  rw [hp] at c1 hpc ⊢
  rw [hl] at c0 _hL hpc ⊢
  clear hs hr hp hl htb
  go_enter Tryz.func66, Tryz.ntmps66
  go_wp2
  go_quiet (fail)
  go_wp2
  go_ret
  exact ⟨ret_bool (by rw [Bool.eq_iff_iff]; simp; omega), nq, rfl⟩

/-- Have all threads ended? -/
def allEnded (L : Nat → Nat) (s : Sx) : Bool := (List.range s.ths.length).all fun t => endedT L s t
theorem ended_bare {L : Nat → Nat} {s : Sx} (h : ∀ t, t < s.ths.length → (thOf s t).wait = []) : endedX L s = allEnded L s := by
  unfold endedX allEnded
  rw [Bool.eq_iff_iff, List.all_eq_true, List.all_eq_true]
  constructor
  · intro h1 t ht
    have := h1 t ht
    simp at this
    exact this.1
  · intro h1 t ht
    rw [h1 t ht, h t (by simpa using ht)]
    rfl

set_option maxRecDepth 100000 in
set_option maxHeartbeats 1600000 in
theorem rest_any (w : World) (B : Nat) (Q : Cd) (sb mb : Nat) (v : Rp → Value) (s : Sx) (n : Nat) (hs : QSt w B Q sb mb v s) (hn : s.ths.length = n) (h0 : 0 < n) (h4 : n ≤ 4) (hL : ∀ t, t < n → Q.L t ≤ 1000) (hpc : ∀ t, t < n → (thOf s t).pc ≤ Q.L t) :
    Calls Tryz.prog 50 #[.pointer (some ⟨sb, 0, none⟩)] w fun e w' => e = .returned (.int .i64 (if allEnded Q.L s then 0 else 2)) ∧ Below w.heap.size w w' := by
  obtain ⟨tb, tc, hth, htb, _⟩ := hs.blk .thr (by show 0 < s.ths.length; omega)
  have c1 := hs.c1
  rw [hth] at c1
  change w.cell? ⟨sb, 1, none⟩ = some (.slice (some ⟨tb, 0, none⟩) s.ths.length tc) at c1
  rw [hn] at c1
  have HT : Hid (∀ wr t, t < n → Below w.heap.size w wr → Calls Tryz.prog 66 #[.pointer (some ⟨tb, t * 3, none⟩)] wr fun e w' => e = .returned (.bool (endedT Q.L s t)) ∧ ∃ k, w' = wr.drewN k) := fun wr t ht hb =>
    tended_any wr B Q sb mb v s tb t (hs.below hb) htb (by omega) (by omega) (hL t ht) (hpc t ht)
  obtain ⟨r, hr⟩ : ∃ r, allEnded Q.L s = r := ⟨_, rfl⟩
  have HR : Hid (allEnded Q.L s = r) := hr
  have HN : Hid (s.ths.length = n) := hn
  rw [hr]
  clear hr hs hth htb hn hL hpc h0
  go_enter Tryz.func50, Tryz.ntmps50
  go_wp2_with fail
  go_loopw [9] (fun i wr => ∃ j : Nat, j ≤ n ∧ i = .int .i64 j ∧ Hid (∀ p, p < j → endedT Q.L s p = true) ∧ Below w.heap.size w wr) (fun i _ => n - (intOf i).toNat)
  case atStart => exact ⟨0, Nat.zero_le _, rfl, fun p hp => absurd hp (Nat.not_lt_zero _), Below.refl _ _⟩
  case round =>
    obtain ⟨j, hj, rfl, HJ, hbr⟩ := hrel
    have c1r := (hbr.cell (lt_of_cell c1)).trans c1
    by_cases hlt : j < n
    · have HC := Hid.out (p := Hid _) (HT.out _ j hlt hbr)
      go_wp2_with fail
      refine Calls.mono HC.out ?_
      rintro e w1 ⟨rfl, kd, rfl⟩
      cases he : endedT Q.L s j with
      | true =>
        have HE : Hid (endedT Q.L s j = true) := he
        clear he HC
        go_wp2
        go_roundw
        case rel =>
          refine ⟨j + 1, by omega, by go_num, fun p hp => ?_, below_drewN hbr⟩
          rcases (by omega : p < j ∨ p = j) with h | rfl
          · exact HJ.out p h
          · exact HE.out
        case measure => simp [intOf]; omega
      | false =>
        obtain rfl : r = false := by
          rw [← HR.out]
          unfold allEnded
          rw [List.all_eq_false]
          exact ⟨j, by rw [HN.out]; simpa using hlt, by rw [he]; simp⟩
        clear he HC
        go_wp2
        go_ret
        exact ⟨rfl, below_drewN hbr⟩
    · obtain rfl : r = true := by
        rw [← HR.out]
        unfold allEnded
        rw [List.all_eq_true]
        intro p hp
        rw [HN.out] at hp
        exact HJ.out p (by simp at hp; omega)
      go_wp2
      go_ret
      exact ⟨rfl, hbr⟩
/-- Where nothing can be picked nothing waits. -/
theorem moves_bare {L : Nat → Nat} {X : Nat → Nat → Nat → Int} {mode : Int} {s : Sx} (h : movesX L X mode s = []) {t : Nat} (ht : t < s.ths.length) : (thOf s t).wait = [] := by
  unfold movesX at h
  rw [List.flatMap_eq_nil_iff] at h
  have h1 := h t (by simpa using ht)
  unfold movesT at h1
  rw [List.append_eq_nil_iff] at h1
  have h2 := h1.2
  rw [List.map_eq_nil_iff, List.filter_eq_nil_iff] at h2
  cases hw : (thOf s t).wait with
  | nil => rfl
  | cons a l => exact absurd (show mayW mode (thOf s t).wait 0 = true from rfl) (h2 0 (by simp [hw]))
end

end Go.Proofs.YtefnmbnakphhfadGreatDoor
