/-
  Orders that were made, as a program of their own.
  Orders anew, by what is found out of each thread.
  Boxes that a call makes first, and what is stored into them at its end.
-/
import Derived.Test.YtkailbdjilkneaaDoorFRew
import Derived.Test.YtkailbdjilkneaaDoorCheckA
import Derived.Test.YtkailbdjilkneaaDoorOptCh
namespace Go.Proofs.YtkailbdjilkneaaDoor
section
open Go.RowKit

/-- Orders that were made, as a program's. -/
theorem new_pin {w : World} {B : Nat} {b : Nat → Nat → List I4} {L : Nat → Nat} {n : Nat} {cv : Value} {tv : List Value} (hc : w.ownsRow B 45 1 cv n tv) (ht : ∀ t, t < n → OwnC w B (tv.getD t nilV) (codeR (b t) (L t))) (hn : n ≤ 1000) (hl : ∀ t, t < n → lenR b L t ≤ 1000000) :
    ∃ ca cc A C, cv = .slice ca n cc ∧ PIn w ca n A (lenR b L) C (numR b L) := by
  obtain ⟨ca, cc, rfl⟩ := fam_form hc
  have htl : tv.length = n := by have := hc.1; omega
  have hf : ∀ t, ∃ a c, t < n → tv.getD t nilV = .slice a (lenR b L t) c := fun t => by
    by_cases h : t < n
    · obtain ⟨a, c, e⟩ := fam_form (ht t h)
      exact ⟨a, c, fun _ => e⟩
    · exact ⟨none, 0, fun h' => absurd h' h⟩
  refine ⟨ca, cc, fun t => (hf t).choose, fun t => (hf t).choose_spec.choose, rfl, ⟨fun t h => ?_, fun t i h hi => ?_, fun t h => by have := hl t h; omega, by omega⟩⟩
  · obtain ⟨g, cap, e, hg, _⟩ := fam_block hc (by omega)
    simp only [Value.slice.injEq] at e
    refine ⟨g, 0, e.1, ?_⟩
    have e2 := (hf t).choose_spec.choose_spec h
    have e3 : tv[t]? = some (tv.getD t nilV) := by simp [List.getD, show t < tv.length by omega]
    rw [e2] at e3
    rw [Nat.zero_add]
    exact fam_cell hc hg e3
  · have h1 := ht t h
    have e2 := (hf t).choose_spec.choose_spec h
    rw [e2] at h1
    obtain ⟨g, cap, e, hg, _⟩ := fam_block h1 (Nat.lt_of_le_of_lt (Nat.zero_le _) hi)
    simp only [Value.slice.injEq] at e
    obtain ⟨y0, y1, y2, y3⟩ := cellsT_at (l := codeR (b t) (L t)) hi fenceI
    refine ⟨g, 0, e.1, ?_, ?_, ?_, ?_⟩
    · rw [Nat.zero_add]; exact fam_cell h1 hg y0
    · rw [Nat.zero_add]; exact fam_cell h1 hg y1
    · rw [Nat.zero_add]; exact fam_cell h1 hg y2
    · rw [Nat.zero_add]; exact fam_cell h1 hg y3
/-- What a rewritten program is. -/
def NewQ (w : World) (n : Nat) (words : List Int) (lk rg : Int) (b : Nat → Nat → List I4) (L : Nat → Nat) (e : Ending) (w' : World) : Prop := ∃ (va : Option Addr) (vc : Nat) (ua : Option Addr) (uc : Nat) (tv : List Value), e = .returned (.agg #[.slice va n vc, .slice ua words.length uc, .int .i64 lk, .int .i64 rg]) ∧ w'.ownsRow w.heap.size 45 1 (.slice va n vc) n tv ∧ (∀ t, t < n → OwnC w' w.heap.size (tv.getD t nilV) (codeR (b t) (L t))) ∧ w'.ownsRow w.heap.size 3 1 (.slice ua words.length uc) words.length (intsV words) ∧ Below w.heap.size w w'
theorem NewQ.below {w V V' : World} {n : Nat} {words : List Int} {lk rg : Int} {b : Nat → Nat → List I4} {L : Nat → Nat} {e : Ending} (h : NewQ w n words lk rg b L e V) (hb : Below V.heap.size V V') : NewQ w n words lk rg b L e V' := by
  obtain ⟨va, vc, ua, uc, tv, h0, h1, h2, h3, h4⟩ := h
  exact ⟨va, vc, ua, uc, tv, h0, owns_below2 h1 hb, fun t ht => (h2 t ht).below hb, owns_below2 h3 hb, h4.trans (hb.mono h4.size)⟩
/-- Stores below it change nothing. -/
theorem NewQ.far {w U V V' : World} {n : Nat} {words : List Int} {lk rg : Int} {b : Nat → Nat → List I4} {L : Nat → Nat} {e : Ending} (h : NewQ U n words lk rg b L e V) (hk : ∀ g, U.heap.size ≤ g → g < V.heap.size → V'.heap[g]? = V.heap[g]?) (hw : w.heap.size ≤ U.heap.size) (hb : Below w.heap.size w V') : NewQ w n words lk rg b L e V' := by
  obtain ⟨va, vc, ua, uc, tv, h0, h1, h2, h3, h4⟩ := h
  exact ⟨va, vc, ua, uc, tv, h0, own_low (fam_keeps h1 fun g hg => hk g (h1.lt g hg).1 (h1.lt g hg).2) hw, fun t ht => own_low (fam_keeps (h2 t ht) fun g hg => hk g ((h2 t ht).lt g hg).1 ((h2 t ht).lt g hg).2) hw, own_low (fam_keeps h3 fun g hg => hk g (h3.lt g hg).1 (h3.lt g hg).2) hw, hb⟩
end

section
open Go.RowKit

attribute [local go_sem ↓] appS_eq in
set_option maxRecDepth 100000 in
set_option maxHeartbeats 1600000 in
theorem changed_any (w : World) (fid mid : Nat) (caps : Array Value) (hfn : ∀ (xs : Array Value) (w : World), (callFunc fid xs).run Tryd.prog w = .ok (.enter fid xs) w) (hfm : ∀ (xs : Array Value) (w : World), (callFunc mid xs).run Tryd.prog w = .ok (.enter mid xs) w) (ca : Option Addr) (n cc : Nat) (wa : Option Addr) (words : List Int) (wc : Nat) (lk rg : Int) (A : Nat → Option Addr) (L C : Nat → Nat) (X : Nat → Nat → Nat → Int) (hw : SIs w wa words) (hnil : wa = none → words = [] ∧ wc = 0) (hm : words.length ≤ 64) (hp : PIn w ca n A L C X) (hn : n ≤ 4) (hL : ∀ t, t < n → L t ≤ 1000) (G : Nat → (Nat → List I4) → Prop)
    (hG : ∀ t bt, t < n → G t bt → ∀ i, i < L t → (bt i).length ≤ 4 ∧ ∀ x, x ∈ bt i → (1 ≤ x.1 ∧ x.1 ≤ 18) ∧ (x.1 = 14 → 0 ≤ x.2.1 ∧ x.2.1 ≤ L t) ∧ (x.1 = 15 → 0 ≤ x.2.2.1 ∧ x.2.2.1 ≤ L t))
    (HFO : Hid (∀ V, Below w.heap.size w V → ∀ t, t < n → Calls Tryd.prog fid (#[.int .i64 (t : Int)] ++ caps) V fun e w' => ∃ bnd bt, e = .returned (.func (.func mid) bnd #[]) ∧ Below V.heap.size V w' ∧ G t bt ∧ BecV w w' mid bnd (L t) bt)) :
    Calls Tryd.prog 27 #[prgV ca n cc wa words.length wc lk rg, .func (.func fid) #[] caps] w fun e w' => ∃ b : Nat → Nat → List I4, (∀ t, t < n → G t (b t)) ∧ NewQ w n words lk rg b L e w' := by
  obtain ⟨mw, hmw⟩ : ∃ k, words.length = k := ⟨_, rfl⟩
  have HPR := Hid.out (p := Hid _) (And.intro hp (And.intro hw (And.intro hnil (And.intro hL hm))))
  have HGG := Hid.out (p := Hid _) hG
  rw [hmw]
  obtain ⟨W3, hW3⟩ : ∃ V, ((w.alloc (.cells #[.slice ca n cc, .slice wa mw wc, .int .i64 lk, .int .i64 rg] 25)).alloc (.cells #[nilV, nilV, .int .i64 0, .int .i64 0] 25)).alloc (.cells #[nilV] 105) = V := ⟨_, rfl⟩
  have hb3 : Below w.heap.size w W3 := by rw [← hW3]; exact low3 _ _ _ _
  have hP3 : W3.heap[w.heap.size]? = some (.cells #[.slice ca n cc, .slice wa mw wc, .int .i64 lk, .int .i64 rg] 25) := by rw [← hW3]; exact box_later (box_later (heap_alloc_new _ _) _) _
  have hR3 : W3.heap[w.heap.size + 1]? = some (.cells #[nilV, nilV, .int .i64 0, .int .i64 0] 25) := by
    rw [← hW3]
    have := heap_alloc_new (w.alloc (.cells #[.slice ca n cc, .slice wa mw wc, .int .i64 lk, .int .i64 rg] 25)) (.cells #[nilV, nilV, .int .i64 0, .int .i64 0] 25)
    rw [World.size_alloc] at this
    exact box_later this _
  have hC3 : W3.heap[w.heap.size + 1 + 1]? = some (.cells #[nilV] 105) := by
    rw [← hW3]
    have := heap_alloc_new ((w.alloc (.cells #[.slice ca n cc, .slice wa mw wc, .int .i64 lk, .int .i64 rg] 25)).alloc (.cells #[nilV, nilV, .int .i64 0, .int .i64 0] 25)) (.cells #[nilV] 105)
    rwa [World.size_alloc, World.size_alloc] at this
  have HW3 := Hid.out (p := Hid _) (And.intro hW3 (And.intro hP3 hR3))
  have p0 : W3.cell? ⟨w.heap.size, 0, none⟩ = some (.slice ca n cc) := box_cell hP3 rfl
  have HI0 : Hid (ChI w W3 (w.heap.size + 1 + 1) mid L G 0 nilV ∧ KpZ W3 W3) := ⟨⟨hb3, by omega, hC3, [], World.ownsRow_nil _ _ _ _, fun t ht => absurd ht (Nat.not_lt_zero t)⟩, KpZ.refl _⟩
  have HMW := Hid.out (p := Hid _) hmw
  clear hp hw hnil hL hm hG hW3 hb3 hP3 hR3 hC3 hmw
  go_enter Tryd.func27, Tryd.ntmps27
  go_wp2_with fail
  rw [HW3.out.1]
  as_aux_lemma =>
    go_wp2_with fail
    go_loopw [10] (fun xv wr => ∃ (k : Nat) (va : Option Addr) (vc : Nat), k ≤ n ∧ xv = .int .i64 k ∧ Hid (ChI w wr (w.heap.size + 1 + 1) mid L G k (.slice va k vc) ∧ KpZ W3 wr)) (fun xv _ => n - (intOf xv).toNat)
    case atStart => exact ⟨0, none, 0, Nat.zero_le _, rfl, HI0.out⟩
    case round =>
      obtain ⟨k, va, vc, hk, rfl, HI⟩ := hrel
      clear HI0 p0
      by_cases hlt : k < n
      · as_aux_lemma =>
          have hkI : (k : Int) < (n : Int) := by omega
          have HF := Hid.out (p := Hid _) (HFO.out wr.drew HI.out.1.low.drew k hlt)
          have c0 : wr.cell? ⟨w.heap.size + 1 + 1, 0, none⟩ = some (.slice va k vc) := box_cell HI.out.1.box rfl
          have HC : Hid (Calls Tryd.prog fid (#[.int .i64 (k : Int)] ++ caps) wr.drew fun e w4 => ∃ bnd g cap w6, e = .returned (.func (.func mid) bnd #[]) ∧ w4.cell? ⟨w.heap.size + 1 + 1, 0, none⟩ = some (.slice va k vc) ∧ (AppS #[105, 105] 105 #[.slice va k vc, .slice (some ⟨w4.heap.size, 0, none⟩) 1 1]).run Tryd.prog (w4.alloc (.cells #[.func (.func mid) bnd #[]] 57)) = .ok (.slice (some ⟨g, 0, none⟩) (k + 1) cap) w6 ∧ w6.cell? ⟨w.heap.size + 1 + 1, 0, none⟩ = some (.slice va k vc) ∧ w6.frozen? ⟨w.heap.size + 1 + 1, 0, none⟩ = false ∧ Hid (ChI w (w6.setCell ⟨w.heap.size + 1 + 1, 0, none⟩ (.slice (some ⟨g, 0, none⟩) (k + 1) cap)) (w.heap.size + 1 + 1) mid L G (k + 1) (.slice (some ⟨g, 0, none⟩) (k + 1) cap) ∧ KpZ W3 (w6.setCell ⟨w.heap.size + 1 + 1, 0, none⟩ (.slice (some ⟨g, 0, none⟩) (k + 1) cap)))) := by
            refine Calls.mono HF.out ?_
            rintro e w4 ⟨bnd, bt, h1, h2, h3, h4⟩
            have hb4 : Below wr.heap.size wr w4 := (Below.refl _ _).drew.trans h2
            obtain ⟨g, cap, w6, r1, r2, r3, r4⟩ := HI.out.1.push hb4 (by omega) h3 h4
            have hbx := r2.trans HI.out.1.box
            exact ⟨bnd, g, cap, w6, h1, box_cell ((hb4.block _ (box_lt HI.out.1.box)).trans HI.out.1.box) rfl, r1, box_cell hbx rfl, box_free hbx, r3, HI.out.2.trans r4⟩
          clear HF
          go_wp2_with fail
          go_region_with (refine Calls.mono HC.out ?_; rintro e w4 ⟨bnd, g, cap, w6, rfl, q0, r6, q6, f6, HN⟩; have q0u := cell_up q0)
          all_goals go_wp2_with fail
          all_goals go_roundw
          all_goals first | exact ⟨k + 1, _, _, by omega, by go_num, HN.out⟩ | (simp [intOf]; omega)
      · obtain rfl : k = n := by omega
        as_aux_lemma =>
          have hkI : ¬ (k : Int) < (k : Int) := by omega
          have c0 : wr.cell? ⟨w.heap.size + 1 + 1, 0, none⟩ = some (.slice va k vc) := box_cell HI.out.1.box rfl
          obtain ⟨fs, ho, hf⟩ := HI.out.1.row
          obtain ⟨f, g, hpk⟩ := pick2 hf
          obtain ⟨hp, hw, hnil, hL, hm⟩ := HPR.out
          have hbr := HI.out.1.low
          have hPr : wr.heap[w.heap.size]? = some (.cells #[.slice ca k cc, .slice wa mw wc, .int .i64 lk, .int .i64 rg] 25) := HI.out.2.block _ _ HW3.out.2.1 (fun c fr e => by simp at e) (fun c fr e => by simp at e)
          have hRr : wr.heap[w.heap.size + 1]? = some (.cells #[nilV, nilV, .int .i64 0, .int .i64 0] 25) := HI.out.2.block _ _ HW3.out.2.2 (fun c fr e => by simp at e) (fun c fr e => by simp at e)
          have HGF : Hid (∀ t, t < k → G t (g t)) := fun t ht => (hpk t ht).2.1
          have HRW : Hid (Calls Tryd.prog 50 #[.agg #[.slice ca k cc, .slice wa mw wc, .int .i64 lk, .int .i64 rg], .func (.func 58) #[] #[.pointer (some ⟨w.heap.size + 1 + 1, 0, none⟩)]] wr fun e w' => ∃ (va : Option Addr) (vc : Nat) (ua : Option Addr) (uc : Nat), e = .returned (.agg #[.slice va k vc, .slice ua mw uc, .int .i64 lk, .int .i64 rg]) ∧ Hid (NewQ wr k words lk rg g L (.returned (.agg #[.slice va k vc, .slice ua mw uc, .int .i64 lk, .int .i64 rg])) w') ∧ Below wr.heap.size wr w') := by
            have h := rewrite_any wr ca k cc wa words wc lk rg 58 #[.pointer (some ⟨w.heap.size + 1 + 1, 0, none⟩)] A L C X g (hw.below hbr) hnil hm (hp.below hbr) (by omega) hL (fun t i ht hi => (HGG.out t (g t) ht (HGF.out t ht) i hi).1) (fun t i x ht hi hx => (HGG.out t (g t) ht (HGF.out t ht) i hi).2 x hx) (fun xs w => by kernel_rfl) (fun U t i hU ht hi => by
              obtain ⟨h1, h2, h3⟩ := hpk t ht
              obtain ⟨gb, gc, e1, e2, _, _⟩ := fam_block ho (by omega)
              simp only [Value.slice.injEq] at e1
              obtain ⟨rfl, _, rfl⟩ := e1
              have hc := fam_cell ho e2 h1
              refine chg1_any U (w.heap.size + 1 + 1) gb k _ t i mid (f t) _ hfm ((hU.cell (lt_of_cell c0)).trans c0) ht ((hU.cell (lt_of_cell hc)).trans hc) ?_
              refine Calls.mono (h3 U (hbr.trans (hU.mono hbr.size)) (KpZ.low hU) i hi) ?_
              rintro e w' ⟨sa, c, rfl, q1, q2⟩
              exact ⟨_, rfl, sa, c, rfl, q1, q2⟩)
            rw [HMW.out] at h
            refine Calls.mono h ?_
            rintro e w' ⟨cv, uv, tv, rfl, h1, h2, h3, h4⟩
            obtain ⟨va, vc, rfl⟩ := fam_form h1
            obtain ⟨ua, uc, rfl⟩ := fam_form h3
            exact ⟨va, vc, ua, uc, rfl, ⟨va, vc, ua, uc, tv, by rw [HMW.out], h1, h2, by rw [HMW.out]; exact h3, h4⟩, h4⟩
          have HBR := Hid.out (p := Hid _) hbr
          have HRr := Hid.out (p := Hid _) hRr
          have p0 : wr.cell? ⟨w.heap.size, 0, none⟩ = some (.slice ca k cc) := box_cell hPr rfl
          have p1 : wr.cell? ⟨w.heap.size, 1, none⟩ = some (.slice wa mw wc) := box_cell hPr rfl
          have p2 : wr.cell? ⟨w.heap.size, 2, none⟩ = some (.int .i64 lk) := box_cell hPr rfl
          have p3 : wr.cell? ⟨w.heap.size, 3, none⟩ = some (.int .i64 rg) := box_cell hPr rfl
          clear ho hf hpk hp hw hnil hL hm hbr hPr hRr HI HFO HPR HW3
          go_wp2_with fail
          refine Calls.mono HRW.out ?_
          rintro e w1 ⟨va', vc', ua', uc', rfl, HQ, hb1⟩
          have r1 : w1.heap[w.heap.size + 1]? = some (.cells #[nilV, nilV, .int .i64 0, .int .i64 0] 25) := (hb1.block _ (box_lt HRr.out)).trans HRr.out
          have t0 : w1.cell? ⟨w.heap.size + 1, 0, none⟩ = some nilV := box_cell r1 rfl
          have t1 : w1.cell? ⟨w.heap.size + 1, 1, none⟩ = some nilV := box_cell r1 rfl
          have t2 : w1.cell? ⟨w.heap.size + 1, 2, none⟩ = some (.int .i64 0) := box_cell r1 rfl
          have t3 : w1.cell? ⟨w.heap.size + 1, 3, none⟩ = some (.int .i64 0) := box_cell r1 rfl
          have tf : ∀ i, w1.frozen? ⟨w.heap.size + 1, i, none⟩ = false := fun i => box_free r1
          have HB1 := Hid.out (p := Hid _) hb1
          clear hb1 HRW
          go_wp2_with fail
          have hBn : Below w.heap.size w ((((w1.setCell ⟨w.heap.size + 1, 0, none⟩ (.slice va' k vc')).setCell ⟨w.heap.size + 1, 1, none⟩ (.slice ua' mw uc')).setCell ⟨w.heap.size + 1, 2, none⟩ (.int .i64 lk)).setCell ⟨w.heap.size + 1, 3, none⟩ (.int .i64 rg)) :=
            ((((HBR.out.trans (HB1.out.mono HBR.out.size)).setCell (by simp) _).setCell (by simp) _).setCell (by simp) _).setCell (by simp) _
          have hlt3 : w.heap.size + 1 < wr.heap.size := box_lt HRr.out
          refine bodyPost_ret (v := .agg #[.slice va' k vc', .slice ua' mw uc', .int .i64 lk, .int .i64 rg]) (by simp [results, Tryd.results27, go_sem, t0, t1, t2, t3]) rfl ⟨g, HGF.out, ?_⟩
          refine HQ.out.far (fun b hg1 hg2 => ?_) HBR.out.size hBn
          have hb : b ≠ w.heap.size + 1 := by omega
          rw [Below.heap_setCell _ _ _ _ hb, Below.heap_setCell _ _ _ _ hb, Below.heap_setCell _ _ _ _ hb, Below.heap_setCell _ _ _ _ hb]
end

section
open Go.RowKit

abbrev noP : Value := .agg #[nilV, nilV, .int .i64 0, .int .i64 0]
/-- Three boxes that a call makes first. -/
theorem box3 (w : World) (P R F : Obj) : ∃ W, ((w.alloc P).alloc R).alloc F = W ∧ w.heap.size + 3 = W.heap.size ∧ ∀ V, Below W.heap.size W V → Below w.heap.size w V ∧ V.heap[w.heap.size]? = some P ∧ V.heap[w.heap.size + 1]? = some R ∧ V.heap[w.heap.size + 1 + 1]? = some F := by
  refine ⟨_, rfl, by simp, fun V hb => ⟨?_, ?_, ?_, ?_⟩⟩
  · exact ((((Below.refl _ _).alloc (Nat.le_refl _) _).alloc (by simp) _).alloc (by simp; omega) _).trans (hb.mono (by simp; omega))
  · exact (hb.block _ (by simp; omega)).trans (box_later (box_later (heap_alloc_new _ _) _) _)
  · have := (hb.block (w.heap.size + 1) (by simp)).trans (box_later (show ((w.alloc P).alloc R).heap[w.heap.size + 1]? = some R by have := heap_alloc_new (w.alloc P) R; simpa using this) _)
    exact this
  · have := (hb.block (w.heap.size + 1 + 1) (by simp)).trans (show (((w.alloc P).alloc R).alloc F).heap[w.heap.size + 1 + 1]? = some F by have := heap_alloc_new ((w.alloc P).alloc R) F; simpa using this)
    exact this
theorem below7n {w w' : World} (h : Below w.heap.size w w') (a b c d e f g : Value) : Below w.heap.size w (((((((w'.setCell ⟨w.heap.size + 1, 0, none⟩ a).setCell ⟨w.heap.size + 1, 1, none⟩ b).setCell ⟨w.heap.size + 1, 2, none⟩ c).setCell ⟨w.heap.size + 1, 3, none⟩ d).setCell ⟨w.heap.size + 1 + 1, 0, none⟩ e).setCell ⟨w.heap.size + 1 + 1, 1, none⟩ f).setCell ⟨w.heap.size + 1 + 1, 2, none⟩ g) := by
  have h1 : w.heap.size ≤ w.heap.size + 1 := by omega
  have h2 : w.heap.size ≤ w.heap.size + 1 + 1 := by omega
  exact ((((((h.setCell h1 _).setCell h1 _).setCell h1 _).setCell h1 _).setCell h2 _).setCell h2 _).setCell h2 _
theorem below7 {w w' : World} (h : Below w.heap.size w w') (a b c d e f g : Value) : Below w.heap.size w (((((((w'.setCell ⟨w.heap.size + 1, 0, none⟩ a).setCell ⟨w.heap.size + 1, 1, none⟩ b).setCell ⟨w.heap.size + 1, 2, none⟩ c).setCell ⟨w.heap.size + 1, 3, none⟩ d).setCell ⟨w.heap.size + 1 + 1, 0, none⟩ e).setCell ⟨w.heap.size + 1 + 1, 1, none⟩ f).setCell ⟨w.heap.size + 1 + 1, 2, none⟩ g).drew := (below7n h a b c d e f g).drew
theorem far7 {w' : World} {k g : Nat} (h1 : g ≠ k + 1) (h2 : g ≠ k + 1 + 1) (a b c d e f q : Value) : (((((((w'.setCell ⟨k + 1, 0, none⟩ a).setCell ⟨k + 1, 1, none⟩ b).setCell ⟨k + 1, 2, none⟩ c).setCell ⟨k + 1, 3, none⟩ d).setCell ⟨k + 1 + 1, 0, none⟩ e).setCell ⟨k + 1 + 1, 1, none⟩ f).setCell ⟨k + 1 + 1, 2, none⟩ q).heap[g]? = w'.heap[g]? := by
  have e1 : ∀ (Z : World) (q : Nat) (u : Value), (Z.setCell ⟨k + 1, q, none⟩ u).heap[g]? = Z.heap[g]? := fun Z q u => Below.heap_setCell _ _ _ _ (fun x => h1 (by simpa using x))
  have e2 : ∀ (Z : World) (q : Nat) (u : Value), (Z.setCell ⟨k + 1 + 1, q, none⟩ u).heap[g]? = Z.heap[g]? := fun Z q u => Below.heap_setCell _ _ _ _ (fun x => h2 (by simpa using x))
  rw [e2, e2, e2, e1, e1, e1, e1]
end

end Go.Proofs.YtkailbdjilkneaaDoor
