/-
  Fences behind orders, by the program: put, Full.
-/
import Derived.Test.YtgofbkgfonlceacFRew
import Derived.Test.YtgofbkgfonlceacFPut
import Derived.Test.YtgofbkgfonlceacFenL
namespace Go.Proofs.Ytgofbkgfonlceac
open Go.RowKit

/-- Orders that were made, as a program's. -/
theorem new_pin {w : World} {B : Nat} {b : Nat → Nat → List I4} {L : Nat → Nat} {n : Nat} {cv : Value} {tv : List Value} (hc : w.ownsRow B 47 1 cv n tv) (ht : ∀ t, t < n → OwnC w B (tv.getD t nilV) (codeR (b t) (L t))) (hn : n ≤ 1000) (hl : ∀ t, t < n → lenR b L t ≤ 1000000) :
    ∃ ca cc A C, cv = .slice ca n cc ∧ PIn w ca n A (lenR b L) C (numR b L) := by
  obtain ⟨ca, cc, rfl⟩ := fam_form hc
  have htl : tv.length = n := by have := hc.1; omega
  have hf : ∀ t, ∃ a c, t < n → tv.getD t nilV = .slice a (lenR b L t) c := fun t => by
    by_cases h : t < n
    · obtain ⟨a, c, e⟩ := fam_form (ht t h)
      exact ⟨a, c, fun _ => e⟩
    · exact ⟨none, 0, fun h' => absurd h' h⟩
  refine ⟨ca, cc, fun t => (hf t).choose, fun t => (hf t).choose_spec.choose, rfl, ⟨fun t h => ?_, fun t i h hi => ?_, fun t h => by have := hl t h; omega, by omega⟩⟩
  · obtain ⟨g, cap, e, hg, _⟩ := fam_block hc (by omega)
    simp only [Value.slice.injEq] at e
    refine ⟨g, 0, e.1, ?_⟩
    have e2 := (hf t).choose_spec.choose_spec h
    have e3 : tv[t]? = some (tv.getD t nilV) := by simp [List.getD, show t < tv.length by omega]
    rw [e2] at e3
    rw [Nat.zero_add]
    exact fam_cell hc hg e3
  · have h1 := ht t h
    have e2 := (hf t).choose_spec.choose_spec h
    rw [e2] at h1
    obtain ⟨g, cap, e, hg, _⟩ := fam_block h1 (Nat.lt_of_le_of_lt (Nat.zero_le _) hi)
    simp only [Value.slice.injEq] at e
    obtain ⟨y0, y1, y2, y3⟩ := cellsT_at (l := codeR (b t) (L t)) hi fenceI
    refine ⟨g, 0, e.1, ?_, ?_, ?_, ?_⟩
    · rw [Nat.zero_add]; exact fam_cell h1 hg y0
    · rw [Nat.zero_add]; exact fam_cell h1 hg y1
    · rw [Nat.zero_add]; exact fam_cell h1 hg y2
    · rw [Nat.zero_add]; exact fam_cell h1 hg y3
/-- What orders become may be led on. -/
theorem new_led {n m lk rg : Nat} {L : Nat → Nat} {X : Nat → Nat → Nat → Int} (hc : COk n L X m lk rg) {t i : Nat} (ht : t < n) (hi : i < L t) {x : I4} (hx : x = ordAt X t i ∨ x = fenceI) : (1 ≤ x.1 ∧ x.1 ≤ 18) ∧ (x.1 = 14 → 0 ≤ x.2.1 ∧ x.2.1 ≤ L t) ∧ (x.1 = 15 → 0 ≤ x.2.2.1 ∧ x.2.2.1 ≤ L t) := by
  have h := hc.ord t i ht hi
  rcases hx with rfl | rfl
  · refine ⟨ok_op h, fun e => ?_, fun e => ?_⟩
    · have e' : X t i 0 = 14 := e
      rw [e'] at h
      exact ok_jump h
    · have e' : X t i 0 = 15 := e
      rw [e'] at h
      exact (ok_zero h).2
  · refine ⟨by decide, fun e => ?_, fun e => ?_⟩
    · exact absurd e (by decide)
    · exact absurd e (by decide)
theorem bWith_in {w : Bool} {x y : I4} (h : y ∈ bWith w x) : y = x ∨ y = fenceI := by
  unfold bWith at h
  split at h
  · simpa using h
  · exact Or.inl (by simpa using h)
/-- What a rewritten program is. -/
def NewQ (w : World) (n : Nat) (words : List Int) (lk rg : Int) (b : Nat → Nat → List I4) (L : Nat → Nat) (e : Ending) (w' : World) : Prop := ∃ (va : Option Addr) (vc : Nat) (ua : Option Addr) (uc : Nat) (tv : List Value), e = .returned (.agg #[.slice va n vc, .slice ua words.length uc, .int .i64 lk, .int .i64 rg]) ∧ w'.ownsRow w.heap.size 47 1 (.slice va n vc) n tv ∧ (∀ t, t < n → OwnC w' w.heap.size (tv.getD t nilV) (codeR (b t) (L t))) ∧ w'.ownsRow w.heap.size 3 1 (.slice ua words.length uc) words.length (intsV words) ∧ Below w.heap.size w w'
theorem NewQ.below {w V V' : World} {n : Nat} {words : List Int} {lk rg : Int} {b : Nat → Nat → List I4} {L : Nat → Nat} {e : Ending} (h : NewQ w n words lk rg b L e V) (hb : Below V.heap.size V V') : NewQ w n words lk rg b L e V' := by
  obtain ⟨va, vc, ua, uc, tv, h0, h1, h2, h3, h4⟩ := h
  exact ⟨va, vc, ua, uc, tv, h0, owns_below2 h1 hb, fun t ht => (h2 t ht).below hb, owns_below2 h3 hb, h4.trans (hb.mono h4.size)⟩
/-- Stores below it change nothing. -/
theorem NewQ.far {w U V V' : World} {n : Nat} {words : List Int} {lk rg : Int} {b : Nat → Nat → List I4} {L : Nat → Nat} {e : Ending} (h : NewQ U n words lk rg b L e V) (hk : ∀ g, U.heap.size ≤ g → g < V.heap.size → V'.heap[g]? = V.heap[g]?) (hw : w.heap.size ≤ U.heap.size) (hb : Below w.heap.size w V') : NewQ w n words lk rg b L e V' := by
  obtain ⟨va, vc, ua, uc, tv, h0, h1, h2, h3, h4⟩ := h
  exact ⟨va, vc, ua, uc, tv, h0, own_low (fam_keeps h1 fun g hg => hk g (h1.lt g hg).1 (h1.lt g hg).2) hw, fun t ht => own_low (fam_keeps (h2 t ht) fun g hg => hk g ((h2 t ht).lt g hg).1 ((h2 t ht).lt g hg).2) hw, own_low (fam_keeps h3 fun g hg => hk g (h3.lt g hg).1 (h3.lt g hg).2) hw, hb⟩
set_option maxRecDepth 100000 in
set_option maxHeartbeats 1600000 in
theorem put_any (w : World) (ca : Option Addr) (n cc : Nat) (wa : Option Addr) (words : List Int) (wc : Nat) (lk rg : Nat) (fid : Nat) (caps : Array Value) (A : Nat → Option Addr) (L C : Nat → Nat) (X : Nat → Nat → Nat → Int) (d : Nat → Nat → Bool) (hw : SIs w wa words) (hnil : wa = none → words = [] ∧ wc = 0) (hc : COk n L X words.length lk rg) (hp : PIn w ca n A L C X)
    (hfn : ∀ (xs : Array Value) (w : World), (callFunc fid xs).run Try.prog w = .ok (.enter fid xs) w)
    (hd : ∀ V t i, Below w.heap.size w V → t < n → i < L t → Calls Try.prog fid (#[.agg #[.int .i64 (t : Int), .int .i64 (i : Int)]] ++ caps) V fun e w' => e = .returned (.bool (d t i)) ∧ Below V.heap.size V w') :
    Calls Try.prog 19 #[prgV ca n cc wa words.length wc lk rg, .func (.func fid) #[] caps] w (NewQ w n words lk rg (fun t i => bWith (d t i) (ordAt X t i)) L) := by
  obtain ⟨PB, hPB⟩ : ∃ o : Obj, o = .cells #[.slice ca n cc, .slice wa words.length wc, .int .i64 lk, .int .i64 rg] 25 := ⟨_, rfl⟩
  obtain ⟨FB, hFB⟩ : ∃ o : Obj, o = .cells #[.func (.func fid) #[] caps] 54 := ⟨_, rfl⟩
  obtain ⟨RB, hRB⟩ : ∃ o : Obj, o = .cells #[nilV, nilV, .int .i64 0, .int .i64 0] 25 := ⟨_, rfl⟩
  obtain ⟨W3, hW3⟩ : ∃ V, ((w.alloc PB).alloc FB).alloc RB = V := ⟨_, rfl⟩
  have hb3 : Below w.heap.size w W3 := by rw [← hW3]; exact (((Below.refl _ _).alloc (Nat.le_refl _) _).alloc (by simp) _).alloc (by simp; omega) _
  have hz3 : w.heap.size + 3 = W3.heap.size := by rw [← hW3]; simp
  have hpb : W3.heap[w.heap.size]? = some PB := by rw [← hW3]; exact box_later (box_later (heap_alloc_new _ _) _) _
  have hfb : W3.heap[w.heap.size + 1]? = some FB := by rw [← hW3]; have := box_later (heap_alloc_new (w.alloc PB) FB) RB; simpa using this
  have hrb : W3.heap[w.heap.size + 1 + 1]? = some RB := by rw [← hW3]; have := heap_alloc_new ((w.alloc PB).alloc FB) RB; simpa using this
  have HRW : Hid (Calls Try.prog 24 #[.agg #[.slice ca n cc, .slice wa words.length wc, .int .i64 lk, .int .i64 rg], .func (.func 38) #[] #[.pointer (some ⟨w.heap.size + 1, 0, none⟩), .pointer (some ⟨w.heap.size, 0, none⟩)]] W3 fun e w' => ∃ (va : Option Addr) (vc : Nat) (ua : Option Addr) (uc : Nat), e = .returned (.agg #[.slice va n vc, .slice ua words.length uc, .int .i64 lk, .int .i64 rg]) ∧ w'.heap[w.heap.size + 1 + 1]? = some (.cells #[nilV, nilV, .int .i64 0, .int .i64 0] 25) ∧ Hid (∀ a b c f, NewQ w n words lk rg (fun t i => bWith (d t i) (ordAt X t i)) L (.returned (.agg #[.slice va n vc, .slice ua words.length uc, .int .i64 lk, .int .i64 rg])) ((((w'.setCell ⟨w.heap.size + 1 + 1, 0, none⟩ a).setCell ⟨w.heap.size + 1 + 1, 1, none⟩ b).setCell ⟨w.heap.size + 1 + 1, 2, none⟩ c).setCell ⟨w.heap.size + 1 + 1, 3, none⟩ f))) := by
    have h := rewrite_any W3 ca n cc wa words wc lk rg 38 #[.pointer (some ⟨w.heap.size + 1, 0, none⟩), .pointer (some ⟨w.heap.size, 0, none⟩)] A L C X (fun t i => bWith (d t i) (ordAt X t i)) (hw.below hb3) hnil hc.m64 (hp.below hb3) (by have := hc.n4; omega) hc.L4 (fun t i _ _ => by unfold bWith; split <;> simp) (fun t i x ht hi hx => new_led hc ht hi (bWith_in hx)) (fun xs w => by kernel_rfl) (fun V t i hV ht hi => by
      have hV0 : Below w.heap.size w V := hb3.trans (hV.mono hb3.size)
      have e1 := (hV.block w.heap.size (by omega)).trans hpb
      have e2 := (hV.block (w.heap.size + 1) (by omega)).trans hfb
      rw [hPB] at e1
      rw [hFB] at e2
      exact put1_any V w.heap.size (w.heap.size + 1) fid caps ca n cc wa words.length wc lk rg A L C X t i (d t i) (hp.below hV0) ht hi e1 (box_cell e2 rfl) hfn (fun U hU => hd U t i (hV0.trans (hU.mono hV0.size)) ht hi))
    refine Calls.mono h ?_
    rintro e w' ⟨cv, uv, tv, rfl, h1, h2, h3, h4⟩
    have e3 := (h4.block (w.heap.size + 1 + 1) (by omega)).trans hrb
    rw [hRB] at e3
    have hlt : w.heap.size + 1 + 1 < W3.heap.size := by omega
    obtain ⟨va, vc, rfl⟩ := fam_form h1
    obtain ⟨ua, uc, rfl⟩ := fam_form h3
    refine ⟨va, vc, ua, uc, rfl, e3, fun a b c f => ⟨va, vc, ua, uc, tv, rfl, ?_, fun t ht => ?_, ?_, ?_⟩⟩
    · exact own_low (ownsRow_setCell_below (ownsRow_setCell_below (ownsRow_setCell_below (ownsRow_setCell_below h1 hlt _) hlt _) hlt _) hlt _) hb3.size
    · exact own_low (ownsRow_setCell_below (ownsRow_setCell_below (ownsRow_setCell_below (ownsRow_setCell_below (h2 t ht) hlt _) hlt _) hlt _) hlt _) hb3.size
    · exact own_low (ownsRow_setCell_below (ownsRow_setCell_below (ownsRow_setCell_below (ownsRow_setCell_below h3 hlt _) hlt _) hlt _) hlt _) hb3.size
    · have hle : w.heap.size ≤ w.heap.size + 1 + 1 := by omega
      exact ((((hb3.trans (h4.mono hb3.size)).setCell hle _).setCell hle _).setCell hle _).setCell hle _
  have HW3 : Hid (((w.alloc (.cells #[.slice ca n cc, .slice wa words.length wc, .int .i64 lk, .int .i64 rg] 25)).alloc (.cells #[.func (.func fid) #[] caps] 54)).alloc (.cells #[nilV, nilV, .int .i64 0, .int .i64 0] 25) = W3) := by rw [← hW3, hPB, hFB, hRB]; exact rfl
  clear hPB hFB hRB hW3 hb3 hz3 hpb hfb hrb hw hnil hc hp hd
  go_enter Try.func19, Try.ntmps19
  go_wp2_with fail
  rw [HW3.out]
  refine Calls.mono HRW.out ?_
  rintro e w4 ⟨va, vc, ua, uc, rfl, e4, HQ⟩
  have y0 := box_cell (i := 0) e4 rfl
  have y1 := box_cell (i := 1) e4 rfl
  have y2 := box_cell (i := 2) e4 rfl
  have y3 := box_cell (i := 3) e4 rfl
  have yf : ∀ i, w4.frozen? ⟨w.heap.size + 1 + 1, i, none⟩ = false := fun i => box_free e4
  have hsz : w.heap.size + 1 + 1 < w4.heap.size := box_lt e4
  clear e4 HRW HW3
  go_wp2_with fail
  exact bodyPost_ret (v := .agg #[.slice va n vc, .slice ua words.length uc, .int .i64 lk, .int .i64 rg]) (by simp [results, Try.results19, go_sem, y0, y1, y2, y3]) rfl (HQ.out _ _ _ _)

end Go.Proofs.Ytgofbkgfonlceac
