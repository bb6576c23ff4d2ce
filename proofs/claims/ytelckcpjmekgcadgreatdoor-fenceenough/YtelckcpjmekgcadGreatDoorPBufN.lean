/-
  Fences behind orders, by the program: put, Full.
  A memory with buffers that has just been made.
-/
import Derived.Test.YtelckcpjmekgcadGreatDoorFRew
import Derived.Test.YtelckcpjmekgcadGreatDoorFPut
import Derived.Test.YtelckcpjmekgcadGreatDoorPChk
import Derived.Test.YtelckcpjmekgcadGreatDoorPLoad
import Derived.Test.YtelckcpjmekgcadGreatDoorPNew
import Derived.Test.YtelckcpjmekgcadGreatDoorRMay
namespace Go.Proofs.YtelckcpjmekgcadGreatDoor
section
open Go.RowKit

/-- Orders that were made, as a program's. -/
theorem new_pin {w : World} {B : Nat} {b : Nat → Nat → List I4} {L : Nat → Nat} {n : Nat} {cv : Value} {tv : List Value} (hc : w.ownsRow B 35 1 cv n tv) (ht : ∀ t, t < n → OwnC w B (tv.getD t nilV) (codeR (b t) (L t))) (hn : n ≤ 1000) (hl : ∀ t, t < n → lenR b L t ≤ 1000000) :
    ∃ ca cc A C, cv = .slice ca n cc ∧ PIn w ca n A (lenR b L) C (numR b L) := by
  obtain ⟨ca, cc, rfl⟩ := fam_form hc
  have htl : tv.length = n := by have := hc.1; omega
  have hf : ∀ t, ∃ a c, t < n → tv.getD t nilV = .slice a (lenR b L t) c := fun t => by
    by_cases h : t < n
    · obtain ⟨a, c, e⟩ := fam_form (ht t h)
      exact ⟨a, c, fun _ => e⟩
    · exact ⟨none, 0, fun h' => absurd h' h⟩
  refine ⟨ca, cc, fun t => (hf t).choose, fun t => (hf t).choose_spec.choose, rfl, ⟨fun t h => ?_, fun t i h hi => ?_, fun t h => by have := hl t h; omega, by omega⟩⟩
  · obtain ⟨g, cap, e, hg, _⟩ := fam_block hc (by omega)
    simp only [Value.slice.injEq] at e
    refine ⟨g, 0, e.1, ?_⟩
    have e2 := (hf t).choose_spec.choose_spec h
    have e3 : tv[t]? = some (tv.getD t nilV) := by simp [List.getD, show t < tv.length by omega]
    rw [e2] at e3
    rw [Nat.zero_add]
    exact fam_cell hc hg e3
  · have h1 := ht t h
    have e2 := (hf t).choose_spec.choose_spec h
    rw [e2] at h1
    obtain ⟨g, cap, e, hg, _⟩ := fam_block h1 (Nat.lt_of_le_of_lt (Nat.zero_le _) hi)
    simp only [Value.slice.injEq] at e
    obtain ⟨y0, y1, y2, y3⟩ := cellsT_at (l := codeR (b t) (L t)) hi fenceI
    refine ⟨g, 0, e.1, ?_, ?_, ?_, ?_⟩
    · rw [Nat.zero_add]; exact fam_cell h1 hg y0
    · rw [Nat.zero_add]; exact fam_cell h1 hg y1
    · rw [Nat.zero_add]; exact fam_cell h1 hg y2
    · rw [Nat.zero_add]; exact fam_cell h1 hg y3
/-- What orders become may be led on. -/
theorem new_led {n m lk rg : Nat} {L : Nat → Nat} {X : Nat → Nat → Nat → Int} (hc : COk n L X m lk rg) {t i : Nat} (ht : t < n) (hi : i < L t) {x : I4} (hx : x = ordAt X t i ∨ x = fenceI) : (1 ≤ x.1 ∧ x.1 ≤ 18) ∧ (x.1 = 14 → 0 ≤ x.2.1 ∧ x.2.1 ≤ L t) ∧ (x.1 = 15 → 0 ≤ x.2.2.1 ∧ x.2.2.1 ≤ L t) := by
  have h := hc.ord t i ht hi
  rcases hx with rfl | rfl
  · refine ⟨ok_op h, fun e => ?_, fun e => ?_⟩
    · have e' : X t i 0 = 14 := e
      rw [e'] at h
      exact ok_jump h
    · have e' : X t i 0 = 15 := e
      rw [e'] at h
      exact (ok_zero h).2
  · refine ⟨by decide, fun e => ?_, fun e => ?_⟩
    · exact absurd e (by decide)
    · exact absurd e (by decide)
theorem bWith_in {w : Bool} {x y : I4} (h : y ∈ bWith w x) : y = x ∨ y = fenceI := by
  unfold bWith at h
  split at h
  · simpa using h
  · exact Or.inl (by simpa using h)
/-- What a rewritten program is. -/
def NewQ (w : World) (n : Nat) (words : List Int) (lk rg : Int) (b : Nat → Nat → List I4) (L : Nat → Nat) (e : Ending) (w' : World) : Prop := ∃ (va : Option Addr) (vc : Nat) (ua : Option Addr) (uc : Nat) (tv : List Value), e = .returned (.agg #[.slice va n vc, .slice ua words.length uc, .int .i64 lk, .int .i64 rg]) ∧ w'.ownsRow w.heap.size 35 1 (.slice va n vc) n tv ∧ (∀ t, t < n → OwnC w' w.heap.size (tv.getD t nilV) (codeR (b t) (L t))) ∧ w'.ownsRow w.heap.size 3 1 (.slice ua words.length uc) words.length (intsV words) ∧ Below w.heap.size w w'
theorem NewQ.below {w V V' : World} {n : Nat} {words : List Int} {lk rg : Int} {b : Nat → Nat → List I4} {L : Nat → Nat} {e : Ending} (h : NewQ w n words lk rg b L e V) (hb : Below V.heap.size V V') : NewQ w n words lk rg b L e V' := by
  obtain ⟨va, vc, ua, uc, tv, h0, h1, h2, h3, h4⟩ := h
  exact ⟨va, vc, ua, uc, tv, h0, owns_below2 h1 hb, fun t ht => (h2 t ht).below hb, owns_below2 h3 hb, h4.trans (hb.mono h4.size)⟩
set_option maxRecDepth 100000 in
set_option maxHeartbeats 1600000 in
theorem fput_any (w : World) (ca : Option Addr) (n cc : Nat) (wa : Option Addr) (words : List Int) (wc : Nat) (lk rg : Nat) (fid : Nat) (caps : Array Value) (A : Nat → Option Addr) (L C : Nat → Nat) (X : Nat → Nat → Nat → Int) (d : Nat → Nat → Bool) (hw : SIs w wa words) (hnil : wa = none → words = [] ∧ wc = 0) (hc : COk n L X words.length lk rg) (hp : PIn w ca n A L C X)
    (hfn : ∀ (xs : Array Value) (w : World), (callFunc fid xs).run Tryz.prog w = .ok (.enter fid xs) w)
    (hd : ∀ V t i, Below w.heap.size w V → t < n → i < L t → Calls Tryz.prog fid (#[.agg #[.int .i64 (t : Int), .int .i64 (i : Int)]] ++ caps) V fun e w' => e = .returned (.bool (d t i)) ∧ Below V.heap.size V w') :
    Calls Tryz.prog 18 #[prgV ca n cc wa words.length wc lk rg, .func (.func fid) #[] caps] w (NewQ w n words lk rg (fun t i => bWith (d t i) (ordAt X t i)) L) := by
  obtain ⟨PB, hPB⟩ : ∃ o : Obj, o = .cells #[.slice ca n cc, .slice wa words.length wc, .int .i64 lk, .int .i64 rg] 25 := ⟨_, rfl⟩
  obtain ⟨FB, hFB⟩ : ∃ o : Obj, o = .cells #[.func (.func fid) #[] caps] 55 := ⟨_, rfl⟩
  obtain ⟨RB, hRB⟩ : ∃ o : Obj, o = .cells #[nilV, nilV, .int .i64 0, .int .i64 0] 25 := ⟨_, rfl⟩
  obtain ⟨W3, hW3⟩ : ∃ V, ((w.alloc PB).alloc FB).alloc RB = V := ⟨_, rfl⟩
  have hb3 : Below w.heap.size w W3 := by rw [← hW3]; exact (((Below.refl _ _).alloc (Nat.le_refl _) _).alloc (by simp) _).alloc (by simp; omega) _
  have hz3 : w.heap.size + 3 = W3.heap.size := by rw [← hW3]; simp
  have hpb : W3.heap[w.heap.size]? = some PB := by rw [← hW3]; exact box_later (box_later (heap_alloc_new _ _) _) _
  have hfb : W3.heap[w.heap.size + 1]? = some FB := by rw [← hW3]; have := box_later (heap_alloc_new (w.alloc PB) FB) RB; simpa using this
  have hrb : W3.heap[w.heap.size + 1 + 1]? = some RB := by rw [← hW3]; have := heap_alloc_new ((w.alloc PB).alloc FB) RB; simpa using this
  have HRW : Hid (Calls Tryz.prog 35 #[.agg #[.slice ca n cc, .slice wa words.length wc, .int .i64 lk, .int .i64 rg], .func (.func 36) #[] #[.pointer (some ⟨w.heap.size + 1, 0, none⟩), .pointer (some ⟨w.heap.size, 0, none⟩)]] W3 fun e w' => ∃ (va : Option Addr) (vc : Nat) (ua : Option Addr) (uc : Nat), e = .returned (.agg #[.slice va n vc, .slice ua words.length uc, .int .i64 lk, .int .i64 rg]) ∧ w'.heap[w.heap.size + 1 + 1]? = some (.cells #[nilV, nilV, .int .i64 0, .int .i64 0] 25) ∧ Hid (∀ a b c f, NewQ w n words lk rg (fun t i => bWith (d t i) (ordAt X t i)) L (.returned (.agg #[.slice va n vc, .slice ua words.length uc, .int .i64 lk, .int .i64 rg])) ((((w'.setCell ⟨w.heap.size + 1 + 1, 0, none⟩ a).setCell ⟨w.heap.size + 1 + 1, 1, none⟩ b).setCell ⟨w.heap.size + 1 + 1, 2, none⟩ c).setCell ⟨w.heap.size + 1 + 1, 3, none⟩ f))) := by
    have h := rewrite_any W3 ca n cc wa words wc lk rg 36 #[.pointer (some ⟨w.heap.size + 1, 0, none⟩), .pointer (some ⟨w.heap.size, 0, none⟩)] A L C X (fun t i => bWith (d t i) (ordAt X t i)) (hw.below hb3) hnil hc.m64 (hp.below hb3) (by have := hc.n4; omega) hc.L4 (fun t i _ _ => by unfold bWith; split <;> simp) (fun t i x ht hi hx => new_led hc ht hi (bWith_in hx)) (fun xs w => by kernel_rfl) (fun V t i hV ht hi => by
      have hV0 : Below w.heap.size w V := hb3.trans (hV.mono hb3.size)
      have e1 := (hV.block w.heap.size (by omega)).trans hpb
      have e2 := (hV.block (w.heap.size + 1) (by omega)).trans hfb
      rw [hPB] at e1
      rw [hFB] at e2
      exact put1_any V w.heap.size (w.heap.size + 1) fid caps ca n cc wa words.length wc lk rg A L C X t i (d t i) (hp.below hV0) ht hi e1 (box_cell e2 rfl) hfn (fun U hU => hd U t i (hV0.trans (hU.mono hV0.size)) ht hi))
    refine Calls.mono h ?_
    rintro e w' ⟨cv, uv, tv, rfl, h1, h2, h3, h4⟩
    have e3 := (h4.block (w.heap.size + 1 + 1) (by omega)).trans hrb
    rw [hRB] at e3
    have hlt : w.heap.size + 1 + 1 < W3.heap.size := by omega
    obtain ⟨va, vc, rfl⟩ := fam_form h1
    obtain ⟨ua, uc, rfl⟩ := fam_form h3
    refine ⟨va, vc, ua, uc, rfl, e3, fun a b c f => ⟨va, vc, ua, uc, tv, rfl, ?_, fun t ht => ?_, ?_, ?_⟩⟩
    · exact own_low (ownsRow_setCell_below (ownsRow_setCell_below (ownsRow_setCell_below (ownsRow_setCell_below h1 hlt _) hlt _) hlt _) hlt _) hb3.size
    · exact own_low (ownsRow_setCell_below (ownsRow_setCell_below (ownsRow_setCell_below (ownsRow_setCell_below (h2 t ht) hlt _) hlt _) hlt _) hlt _) hb3.size
    · exact own_low (ownsRow_setCell_below (ownsRow_setCell_below (ownsRow_setCell_below (ownsRow_setCell_below h3 hlt _) hlt _) hlt _) hlt _) hb3.size
    · have hle : w.heap.size ≤ w.heap.size + 1 + 1 := by omega
      exact ((((hb3.trans (h4.mono hb3.size)).setCell hle _).setCell hle _).setCell hle _).setCell hle _
  have HW3 : Hid (((w.alloc (.cells #[.slice ca n cc, .slice wa words.length wc, .int .i64 lk, .int .i64 rg] 25)).alloc (.cells #[.func (.func fid) #[] caps] 55)).alloc (.cells #[nilV, nilV, .int .i64 0, .int .i64 0] 25) = W3) := by rw [← hW3, hPB, hFB, hRB]; exact rfl
  clear hPB hFB hRB hW3 hb3 hz3 hpb hfb hrb hw hnil hc hp hd
  go_enter Tryz.func18, Tryz.ntmps18
  go_wp2_with fail
  rw [HW3.out]
  refine Calls.mono HRW.out ?_
  rintro e w4 ⟨va, vc, ua, uc, rfl, e4, HQ⟩
  have y0 := box_cell (i := 0) e4 rfl
  have y1 := box_cell (i := 1) e4 rfl
  have y2 := box_cell (i := 2) e4 rfl
  have y3 := box_cell (i := 3) e4 rfl
  have yf : ∀ i, w4.frozen? ⟨w.heap.size + 1 + 1, i, none⟩ = false := fun i => box_free e4
  have hsz : w.heap.size + 1 + 1 < w4.heap.size := box_lt e4
  clear e4 HRW HW3
  go_wp2_with fail
  exact bodyPost_ret (v := .agg #[.slice va n vc, .slice ua words.length uc, .int .i64 lk, .int .i64 rg]) (by simp [results, Tryz.results18, go_sem, y0, y1, y2, y3]) rfl (HQ.out _ _ _ _)
end

section
open Go.RowKit

theorem made_nils (n : Nat) : madeCells #[nilV] n = (List.replicate n nilV).toArray := by
  apply Array.ext'
  simp [madeCells]
  apply List.ext_getElem?
  intro i
  simp only [List.getElem?_map, List.getElem?_replicate]
  by_cases h : i < n
  · simp [h, Nat.mod_one]
  · simp [h]
theorem nils_row {w : World} {B g k : Nat} {ty : TypeId} (hB : B ≤ g) (hk : k ≤ 1000) (h : w.heap[g]? = some (.cells (madeCells #[nilV] k) ty (0, 0))) : w.ownsRow B ty 1 (.slice (some ⟨g, 0, none⟩) k k) k (List.replicate k nilV) := by
  rw [made_nils] at h
  refine ⟨by simp, Or.inr ⟨g, k, _, rfl, hB, h, Nat.le_refl _, by unfold maxLen; omega, by simp, ?_⟩⟩
  rw [List.take_of_length_le (by simp)]
theorem Mem0.low {w W0 w3 W : World} {mb lk : Nat} {wv ov : Value} {words : List Int} (h : Mem0 W0 w3 mb wv ov words lk) (h0 : Below w.heap.size w W0) (h3 : Below w3.heap.size w3 W) : Mem0 w W mb wv ov words lk := by
  have hl : mb < w3.heap.size := by
    rcases Nat.lt_or_ge mb w3.heap.size with h1 | h1
    · exact h1
    · have := h.box; rw [Array.getElem?_eq_none h1] at this; cases this
  exact ⟨(h3.block _ hl).trans h.box, fam_keeps (own_low h.wrow h0.size) (fun g e => h3.block g (h.wrow.lt g e).2), fam_keeps (own_low h.orow h0.size) (fun g e => h3.block g (h.orow.lt g e).2), Nat.le_trans h0.size h.lo, h.a1, h.a2, h.a3, (h0.trans (h.below.mono h0.size)).trans (h3.mono (Nat.le_trans h0.size h.below.size))⟩
/-- The rows of a memory with buffers that has just been made. -/
def b0V (mb bb g n : Nat) (wv ov : Value) : Rp → Value
  | .mem => boxV mb
  | .words => wv
  | .own => ov
  | .box => boxV bb
  | .bufs => .slice (some ⟨g, 0, none⟩) n n
  | _ => nilV
theorem Mem0.b {w W : World} {mb lk g n : Nat} {wv ov : Value} {words : List Int} (h : Mem0 w W mb wv ov words lk) (hn : n ≤ 4) (hg : W.heap[g]? = some (.cells (madeCells #[nilV] n) 204 (0, 0))) (hgl : w.heap.size ≤ g) (A : Nat → Option Addr) (L C : Nat → Nat) :
    MemQ ⟨A, L, C, bufK, W.heap.size, n⟩ w (W.alloc (.cells #[.pointer (some ⟨mb, 0, none⟩), .slice (some ⟨g, 0, none⟩) n n] 110)) mb (b0V mb W.heap.size g n wv ov) words lk := by
  have lt : ∀ k o, W.heap[k]? = some o → k < W.heap.size := fun k o hk => by
    rcases Nat.lt_or_ge k W.heap.size with h1 | h1
    · exact h1
    · rw [Array.getElem?_eq_none h1] at hk; cases hk
  have lm := lt _ _ h.box
  have lg := lt _ _ hg
  have c1 : g ≠ mb := fun e => by rw [e, h.box] at hg; simp at hg
  have c2 := own_type h.wrow hg (by decide)
  have c3 := own_type h.orow hg (by decide)
  have c4 : wv.ownBlock ≠ some W.heap.size := fun e => absurd (h.wrow.lt _ e).2 (by omega)
  have c5 : ov.ownBlock ≠ some W.heap.size := fun e => absurd (h.orow.lt _ e).2 (by omega)
  refine ⟨fun r hr => ?_, fun r q k hr hq => ?_, rfl, rfl, rfl, fun _ => rfl, rfl, fun _ => rfl, h.below.alloc h.below.size _⟩
  · cases r with
    | st => exact absurd rfl hr
    | mem => exact (fam_box (xs := [wv, ov]) h.lo h.box).alloc _
    | words => exact h.wrow.alloc _
    | own =>
      show World.ownsRow _ _ _ 1 ov (List.replicate lk (-1 : Int)).length _
      rw [List.length_replicate]
      exact h.orow.alloc _
    | thr => exact World.ownsRow_nil _ _ _ _
    | prints => exact World.ownsRow_nil _ _ _ _
    | regs t => exact World.ownsRow_nil _ _ _ _
    | box => exact fam_box (xs := [.pointer (some ⟨mb, 0, none⟩), .slice (some ⟨g, 0, none⟩) n n]) h.below.size (heap_alloc_new _ _)
    | bufs =>
      have e : pX ⟨A, L, C, bufK, W.heap.size, n⟩ mb (b0V mb W.heap.size g n wv ov) (sB words lk) .bufs = List.replicate n nilV := by
        show (List.range n).map (fun _ => nilV) = _
        exact List.eq_replicate_iff.2 ⟨by rw [List.length_map, List.length_range], fun b hb => by obtain ⟨_, _, e⟩ := List.mem_map.1 hb; exact e.symm⟩
      rw [e]
      exact (nils_row hgl (by omega) hg).alloc _
    | buf t => exact World.ownsRow_nil _ _ _ _
  · have s1 : ∀ b k, (boxV b).ownBlock = some k → k = b := fun b k e => by simpa [Value.ownBlock] using e.symm
    have s2 : ∀ b k, (Value.slice (some ⟨b, 0, none⟩) n n).ownBlock = some k → k = b := fun b k e => by simpa [Value.ownBlock] using e.symm
    have s3 : ∀ k, (nilV).ownBlock = some k → False := fun k e => by simp [Value.ownBlock] at e
    have a1 := h.a1
    have a2 := h.a2
    have a3 := h.a3
    have key : ∀ r k, (b0V mb W.heap.size g n wv ov r).ownBlock = some k → (r = .mem ∧ k = mb) ∨ (r = .words ∧ wv.ownBlock = some k) ∨ (r = .own ∧ ov.ownBlock = some k) ∨ (r = .box ∧ k = W.heap.size) ∨ (r = .bufs ∧ k = g) := fun r k e => by
      cases r with
      | mem => exact .inl ⟨rfl, s1 _ _ e⟩
      | words => exact .inr (.inl ⟨rfl, e⟩)
      | own => exact .inr (.inr (.inl ⟨rfl, e⟩))
      | box => exact .inr (.inr (.inr (.inl ⟨rfl, s1 _ _ e⟩)))
      | bufs => exact .inr (.inr (.inr (.inr ⟨rfl, s2 _ _ e⟩)))
      | st => exact (s3 _ e).elim
      | thr => exact (s3 _ e).elim
      | prints => exact (s3 _ e).elim
      | regs t => exact (s3 _ e).elim
      | buf t => exact (s3 _ e).elim
    rcases key r k hr with ⟨rfl, e1⟩ | ⟨rfl, e1⟩ | ⟨rfl, e1⟩ | ⟨rfl, e1⟩ | ⟨rfl, e1⟩ <;> rcases key q k hq with ⟨rfl, e2⟩ | ⟨rfl, e2⟩ | ⟨rfl, e2⟩ | ⟨rfl, e2⟩ | ⟨rfl, e2⟩ <;> first | rfl | (exfalso; omega) | (exfalso; subst e1; exact absurd e2 (by assumption)) | (exfalso; subst e2; exact absurd e1 (by assumption)) | (exact absurd e2 (a3 _ e1)) | (exact absurd e1 (a3 _ e2))

set_option maxRecDepth 100000 in
set_option maxHeartbeats 3200000 in
theorem newBuffered_any (w : World) (ca : Option Addr) (n cc : Nat) (wa : Option Addr) (wc lk rg : Nat) (words : List Int) (hw : SIs w wa words) (hnil : wa = none → words = [] ∧ wc = 0) (hm : words.length ≤ 64) (hlk : lk ≤ 4) (hn : n ≤ 4) :
    Calls Tryz.prog 32 #[prgV ca n cc wa words.length wc lk rg] w fun e w' => ∃ bb mb v, e = .returned (.pointer (some ⟨bb, 0, none⟩)) ∧ ∀ A L C, MemQ ⟨A, L, C, bufK, bb, n⟩ w w' mb v words lk := by
  have HNEW : Hid (∀ W, Below w.heap.size w W → Calls Tryz.prog 27 #[prgV ca n cc wa words.length wc lk rg] W fun e w' => ∃ mb wv ov, e = .returned (.pointer (some ⟨mb, 0, none⟩)) ∧ Mem0 W w' mb wv ov words lk) := fun W hb => newPlain_any W ca n cc wa wc lk rg words (hw.below hb) hnil hm hlk
  have hmk := fun W => run_make_row' (P := Tryz.prog) 108 204 nilV 24 Tryz.underlying108 (by kernel_rfl) rfl .i64 .i64 n (by omega) (by omega) W
  obtain ⟨m, hmm⟩ : ∃ m, words.length = m := ⟨_, rfl⟩
  rw [hmm] at HNEW ⊢
  clear hw hnil hm hmm
  have HN4 : Hid (n ≤ 4) := hn
  clear hn hlk
  go_enter Tryz.func32, Tryz.ntmps32
  go_wp2
  have q0 : (w.alloc (.cells #[.slice ca n cc, .slice wa m wc, .int .i64 (lk : Int), .int .i64 (rg : Int)] 25)).cell? ⟨w.heap.size, 0, none⟩ = some (.slice ca n cc) := by go_simp
  have q1 : (w.alloc (.cells #[.slice ca n cc, .slice wa m wc, .int .i64 (lk : Int), .int .i64 (rg : Int)] 25)).cell? ⟨w.heap.size, 1, none⟩ = some (.slice wa m wc) := by go_simp
  have q2 : (w.alloc (.cells #[.slice ca n cc, .slice wa m wc, .int .i64 (lk : Int), .int .i64 (rg : Int)] 25)).cell? ⟨w.heap.size, 2, none⟩ = some (.int .i64 (lk : Int)) := by go_simp
  have q3 : (w.alloc (.cells #[.slice ca n cc, .slice wa m wc, .int .i64 (lk : Int), .int .i64 (rg : Int)] 25)).cell? ⟨w.heap.size, 3, none⟩ = some (.int .i64 (rg : Int)) := by go_simp
  have HB1 : Hid (Below w.heap.size w (w.alloc (.cells #[.slice ca n cc, .slice wa m wc, .int .i64 (lk : Int), .int .i64 (rg : Int)] 25))) := (Below.refl _ _).alloc (Nat.le_refl _) _
  have hs1 : (w.alloc (.cells #[.slice ca n cc, .slice wa m wc, .int .i64 (lk : Int), .int .i64 (rg : Int)] 25)).heap.size = w.heap.size + 1 := by simp
  obtain ⟨W1, hW1⟩ : ∃ W1, w.alloc (.cells #[.slice ca n cc, .slice wa m wc, .int .i64 (lk : Int), .int .i64 (rg : Int)] 25) = W1 := ⟨_, rfl⟩
  rw [hW1] at q0 q1 q2 q3 HB1 hs1 ⊢
  clear hW1
  go_region_held3 (fun w' => w'.cell? ⟨w.heap.size, 0, none⟩ = some (.slice ca n cc) ∧ w'.cell? ⟨w.heap.size, 1, none⟩ = some (.slice wa m wc) ∧ w'.cell? ⟨w.heap.size, 2, none⟩ = some (.int .i64 (lk : Int)) ∧ w'.cell? ⟨w.heap.size, 3, none⟩ = some (.int .i64 (rg : Int))) (refine ⟨?_, ?_, ?_, ?_⟩ <;> (repeat (first | with_reducible assumption | with_reducible refine cell_drw ?_ | with_reducible refine cell_up ?_ _))) ((go_at_call 27; refine Calls.mono (HNEW.out _ (by repeat (first | exact HB1.out | refine Below.drew ?_ | refine Below.alloc ?_ (by have := HB1.out.size; simp; omega) _))) ?_; rintro e w3 ⟨mb, wv, ov, rfl, hm⟩; have z0 : w3.cell? ⟨w.heap.size, 0, none⟩ = some (.slice ca n cc) := (hm.below.cell (p := ⟨w.heap.size, 0, none⟩) (by show w.heap.size < _; simp; omega)).trans (by repeat (first | exact q0 | refine cell_drw ?_ | refine cell_up ?_ _)); have z1 : w3.cell? ⟨w.heap.size, 1, none⟩ = some (.slice wa m wc) := (hm.below.cell (p := ⟨w.heap.size, 1, none⟩) (by show w.heap.size < _; simp; omega)).trans (by repeat (first | exact q1 | refine cell_drw ?_ | refine cell_up ?_ _)); have z2 : w3.cell? ⟨w.heap.size, 2, none⟩ = some (.int .i64 (lk : Int)) := (hm.below.cell (p := ⟨w.heap.size, 2, none⟩) (by show w.heap.size < _; simp; omega)).trans (by repeat (first | exact q2 | refine cell_drw ?_ | refine cell_up ?_ _)); have z3 : w3.cell? ⟨w.heap.size, 3, none⟩ = some (.int .i64 (rg : Int)) := (hm.below.cell (p := ⟨w.heap.size, 3, none⟩) (by show w.heap.size < _; simp; omega)).trans (by repeat (first | exact q3 | refine cell_drw ?_ | refine cell_up ?_ _)); have HM := Hid.out (p := Hid _) hm; clear hm))
  all_goals go_wp2
  all_goals go_ret
  · refine ⟨w3.heap.size + 1, mb, b0V mb (w3.heap.size + 1) w3.heap.size n wv ov, rfl, fun A L C => ?_⟩
    have h := (HM.out.low HB1.out.drew ((Below.refl _ _).alloc (Nat.le_refl _) (.cells (madeCells #[nilV] n) 204))).b HN4.out (heap_alloc_new _ _) (Nat.le_trans HB1.out.drew.size HM.out.below.size) A L C
    rw [World.size_alloc] at h
    exact h
  · refine ⟨w3.heap.size, mb, b0V mb w3.heap.size (w.heap.size + 1) n wv ov, rfl, fun A L C => ?_⟩
    have hg : (W1.alloc (.cells (madeCells #[nilV] n) 204)).heap[w.heap.size + 1]? = some (.cells (madeCells #[nilV] n) 204 (0, 0)) := by
      have := heap_alloc_new W1 (.cells (madeCells #[nilV] n) 204)
      rwa [hs1] at this
    exact (HM.out.low (HB1.out.alloc HB1.out.size _).drew (Below.refl _ _)).b HN4.out ((HM.out.below.block _ (by simp [hs1])).trans hg) (Nat.le_succ _) A L C
end

end Go.Proofs.YtelckcpjmekgcadGreatDoor
