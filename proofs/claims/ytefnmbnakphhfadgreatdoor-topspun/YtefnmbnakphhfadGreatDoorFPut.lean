/-
  Fences behind orders, by the program.
  Fences behind orders, by the program: put, Full.
  Programs that were made anew: their numbers fit, their words lie in memory.
-/
import Derived.Test.YtefnmbnakphhfadGreatDoorFam
import Derived.Test.YtefnmbnakphhfadGreatDoorDSt
import Derived.Test.YtefnmbnakphhfadGreatDoorEffP
import Derived.Deep.RegionHeld3
import Derived.Test.YtefnmbnakphhfadGreatDoorNewC
namespace Go.Proofs.YtefnmbnakphhfadGreatDoor
section
open Go.RowKit

theorem letsWait_any (w : World) (op : Int) : Calls Tryz.prog 23 #[.int .i64 op] w fun e w' => e = .returned (.bool (wtO op)) ∧ w' = w := by
  unfold wtO
  by_cases h9 : op = 9
  · subst h9
    go_enter Tryz.func23, Tryz.ntmps23
    go_wp2
    go_ret
    exact ⟨rfl, rfl⟩
  · have h9' : (op == 9) = false := by simpa using h9
    by_cases h11 : op = 11
    · subst h11
      go_enter Tryz.func23, Tryz.ntmps23
      go_wp2
      go_ret
      exact ⟨rfl, rfl⟩
    · have h11' : (op == 11) = false := by simpa using h11
      by_cases h18 : op = 18
      · subst h18
        go_enter Tryz.func23, Tryz.ntmps23
        go_wp2
        go_ret
        exact ⟨rfl, rfl⟩
      · have h18' : (op == 18) = false := by simpa using h18
        rw [decide_eq_false h9, decide_eq_false h11, decide_eq_false h18]
        go_enter Tryz.func23, Tryz.ntmps23
        go_wp2
        go_ret
        exact ⟨rfl, rfl⟩
set_option maxRecDepth 100000 in
set_option maxHeartbeats 1600000 in
theorem orderAt_any (w : World) (ca : Option Addr) (n cc : Nat) (wa : Option Addr) (m wc : Nat) (lk rg : Int) (A : Nat → Option Addr) (L C : Nat → Nat) (X : Nat → Nat → Nat → Int) (t i : Nat) (hp : PIn w ca n A L C X) (ht : t < n) (hi : i < L t) :
    Calls Tryz.prog 24 #[prgV ca n cc wa m wc lk rg, .agg #[.int .i64 t, .int .i64 i]] w fun e w' => e = .returned (ints4 (X t i 0) (X t i 1) (X t i 2) (X t i 3)) ∧ Below w.heap.size w w' := by
  have i0 : ∀ W, (Instr.index 33 (.agg #[.int .i64 (t : Int), .int .i64 (i : Int)]) (.int .i64 0)).run Tryz.prog W = .ok (.int .i64 t) W := fun _ => by kernel_rfl
  have i1 : ∀ W, (Instr.index 33 (.agg #[.int .i64 (t : Int), .int .i64 (i : Int)]) (.int .i64 1)).run Tryz.prog W = .ok (.int .i64 i) W := fun _ => by kernel_rfl
  obtain ⟨cb, co, rfl, hc⟩ := hp.code t ht
  obtain ⟨ab, ao, hA, c0, c1, c2, c3⟩ := hp.ord t i ht hi
  rw [hA] at hc
  have hln := hp.len t ht
  have hnn := hp.num
  obtain ⟨x0, h0⟩ : ∃ x, X t i 0 = x := ⟨_, rfl⟩
  obtain ⟨x1, h1⟩ : ∃ x, X t i 1 = x := ⟨_, rfl⟩
  obtain ⟨x2, h2⟩ : ∃ x, X t i 2 = x := ⟨_, rfl⟩
  obtain ⟨x3, h3⟩ : ∃ x, X t i 3 = x := ⟨_, rfl⟩
  obtain ⟨l, hl⟩ : ∃ x, L t = x := ⟨_, rfl⟩
  rw [h0] at c0; rw [h1] at c1; rw [h2] at c2; rw [h3] at c3
  rw [h0, h1, h2, h3]
  rw [hl] at hc hi hln
  have u0 := fun o1 o2 o3 => cell_up (cell_up (cell_up c0 o1) o2) o3
  have u1 := fun o1 o2 o3 => cell_up (cell_up (cell_up c1 o1) o2) o3
  have u2 := fun o1 o2 o3 => cell_up (cell_up (cell_up c2 o1) o2) o3
  have u3 := fun o1 o2 o3 => cell_up (cell_up (cell_up c3 o1) o2) o3
  have uc := fun o1 o2 o3 => cell_up (cell_up (cell_up hc o1) o2) o3
  clear hp hA h0 h1 h2 h3 hl c0 c1 c2 c3 hc
  go_enter Tryz.func24, Tryz.ntmps24
  go_wp2
  refine region_tail 10 (by kernel_rfl) (by kernel_rfl) ?_
  simp only [List.take_succ_cons, List.take_zero, List.drop_succ_cons, List.drop_zero]
  repeat still_step
  refine wpStill_nil ?_
  go_wp2
  exact bodyPost_ret (v := ints4 x0 x1 x2 x3) (by simp [results, Tryz.results24, go_sem]) rfl ⟨rfl, ((((Below.refl _ _).alloc (Nat.le_refl _) _).alloc (by simp) _).alloc (by simp; omega) _).drew⟩
set_option maxRecDepth 100000 in
set_option maxHeartbeats 1600000 in
/-- What an order becomes, as put asks. -/
theorem put1_any (w : World) (pb fb fid : Nat) (caps : Array Value) (ca : Option Addr) (n cc : Nat) (wa : Option Addr) (m wc : Nat) (lk rg : Int) (A : Nat → Option Addr) (L C : Nat → Nat) (X : Nat → Nat → Nat → Int) (t i : Nat) (d : Bool) (hp : PIn w ca n A L C X) (ht : t < n) (hi : i < L t) (hb : w.heap[pb]? = some (.cells #[.slice ca n cc, .slice wa m wc, .int .i64 lk, .int .i64 rg] 25)) (hfb : w.cell? ⟨fb, 0, none⟩ = some (.func (.func fid) #[] caps))
    (hfn : ∀ (xs : Array Value) (w : World), (callFunc fid xs).run Tryz.prog w = .ok (.enter fid xs) w) (hd : ∀ V, Below w.heap.size w V → Calls Tryz.prog fid (#[.agg #[.int .i64 t, .int .i64 i]] ++ caps) V fun e w' => e = .returned (.bool d) ∧ Below V.heap.size V w') :
    Calls Tryz.prog 45 #[.int .i64 t, .int .i64 i, .pointer (some ⟨fb, 0, none⟩), .pointer (some ⟨pb, 0, none⟩)] w fun e w' => ∃ sa c, e = .returned (.slice sa (bWith d (ordAt X t i)).length c) ∧ SrcL w' sa (cellsT (bWith d (ordAt X t i))) ∧ Below w.heap.size w w' := by
  have hbl := box_lt hb
  have hfl := lt_of_cell hfb
  have HO : Hid (∀ V, Below w.heap.size w V → Calls Tryz.prog 24 #[.agg #[.slice ca n cc, .slice wa m wc, .int .i64 lk, .int .i64 rg], .agg #[.int .i64 t, .int .i64 i]] V fun e w' => e = .returned (ints4 (X t i 0) (X t i 1) (X t i 2) (X t i 3)) ∧ Below V.heap.size V w') := fun V hV => orderAt_any V ca n cc wa m wc lk rg A L C X t i (hp.below hV) ht hi
  have HD := Hid.out (p := Hid _) hd
  have b0 := box_cell (i := 0) hb rfl
  have b1 := box_cell (i := 1) hb rfl
  have b2 := box_cell (i := 2) hb rfl
  have b3 := box_cell (i := 3) hb rfl
  have HB1 : Hid (∀ o, Below w.heap.size w (w.alloc o)) := fun o => (Below.refl _ _).alloc (Nat.le_refl _) _
  clear hp hd
  have HST : Hid (∀ V, Below (w.heap.size + 1) (w.alloc (.cells #[.int .i64 (t : Int), .int .i64 (i : Int)] 33)) V → Below w.heap.size w V ∧ V.cell? ⟨w.heap.size, 0, none⟩ = some (.int .i64 t) ∧ V.cell? ⟨w.heap.size, 1, none⟩ = some (.int .i64 i) ∧ V.cell? ⟨pb, 0, none⟩ = some (.slice ca n cc) ∧ V.cell? ⟨pb, 1, none⟩ = some (.slice wa m wc) ∧ V.cell? ⟨pb, 2, none⟩ = some (.int .i64 lk) ∧ V.cell? ⟨pb, 3, none⟩ = some (.int .i64 rg)) := fun V hV => by
    have hB := (HB1.out (.cells #[.int .i64 (t : Int), .int .i64 (i : Int)] 33)).trans (hV.mono (by simp))
    have hh := (hV.block w.heap.size (by omega)).trans (heap_alloc_new w (.cells #[.int .i64 (t : Int), .int .i64 (i : Int)] 33))
    have hq := (hB.block pb hbl).trans hb
    exact ⟨hB, box_cell hh rfl, box_cell hh rfl, box_cell hq rfl, box_cell hq rfl, box_cell hq rfl, box_cell hq rfl⟩
  clear hb
  cases d with
  | true =>
    go_enter Tryz.func45, Tryz.ntmps45
    go_wp2_with fail
    refine Calls.mono (HD.out _ (HB1.out _)) ?_
    rintro e w1 ⟨rfl, hb1⟩
    have hb1' : Below (w.heap.size + 1) (w.alloc (.cells #[.int .i64 (t : Int), .int .i64 (i : Int)] 33)) w1 := by simpa using hb1
    obtain ⟨hw1, h0, h1, q0, q1, q2, q3⟩ := HST.out w1 hb1'
    have hl1 : w.heap.size < w1.heap.size := lt_of_cell h0
    have H1 : Hid (Below (w.heap.size + 1) (w.alloc (.cells #[.int .i64 (t : Int), .int .i64 (i : Int)] 33)) w1 ∧ Below w.heap.size w w1) := ⟨hb1', hw1⟩
    clear hb1 hb1' hw1 HD b0 b1 b2 b3 hfb hfn
    go_wp2_with fail
    refine Calls.mono (HO.out _ H1.out.2) ?_
    rintro e w2 ⟨rfl, hb2⟩
    have H2 : Hid (Below w.heap.size w w2) := H1.out.2.trans (hb2.mono H1.out.2.size)
    clear hb2 h0 h1 q0 q1 q2 q3
    go_wp2_with fail
    go_ret
    exact ⟨_, _, rfl, srcL_block (heap_alloc_new w2 _), H2.out.alloc H2.out.size _⟩
  | false =>
    go_enter Tryz.func45, Tryz.ntmps45
    go_wp2_with fail
    refine Calls.mono (HD.out _ (HB1.out _)) ?_
    rintro e w1 ⟨rfl, hb1⟩
    have hb1' : Below (w.heap.size + 1) (w.alloc (.cells #[.int .i64 (t : Int), .int .i64 (i : Int)] 33)) w1 := by simpa using hb1
    obtain ⟨hw1, h0, h1, q0, q1, q2, q3⟩ := HST.out w1 hb1'
    have hl1 : w.heap.size < w1.heap.size := lt_of_cell h0
    have H1 : Hid (Below (w.heap.size + 1) (w.alloc (.cells #[.int .i64 (t : Int), .int .i64 (i : Int)] 33)) w1 ∧ Below w.heap.size w w1) := ⟨hb1', hw1⟩
    clear hb1 hb1' hw1 HD b0 b1 b2 b3 hfb hfn
    go_wp2_with fail
    refine Calls.mono (HO.out _ H1.out.2) ?_
    rintro e w2 ⟨rfl, hb2⟩
    have H2 : Hid (Below w.heap.size w w2) := H1.out.2.trans (hb2.mono H1.out.2.size)
    clear hb2 h0 h1 q0 q1 q2 q3
    go_wp2_with fail
    go_ret
    exact ⟨_, _, rfl, srcL_block (heap_alloc_new w2 _), H2.out.alloc H2.out.size _⟩
end

section
open Go.RowKit

theorem bWith_in {w : Bool} {x y : I4} (h : y ∈ bWith w x) : y = x ∨ y = fenceI := by
  unfold bWith at h
  split at h
  · simpa using h
  · exact Or.inl (by simpa using h)
set_option maxRecDepth 100000 in
set_option maxHeartbeats 1600000 in
theorem fput_any (w : World) (ca : Option Addr) (n cc : Nat) (wa : Option Addr) (words : List Int) (wc : Nat) (lk rg : Nat) (fid : Nat) (caps : Array Value) (A : Nat → Option Addr) (L C : Nat → Nat) (X : Nat → Nat → Nat → Int) (d : Nat → Nat → Bool) (hw : SIs w wa words) (hnil : wa = none → words = [] ∧ wc = 0) (hc : COk n L X words.length lk rg) (hp : PIn w ca n A L C X)
    (hfn : ∀ (xs : Array Value) (w : World), (callFunc fid xs).run Tryz.prog w = .ok (.enter fid xs) w)
    (hd : ∀ V t i, Below w.heap.size w V → t < n → i < L t → Calls Tryz.prog fid (#[.agg #[.int .i64 (t : Int), .int .i64 (i : Int)]] ++ caps) V fun e w' => e = .returned (.bool (d t i)) ∧ Below V.heap.size V w') :
    Calls Tryz.prog 21 #[prgV ca n cc wa words.length wc lk rg, .func (.func fid) #[] caps] w (NewQ w n words lk rg (fun t i => bWith (d t i) (ordAt X t i)) L) := by
  obtain ⟨PB, hPB⟩ : ∃ o : Obj, o = .cells #[.slice ca n cc, .slice wa words.length wc, .int .i64 lk, .int .i64 rg] 25 := ⟨_, rfl⟩
  obtain ⟨FB, hFB⟩ : ∃ o : Obj, o = .cells #[.func (.func fid) #[] caps] 58 := ⟨_, rfl⟩
  obtain ⟨RB, hRB⟩ : ∃ o : Obj, o = .cells #[nilV, nilV, .int .i64 0, .int .i64 0] 25 := ⟨_, rfl⟩
  obtain ⟨W3, hW3⟩ : ∃ V, ((w.alloc PB).alloc FB).alloc RB = V := ⟨_, rfl⟩
  have hb3 : Below w.heap.size w W3 := by rw [← hW3]; exact (((Below.refl _ _).alloc (Nat.le_refl _) _).alloc (by simp) _).alloc (by simp; omega) _
  have hz3 : w.heap.size + 3 = W3.heap.size := by rw [← hW3]; simp
  have hpb : W3.heap[w.heap.size]? = some PB := by rw [← hW3]; exact box_later (box_later (heap_alloc_new _ _) _) _
  have hfb : W3.heap[w.heap.size + 1]? = some FB := by rw [← hW3]; have := box_later (heap_alloc_new (w.alloc PB) FB) RB; simpa using this
  have hrb : W3.heap[w.heap.size + 1 + 1]? = some RB := by rw [← hW3]; have := heap_alloc_new ((w.alloc PB).alloc FB) RB; simpa using this
  have HRW : Hid (Calls Tryz.prog 26 #[.agg #[.slice ca n cc, .slice wa words.length wc, .int .i64 lk, .int .i64 rg], .func (.func 45) #[] #[.pointer (some ⟨w.heap.size + 1, 0, none⟩), .pointer (some ⟨w.heap.size, 0, none⟩)]] W3 fun e w' => ∃ (va : Option Addr) (vc : Nat) (ua : Option Addr) (uc : Nat), e = .returned (.agg #[.slice va n vc, .slice ua words.length uc, .int .i64 lk, .int .i64 rg]) ∧ w'.heap[w.heap.size + 1 + 1]? = some (.cells #[nilV, nilV, .int .i64 0, .int .i64 0] 25) ∧ Hid (∀ a b c f, NewQ w n words lk rg (fun t i => bWith (d t i) (ordAt X t i)) L (.returned (.agg #[.slice va n vc, .slice ua words.length uc, .int .i64 lk, .int .i64 rg])) ((((w'.setCell ⟨w.heap.size + 1 + 1, 0, none⟩ a).setCell ⟨w.heap.size + 1 + 1, 1, none⟩ b).setCell ⟨w.heap.size + 1 + 1, 2, none⟩ c).setCell ⟨w.heap.size + 1 + 1, 3, none⟩ f))) := by
    have h := rewrite_any W3 ca n cc wa words wc lk rg 45 #[.pointer (some ⟨w.heap.size + 1, 0, none⟩), .pointer (some ⟨w.heap.size, 0, none⟩)] A L C X (fun t i => bWith (d t i) (ordAt X t i)) (hw.below hb3) hnil hc.m64 (hp.below hb3) (by have := hc.n4; omega) hc.L4 (fun t i _ _ => by unfold bWith; split <;> simp) (fun t i x ht hi hx => new_led hc ht hi (bWith_in hx)) (fun xs w => by kernel_rfl) (fun V t i hV ht hi => by
      have hV0 : Below w.heap.size w V := hb3.trans (hV.mono hb3.size)
      have e1 := (hV.block w.heap.size (by omega)).trans hpb
      have e2 := (hV.block (w.heap.size + 1) (by omega)).trans hfb
      rw [hPB] at e1
      rw [hFB] at e2
      exact put1_any V w.heap.size (w.heap.size + 1) fid caps ca n cc wa words.length wc lk rg A L C X t i (d t i) (hp.below hV0) ht hi e1 (box_cell e2 rfl) hfn (fun U hU => hd U t i (hV0.trans (hU.mono hV0.size)) ht hi))
    refine Calls.mono h ?_
    rintro e w' ⟨cv, uv, tv, rfl, h1, h2, h3, h4⟩
    have e3 := (h4.block (w.heap.size + 1 + 1) (by omega)).trans hrb
    rw [hRB] at e3
    have hlt : w.heap.size + 1 + 1 < W3.heap.size := by omega
    obtain ⟨va, vc, rfl⟩ := fam_form h1
    obtain ⟨ua, uc, rfl⟩ := fam_form h3
    refine ⟨va, vc, ua, uc, rfl, e3, fun a b c f => ⟨va, vc, ua, uc, tv, rfl, ?_, fun t ht => ?_, ?_, ?_⟩⟩
    · exact own_low (ownsRow_setCell_below (ownsRow_setCell_below (ownsRow_setCell_below (ownsRow_setCell_below h1 hlt _) hlt _) hlt _) hlt _) hb3.size
    · exact own_low (ownsRow_setCell_below (ownsRow_setCell_below (ownsRow_setCell_below (ownsRow_setCell_below (h2 t ht) hlt _) hlt _) hlt _) hlt _) hb3.size
    · exact own_low (ownsRow_setCell_below (ownsRow_setCell_below (ownsRow_setCell_below (ownsRow_setCell_below h3 hlt _) hlt _) hlt _) hlt _) hb3.size
    · have hle : w.heap.size ≤ w.heap.size + 1 + 1 := by omega
      exact ((((hb3.trans (h4.mono hb3.size)).setCell hle _).setCell hle _).setCell hle _).setCell hle _
  have HW3 : Hid (((w.alloc (.cells #[.slice ca n cc, .slice wa words.length wc, .int .i64 lk, .int .i64 rg] 25)).alloc (.cells #[.func (.func fid) #[] caps] 58)).alloc (.cells #[nilV, nilV, .int .i64 0, .int .i64 0] 25) = W3) := by rw [← hW3, hPB, hFB, hRB]; exact rfl
  clear hPB hFB hRB hW3 hb3 hz3 hpb hfb hrb hw hnil hc hp hd
  go_enter Tryz.func21, Tryz.ntmps21
  go_wp2_with fail
  rw [HW3.out]
  refine Calls.mono HRW.out ?_
  rintro e w4 ⟨va, vc, ua, uc, rfl, e4, HQ⟩
  have y0 := box_cell (i := 0) e4 rfl
  have y1 := box_cell (i := 1) e4 rfl
  have y2 := box_cell (i := 2) e4 rfl
  have y3 := box_cell (i := 3) e4 rfl
  have yf : ∀ i, w4.frozen? ⟨w.heap.size + 1 + 1, i, none⟩ = false := fun i => box_free e4
  have hsz : w.heap.size + 1 + 1 < w4.heap.size := box_lt e4
  clear e4 HRW HW3
  go_wp2_with fail
  exact bodyPost_ret (v := .agg #[.slice va n vc, .slice ua words.length uc, .int .i64 lk, .int .i64 rg]) (by simp [results, Tryz.results21, go_sem, y0, y1, y2, y3]) rfl (HQ.out _ _ _ _)
end

section
open Go.RowKit

theorem new_fit {n m lk rg : Nat} {L : Nat → Nat} {X : Nat → Nat → Nat → Int} (hc : COk n L X m lk rg) (b : Nat → Nat → List I4) (hb : ∀ t i, t < n → i < L t → ∀ x, x ∈ b t i → x = ordAt X t i ∨ x = fenceI) (hfit : ∀ t i, t < n → i < L t → -9223372036854775808 ≤ X t i 2 ∧ X t i 2 ≤ 9223372036854775807) (hl : ∀ t, t < n → lenR b L t ≤ 1000) : ∀ t i, t < n → i < lenR b L t → -9223372036854775808 ≤ numR b L t i 2 ∧ numR b L t i 2 ≤ 9223372036854775807 := fun t i ht hi => by
  have hi' : i < (codeR (b t) (L t)).length := hi
  obtain ⟨y, hy⟩ : ∃ y, (codeR (b t) (L t)).getD i fenceI = y := ⟨_, rfl⟩
  have hmem : y ∈ codeR (b t) (L t) := by
    rw [← hy, List.getD_eq_getElem?_getD, List.getElem?_eq_getElem hi']
    exact List.getElem_mem _
  have hN : numR b L t i 2 = y.2.2.1 := by
    unfold numR nth4
    rw [hy]
    rfl
  rw [hN]
  obtain ⟨x, hx, rfl⟩ := List.mem_map.mp hmem
  obtain ⟨k, hk, hm⟩ := raw_mem hx
  have hx' := hb t k ht hk x hm
  have hled := new_led hc ht hk hx'
  have e0 : (ledO (plR (b t)) x).2.2.1 = if x.1 = 15 then (plR (b t) x.2.2.1.toNat : Int) else x.2.2.1 := rfl
  rw [e0]
  by_cases e : x.1 = 15
  · rw [if_pos e]
    have h1 := hled.2.2 e
    have h2 : plR (b t) x.2.2.1.toNat ≤ plR (b t) (L t) := pl_mono (by omega)
    have h3 := hl t ht
    unfold lenR at h3
    rw [code_len] at h3
    omega
  · rw [if_neg e]
    rcases hx' with rfl | rfl
    · exact hfit t k ht hk
    · show -9223372036854775808 ≤ (0 : Int) ∧ (0 : Int) ≤ 9223372036854775807
      omega
theorem sis_own2 {w : World} {B : Nat} {a : Option Addr} {c : Nat} {l : List Int} (h : w.ownsRow B 3 1 (.slice a l.length c) l.length (intsV l)) : SIs w a l ∧ (a = none → l = [] ∧ c = 0) := by
  refine ⟨fun k hk => ?_, fun e => ?_⟩
  · obtain ⟨g, cap, e, hg, _⟩ := fam_block h (by omega)
    simp only [Value.slice.injEq] at e
    refine ⟨g, 0, e.1, ?_⟩
    rw [Nat.zero_add]
    exact fam_cell h hg (intsV_at hk)
  · subst e
    rcases h.2 with ⟨e, _⟩ | ⟨g, cap, cur, e, _⟩
    · simp only [Value.slice.injEq, true_and] at e
      exact ⟨List.length_eq_zero_iff.mp e.1, e.2⟩
    · simp at e
/-- All that is known of a program that was made anew. -/
theorem new_open {w U V : World} {n : Nat} {words : List Int} {lk rg : Int} {b : Nat → Nat → List I4} {L : Nat → Nat} {va : Option Addr} {vc : Nat} {ua : Option Addr} {uc : Nat} (hN : NewQ w n words lk rg b L (.returned (.agg #[.slice va n vc, .slice ua words.length uc, .int .i64 lk, .int .i64 rg])) U) (hb : Below U.heap.size U V) (hn : n ≤ 4) (hl : ∀ t, t < n → lenR b L t ≤ 1000) : (∃ A C, PIn V va n A (lenR b L) C (numR b L)) ∧ SIs V ua words ∧ (ua = none → words = [] ∧ uc = 0) := by
  obtain ⟨va', vc', ua', uc', tv, he, h1, h2, h3, _⟩ := hN.below hb
  simp only [Ending.returned.injEq, Value.agg.injEq, Array.mk.injEq, List.cons.injEq, Value.slice.injEq, true_and, and_true] at he
  obtain ⟨⟨rfl, rfl⟩, rfl, rfl⟩ := he
  obtain ⟨ca', cc', A', C', e1, hpin⟩ := new_pin h1 h2 (by omega) (fun t ht => by have := hl t ht; omega)
  simp only [Value.slice.injEq, true_and] at e1
  obtain ⟨rfl, rfl⟩ := e1
  exact ⟨⟨A', C', hpin⟩, sis_own2 h3⟩
end

end Go.Proofs.YtefnmbnakphhfadGreatDoor
