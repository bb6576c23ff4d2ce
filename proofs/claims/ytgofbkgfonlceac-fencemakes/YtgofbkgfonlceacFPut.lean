/-
  Fences behind orders, by the program.
-/
import Derived.Test.YtgofbkgfonlceacFApp
import Derived.Test.YtgofbkgfonlceacBox
import Derived.Test.YtgofbkgfonlceacRDoW
import Derived.Deep.RegionHeld3
namespace Go.Proofs.Ytgofbkgfonlceac
open Go.RowKit

theorem letsWait_any (w : World) (op : Int) : Calls Try.prog 21 #[.int .i64 op] w fun e w' => e = .returned (.bool (wtO op)) ∧ w' = w := by
  unfold wtO
  by_cases h9 : op = 9
  · subst h9
    go_enter Try.func21, Try.ntmps21
    go_wp2
    go_ret
    exact ⟨rfl, rfl⟩
  · have h9' : (op == 9) = false := by simpa using h9
    by_cases h11 : op = 11
    · subst h11
      go_enter Try.func21, Try.ntmps21
      go_wp2
      go_ret
      exact ⟨rfl, rfl⟩
    · have h11' : (op == 11) = false := by simpa using h11
      by_cases h18 : op = 18
      · subst h18
        go_enter Try.func21, Try.ntmps21
        go_wp2
        go_ret
        exact ⟨rfl, rfl⟩
      · have h18' : (op == 18) = false := by simpa using h18
        rw [decide_eq_false h9, decide_eq_false h11, decide_eq_false h18]
        go_enter Try.func21, Try.ntmps21
        go_wp2
        go_ret
        exact ⟨rfl, rfl⟩
set_option maxRecDepth 100000 in
set_option maxHeartbeats 1600000 in
theorem orderAt_any (w : World) (ca : Option Addr) (n cc : Nat) (wa : Option Addr) (m wc : Nat) (lk rg : Int) (A : Nat → Option Addr) (L C : Nat → Nat) (X : Nat → Nat → Nat → Int) (t i : Nat) (hp : PIn w ca n A L C X) (ht : t < n) (hi : i < L t) :
    Calls Try.prog 22 #[prgV ca n cc wa m wc lk rg, .agg #[.int .i64 t, .int .i64 i]] w fun e w' => e = .returned (ints4 (X t i 0) (X t i 1) (X t i 2) (X t i 3)) ∧ Below w.heap.size w w' := by
  have i0 : ∀ W, (Instr.index 49 (.agg #[.int .i64 (t : Int), .int .i64 (i : Int)]) (.int .i64 0)).run Try.prog W = .ok (.int .i64 t) W := fun _ => by kernel_rfl
  have i1 : ∀ W, (Instr.index 49 (.agg #[.int .i64 (t : Int), .int .i64 (i : Int)]) (.int .i64 1)).run Try.prog W = .ok (.int .i64 i) W := fun _ => by kernel_rfl
  obtain ⟨cb, co, rfl, hc⟩ := hp.code t ht
  obtain ⟨ab, ao, hA, c0, c1, c2, c3⟩ := hp.ord t i ht hi
  rw [hA] at hc
  have hln := hp.len t ht
  have hnn := hp.num
  obtain ⟨x0, h0⟩ : ∃ x, X t i 0 = x := ⟨_, rfl⟩
  obtain ⟨x1, h1⟩ : ∃ x, X t i 1 = x := ⟨_, rfl⟩
  obtain ⟨x2, h2⟩ : ∃ x, X t i 2 = x := ⟨_, rfl⟩
  obtain ⟨x3, h3⟩ : ∃ x, X t i 3 = x := ⟨_, rfl⟩
  obtain ⟨l, hl⟩ : ∃ x, L t = x := ⟨_, rfl⟩
  rw [h0] at c0; rw [h1] at c1; rw [h2] at c2; rw [h3] at c3
  rw [h0, h1, h2, h3]
  rw [hl] at hc hi hln
  have u0 := fun o1 o2 o3 => cell_up (cell_up (cell_up c0 o1) o2) o3
  have u1 := fun o1 o2 o3 => cell_up (cell_up (cell_up c1 o1) o2) o3
  have u2 := fun o1 o2 o3 => cell_up (cell_up (cell_up c2 o1) o2) o3
  have u3 := fun o1 o2 o3 => cell_up (cell_up (cell_up c3 o1) o2) o3
  have uc := fun o1 o2 o3 => cell_up (cell_up (cell_up hc o1) o2) o3
  clear hp hA h0 h1 h2 h3 hl c0 c1 c2 c3 hc
  go_enter Try.func22, Try.ntmps22
  go_wp2
  refine region_tail 10 (by kernel_rfl) (by kernel_rfl) ?_
  simp only [List.take_succ_cons, List.take_zero, List.drop_succ_cons, List.drop_zero]
  repeat still_step
  refine wpStill_nil ?_
  go_wp2
  exact bodyPost_ret (v := ints4 x0 x1 x2 x3) (by simp [results, Try.results22, go_sem]) rfl ⟨rfl, ((((Below.refl _ _).alloc (Nat.le_refl _) _).alloc (by simp) _).alloc (by simp; omega) _).drew⟩
set_option maxRecDepth 100000 in
set_option maxHeartbeats 1600000 in
/-- Does an order let something wait? As Full asks. -/
theorem full1_any (w : World) (pb : Nat) (ca : Option Addr) (n cc : Nat) (wa : Option Addr) (m wc : Nat) (lk rg : Int) (A : Nat → Option Addr) (L C : Nat → Nat) (X : Nat → Nat → Nat → Int) (t i : Nat) (hp : PIn w ca n A L C X) (ht : t < n) (hi : i < L t) (hb : w.heap[pb]? = some (.cells #[.slice ca n cc, .slice wa m wc, .int .i64 lk, .int .i64 rg] 25)) :
    Calls Try.prog 20 #[.agg #[.int .i64 t, .int .i64 i], .pointer (some ⟨pb, 0, none⟩)] w fun e w' => e = .returned (.bool (wtO (X t i 0))) ∧ Below w.heap.size w w' := by
  have hbl := box_lt hb
  have HO : Hid (∀ V, Below w.heap.size w V → Calls Try.prog 22 #[.agg #[.slice ca n cc, .slice wa m wc, .int .i64 lk, .int .i64 rg], .agg #[.int .i64 t, .int .i64 i]] V fun e w' => e = .returned (ints4 (X t i 0) (X t i 1) (X t i 2) (X t i 3)) ∧ Below V.heap.size V w') := fun V hV => orderAt_any V ca n cc wa m wc lk rg A L C X t i (hp.below hV) ht hi
  have b0 := box_cell (i := 0) hb rfl
  have b1 := box_cell (i := 1) hb rfl
  have b2 := box_cell (i := 2) hb rfl
  have b3 := box_cell (i := 3) hb rfl
  clear hp hb
  have HB1 : Hid (∀ o, Below w.heap.size w (w.alloc o)) := fun o => (Below.refl _ _).alloc (Nat.le_refl _) _
  have hfd : ∀ W, (Instr.field 52 (ints4 (X t i 0) (X t i 1) (X t i 2) (X t i 3)) 0).run Try.prog W = .ok (.int .i64 (X t i 0)) W := fun _ => by kernel_rfl
  go_enter Try.func20, Try.ntmps20
  go_wp2_with (first | (go_at_call 22; refine Calls.mono (HO.out _ (HB1.out _)) ?_; rintro e w1 ⟨rfl, hb1⟩; have H1 : Hid (Below w.heap.size w w1) := (HB1.out _).trans (hb1.mono (by simp)); clear hb1) | (go_at_call 21; refine (letsWait_any _ _).mono ?_; rintro e w2 ⟨rfl, rfl⟩))
  go_ret
  exact ⟨rfl, H1.out⟩
set_option maxRecDepth 100000 in
set_option maxHeartbeats 1600000 in
/-- What an order becomes, as put asks. -/
theorem put1_any (w : World) (pb fb fid : Nat) (caps : Array Value) (ca : Option Addr) (n cc : Nat) (wa : Option Addr) (m wc : Nat) (lk rg : Int) (A : Nat → Option Addr) (L C : Nat → Nat) (X : Nat → Nat → Nat → Int) (t i : Nat) (d : Bool) (hp : PIn w ca n A L C X) (ht : t < n) (hi : i < L t) (hb : w.heap[pb]? = some (.cells #[.slice ca n cc, .slice wa m wc, .int .i64 lk, .int .i64 rg] 25)) (hfb : w.cell? ⟨fb, 0, none⟩ = some (.func (.func fid) #[] caps))
    (hfn : ∀ (xs : Array Value) (w : World), (callFunc fid xs).run Try.prog w = .ok (.enter fid xs) w) (hd : ∀ V, Below w.heap.size w V → Calls Try.prog fid (#[.agg #[.int .i64 t, .int .i64 i]] ++ caps) V fun e w' => e = .returned (.bool d) ∧ Below V.heap.size V w') :
    Calls Try.prog 38 #[.int .i64 t, .int .i64 i, .pointer (some ⟨fb, 0, none⟩), .pointer (some ⟨pb, 0, none⟩)] w fun e w' => ∃ sa c, e = .returned (.slice sa (bWith d (ordAt X t i)).length c) ∧ SrcL w' sa (cellsT (bWith d (ordAt X t i))) ∧ Below w.heap.size w w' := by
  have hbl := box_lt hb
  have hfl := lt_of_cell hfb
  have HO : Hid (∀ V, Below w.heap.size w V → Calls Try.prog 22 #[.agg #[.slice ca n cc, .slice wa m wc, .int .i64 lk, .int .i64 rg], .agg #[.int .i64 t, .int .i64 i]] V fun e w' => e = .returned (ints4 (X t i 0) (X t i 1) (X t i 2) (X t i 3)) ∧ Below V.heap.size V w') := fun V hV => orderAt_any V ca n cc wa m wc lk rg A L C X t i (hp.below hV) ht hi
  have HD := Hid.out (p := Hid _) hd
  have b0 := box_cell (i := 0) hb rfl
  have b1 := box_cell (i := 1) hb rfl
  have b2 := box_cell (i := 2) hb rfl
  have b3 := box_cell (i := 3) hb rfl
  have HB1 : Hid (∀ o, Below w.heap.size w (w.alloc o)) := fun o => (Below.refl _ _).alloc (Nat.le_refl _) _
  clear hp hd
  have HST : Hid (∀ V, Below (w.heap.size + 1) (w.alloc (.cells #[.int .i64 (t : Int), .int .i64 (i : Int)] 49)) V → Below w.heap.size w V ∧ V.cell? ⟨w.heap.size, 0, none⟩ = some (.int .i64 t) ∧ V.cell? ⟨w.heap.size, 1, none⟩ = some (.int .i64 i) ∧ V.cell? ⟨pb, 0, none⟩ = some (.slice ca n cc) ∧ V.cell? ⟨pb, 1, none⟩ = some (.slice wa m wc) ∧ V.cell? ⟨pb, 2, none⟩ = some (.int .i64 lk) ∧ V.cell? ⟨pb, 3, none⟩ = some (.int .i64 rg)) := fun V hV => by
    have hB := (HB1.out (.cells #[.int .i64 (t : Int), .int .i64 (i : Int)] 49)).trans (hV.mono (by simp))
    have hh := (hV.block w.heap.size (by omega)).trans (heap_alloc_new w (.cells #[.int .i64 (t : Int), .int .i64 (i : Int)] 49))
    have hq := (hB.block pb hbl).trans hb
    exact ⟨hB, box_cell hh rfl, box_cell hh rfl, box_cell hq rfl, box_cell hq rfl, box_cell hq rfl, box_cell hq rfl⟩
  clear hb
  cases d with
  | true =>
    go_enter Try.func38, Try.ntmps38
    go_wp2_with fail
    refine Calls.mono (HD.out _ (HB1.out _)) ?_
    rintro e w1 ⟨rfl, hb1⟩
    have hb1' : Below (w.heap.size + 1) (w.alloc (.cells #[.int .i64 (t : Int), .int .i64 (i : Int)] 49)) w1 := by simpa using hb1
    obtain ⟨hw1, h0, h1, q0, q1, q2, q3⟩ := HST.out w1 hb1'
    have hl1 : w.heap.size < w1.heap.size := lt_of_cell h0
    have H1 : Hid (Below (w.heap.size + 1) (w.alloc (.cells #[.int .i64 (t : Int), .int .i64 (i : Int)] 49)) w1 ∧ Below w.heap.size w w1) := ⟨hb1', hw1⟩
    clear hb1 hb1' hw1 HD b0 b1 b2 b3 hfb hfn
    go_wp2_with fail
    refine Calls.mono (HO.out _ H1.out.2) ?_
    rintro e w2 ⟨rfl, hb2⟩
    have H2 : Hid (Below w.heap.size w w2) := H1.out.2.trans (hb2.mono H1.out.2.size)
    clear hb2 h0 h1 q0 q1 q2 q3
    go_wp2_with fail
    go_ret
    exact ⟨_, _, rfl, srcL_block (heap_alloc_new w2 _), H2.out.alloc H2.out.size _⟩
  | false =>
    go_enter Try.func38, Try.ntmps38
    go_wp2_with fail
    refine Calls.mono (HD.out _ (HB1.out _)) ?_
    rintro e w1 ⟨rfl, hb1⟩
    have hb1' : Below (w.heap.size + 1) (w.alloc (.cells #[.int .i64 (t : Int), .int .i64 (i : Int)] 49)) w1 := by simpa using hb1
    obtain ⟨hw1, h0, h1, q0, q1, q2, q3⟩ := HST.out w1 hb1'
    have hl1 : w.heap.size < w1.heap.size := lt_of_cell h0
    have H1 : Hid (Below (w.heap.size + 1) (w.alloc (.cells #[.int .i64 (t : Int), .int .i64 (i : Int)] 49)) w1 ∧ Below w.heap.size w w1) := ⟨hb1', hw1⟩
    clear hb1 hb1' hw1 HD b0 b1 b2 b3 hfb hfn
    go_wp2_with fail
    refine Calls.mono (HO.out _ H1.out.2) ?_
    rintro e w2 ⟨rfl, hb2⟩
    have H2 : Hid (Below w.heap.size w w2) := H1.out.2.trans (hb2.mono H1.out.2.size)
    clear hb2 h0 h1 q0 q1 q2 q3
    go_wp2_with fail
    go_ret
    exact ⟨_, _, rfl, srcL_block (heap_alloc_new w2 _), H2.out.alloc H2.out.size _⟩

end Go.Proofs.Ytgofbkgfonlceac
