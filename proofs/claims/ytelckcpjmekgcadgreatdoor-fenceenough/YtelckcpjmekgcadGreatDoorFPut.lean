/-
  Fences behind orders, by the program.
  Places of orders that let something wait, by the program.
-/
import Derived.Test.YtelckcpjmekgcadGreatDoorFApp
import Derived.Test.YtelckcpjmekgcadGreatDoorRMay
import Derived.Test.YtelckcpjmekgcadGreatDoorEffP
import Derived.Deep.RegionHeld3
namespace Go.Proofs.YtelckcpjmekgcadGreatDoor
section
open Go.RowKit

theorem letsWait_any (w : World) (op : Int) : Calls Tryz.prog 20 #[.int .i64 op] w fun e w' => e = .returned (.bool (wtO op)) ∧ w' = w := by
  unfold wtO
  by_cases h9 : op = 9
  · subst h9
    go_enter Tryz.func20, Tryz.ntmps20
    go_wp2
    go_ret
    exact ⟨rfl, rfl⟩
  · have h9' : (op == 9) = false := by simpa using h9
    by_cases h11 : op = 11
    · subst h11
      go_enter Tryz.func20, Tryz.ntmps20
      go_wp2
      go_ret
      exact ⟨rfl, rfl⟩
    · have h11' : (op == 11) = false := by simpa using h11
      by_cases h18 : op = 18
      · subst h18
        go_enter Tryz.func20, Tryz.ntmps20
        go_wp2
        go_ret
        exact ⟨rfl, rfl⟩
      · have h18' : (op == 18) = false := by simpa using h18
        rw [decide_eq_false h9, decide_eq_false h11, decide_eq_false h18]
        go_enter Tryz.func20, Tryz.ntmps20
        go_wp2
        go_ret
        exact ⟨rfl, rfl⟩
set_option maxRecDepth 100000 in
set_option maxHeartbeats 1600000 in
theorem orderAt_any (w : World) (ca : Option Addr) (n cc : Nat) (wa : Option Addr) (m wc : Nat) (lk rg : Int) (A : Nat → Option Addr) (L C : Nat → Nat) (X : Nat → Nat → Nat → Int) (t i : Nat) (hp : PIn w ca n A L C X) (ht : t < n) (hi : i < L t) :
    Calls Tryz.prog 21 #[prgV ca n cc wa m wc lk rg, .agg #[.int .i64 t, .int .i64 i]] w fun e w' => e = .returned (ints4 (X t i 0) (X t i 1) (X t i 2) (X t i 3)) ∧ Below w.heap.size w w' := by
  have i0 : ∀ W, (Instr.index 33 (.agg #[.int .i64 (t : Int), .int .i64 (i : Int)]) (.int .i64 0)).run Tryz.prog W = .ok (.int .i64 t) W := fun _ => by kernel_rfl
  have i1 : ∀ W, (Instr.index 33 (.agg #[.int .i64 (t : Int), .int .i64 (i : Int)]) (.int .i64 1)).run Tryz.prog W = .ok (.int .i64 i) W := fun _ => by kernel_rfl
  obtain ⟨cb, co, rfl, hc⟩ := hp.code t ht
  obtain ⟨ab, ao, hA, c0, c1, c2, c3⟩ := hp.ord t i ht hi
  rw [hA] at hc
  have hln := hp.len t ht
  have hnn := hp.num
  obtain ⟨x0, h0⟩ : ∃ x, X t i 0 = x := ⟨_, rfl⟩
  obtain ⟨x1, h1⟩ : ∃ x, X t i 1 = x := ⟨_, rfl⟩
  obtain ⟨x2, h2⟩ : ∃ x, X t i 2 = x := ⟨_, rfl⟩
  obtain ⟨x3, h3⟩ : ∃ x, X t i 3 = x := ⟨_, rfl⟩
  obtain ⟨l, hl⟩ : ∃ x, L t = x := ⟨_, rfl⟩
  rw [h0] at c0; rw [h1] at c1; rw [h2] at c2; rw [h3] at c3
  rw [h0, h1, h2, h3]
  rw [hl] at hc hi hln
  have u0 := fun o1 o2 o3 => cell_up (cell_up (cell_up c0 o1) o2) o3
  have u1 := fun o1 o2 o3 => cell_up (cell_up (cell_up c1 o1) o2) o3
  have u2 := fun o1 o2 o3 => cell_up (cell_up (cell_up c2 o1) o2) o3
  have u3 := fun o1 o2 o3 => cell_up (cell_up (cell_up c3 o1) o2) o3
  have uc := fun o1 o2 o3 => cell_up (cell_up (cell_up hc o1) o2) o3
  clear hp hA h0 h1 h2 h3 hl c0 c1 c2 c3 hc
  go_enter Tryz.func21, Tryz.ntmps21
  go_wp2
  refine region_tail 10 (by kernel_rfl) (by kernel_rfl) ?_
  simp only [List.take_succ_cons, List.take_zero, List.drop_succ_cons, List.drop_zero]
  repeat still_step
  refine wpStill_nil ?_
  go_wp2
  exact bodyPost_ret (v := ints4 x0 x1 x2 x3) (by simp [results, Tryz.results21, go_sem]) rfl ⟨rfl, ((((Below.refl _ _).alloc (Nat.le_refl _) _).alloc (by simp) _).alloc (by simp; omega) _).drew⟩
set_option maxRecDepth 100000 in
set_option maxHeartbeats 1600000 in
/-- What an order becomes, as put asks. -/
theorem put1_any (w : World) (pb fb fid : Nat) (caps : Array Value) (ca : Option Addr) (n cc : Nat) (wa : Option Addr) (m wc : Nat) (lk rg : Int) (A : Nat → Option Addr) (L C : Nat → Nat) (X : Nat → Nat → Nat → Int) (t i : Nat) (d : Bool) (hp : PIn w ca n A L C X) (ht : t < n) (hi : i < L t) (hb : w.heap[pb]? = some (.cells #[.slice ca n cc, .slice wa m wc, .int .i64 lk, .int .i64 rg] 25)) (hfb : w.cell? ⟨fb, 0, none⟩ = some (.func (.func fid) #[] caps))
    (hfn : ∀ (xs : Array Value) (w : World), (callFunc fid xs).run Tryz.prog w = .ok (.enter fid xs) w) (hd : ∀ V, Below w.heap.size w V → Calls Tryz.prog fid (#[.agg #[.int .i64 t, .int .i64 i]] ++ caps) V fun e w' => e = .returned (.bool d) ∧ Below V.heap.size V w') :
    Calls Tryz.prog 36 #[.int .i64 t, .int .i64 i, .pointer (some ⟨fb, 0, none⟩), .pointer (some ⟨pb, 0, none⟩)] w fun e w' => ∃ sa c, e = .returned (.slice sa (bWith d (ordAt X t i)).length c) ∧ SrcL w' sa (cellsT (bWith d (ordAt X t i))) ∧ Below w.heap.size w w' := by
  have hbl := box_lt hb
  have hfl := lt_of_cell hfb
  have HO : Hid (∀ V, Below w.heap.size w V → Calls Tryz.prog 21 #[.agg #[.slice ca n cc, .slice wa m wc, .int .i64 lk, .int .i64 rg], .agg #[.int .i64 t, .int .i64 i]] V fun e w' => e = .returned (ints4 (X t i 0) (X t i 1) (X t i 2) (X t i 3)) ∧ Below V.heap.size V w') := fun V hV => orderAt_any V ca n cc wa m wc lk rg A L C X t i (hp.below hV) ht hi
  have HD := Hid.out (p := Hid _) hd
  have b0 := box_cell (i := 0) hb rfl
  have b1 := box_cell (i := 1) hb rfl
  have b2 := box_cell (i := 2) hb rfl
  have b3 := box_cell (i := 3) hb rfl
  have HB1 : Hid (∀ o, Below w.heap.size w (w.alloc o)) := fun o => (Below.refl _ _).alloc (Nat.le_refl _) _
  clear hp hd
  have HST : Hid (∀ V, Below (w.heap.size + 1) (w.alloc (.cells #[.int .i64 (t : Int), .int .i64 (i : Int)] 33)) V → Below w.heap.size w V ∧ V.cell? ⟨w.heap.size, 0, none⟩ = some (.int .i64 t) ∧ V.cell? ⟨w.heap.size, 1, none⟩ = some (.int .i64 i) ∧ V.cell? ⟨pb, 0, none⟩ = some (.slice ca n cc) ∧ V.cell? ⟨pb, 1, none⟩ = some (.slice wa m wc) ∧ V.cell? ⟨pb, 2, none⟩ = some (.int .i64 lk) ∧ V.cell? ⟨pb, 3, none⟩ = some (.int .i64 rg)) := fun V hV => by
    have hB := (HB1.out (.cells #[.int .i64 (t : Int), .int .i64 (i : Int)] 33)).trans (hV.mono (by simp))
    have hh := (hV.block w.heap.size (by omega)).trans (heap_alloc_new w (.cells #[.int .i64 (t : Int), .int .i64 (i : Int)] 33))
    have hq := (hB.block pb hbl).trans hb
    exact ⟨hB, box_cell hh rfl, box_cell hh rfl, box_cell hq rfl, box_cell hq rfl, box_cell hq rfl, box_cell hq rfl⟩
  clear hb
  cases d with
  | true =>
    go_enter Tryz.func36, Tryz.ntmps36
    go_wp2_with fail
    refine Calls.mono (HD.out _ (HB1.out _)) ?_
    rintro e w1 ⟨rfl, hb1⟩
    have hb1' : Below (w.heap.size + 1) (w.alloc (.cells #[.int .i64 (t : Int), .int .i64 (i : Int)] 33)) w1 := by simpa using hb1
    obtain ⟨hw1, h0, h1, q0, q1, q2, q3⟩ := HST.out w1 hb1'
    have hl1 : w.heap.size < w1.heap.size := lt_of_cell h0
    have H1 : Hid (Below (w.heap.size + 1) (w.alloc (.cells #[.int .i64 (t : Int), .int .i64 (i : Int)] 33)) w1 ∧ Below w.heap.size w w1) := ⟨hb1', hw1⟩
    clear hb1 hb1' hw1 HD b0 b1 b2 b3 hfb hfn
    go_wp2_with fail
    refine Calls.mono (HO.out _ H1.out.2) ?_
    rintro e w2 ⟨rfl, hb2⟩
    have H2 : Hid (Below w.heap.size w w2) := H1.out.2.trans (hb2.mono H1.out.2.size)
    clear hb2 h0 h1 q0 q1 q2 q3
    go_wp2_with fail
    go_ret
    exact ⟨_, _, rfl, srcL_block (heap_alloc_new w2 _), H2.out.alloc H2.out.size _⟩
  | false =>
    go_enter Tryz.func36, Tryz.ntmps36
    go_wp2_with fail
    refine Calls.mono (HD.out _ (HB1.out _)) ?_
    rintro e w1 ⟨rfl, hb1⟩
    have hb1' : Below (w.heap.size + 1) (w.alloc (.cells #[.int .i64 (t : Int), .int .i64 (i : Int)] 33)) w1 := by simpa using hb1
    obtain ⟨hw1, h0, h1, q0, q1, q2, q3⟩ := HST.out w1 hb1'
    have hl1 : w.heap.size < w1.heap.size := lt_of_cell h0
    have H1 : Hid (Below (w.heap.size + 1) (w.alloc (.cells #[.int .i64 (t : Int), .int .i64 (i : Int)] 33)) w1 ∧ Below w.heap.size w w1) := ⟨hb1', hw1⟩
    clear hb1 hb1' hw1 HD b0 b1 b2 b3 hfb hfn
    go_wp2_with fail
    refine Calls.mono (HO.out _ H1.out.2) ?_
    rintro e w2 ⟨rfl, hb2⟩
    have H2 : Hid (Below w.heap.size w w2) := H1.out.2.trans (hb2.mono H1.out.2.size)
    clear hb2 h0 h1 q0 q1 q2 q3
    go_wp2_with fail
    go_ret
    exact ⟨_, _, rfl, srcL_block (heap_alloc_new w2 _), H2.out.alloc H2.out.size _⟩
end

section
open Go.RowKit

/-- What is known while the threads are looked at. -/
structure LtI (S W : World) (v : Value) (l : List Pl) : Prop where
  low : Below S.heap.size S W
  own : OwnP W S.heap.size v l
theorem LtI.start (S : World) : LtI S S nilV [] := ⟨Below.refl _ _, ownP_nil _ _⟩
theorem LtI.below {S W V : World} {v : Value} {l : List Pl} (h : LtI S W v l) (hb : Below W.heap.size W V) : LtI S V v l := ⟨h.low.trans (hb.mono h.low.size), h.own.below hb⟩
theorem LtI.push {S W V : World} {a : Option Addr} {n c : Nat} {l : List Pl} (h : LtI S W (.slice a n c) l) (hn : n = l.length) (hb : Below W.heap.size W V) (t i : Nat) (hl : n ≤ 100000) :
    ∃ g cap w3, (AppS #[26, 26] 26 #[.slice a n c, .slice (some ⟨V.heap.size, 0, none⟩) 1 1]).run Tryz.prog (V.alloc (.cells #[.int .i64 (t : Int), .int .i64 (i : Int)] 33)) = .ok (.slice (some ⟨g, 0, none⟩) (n + 1) cap) w3 ∧ LtI S w3 (.slice (some ⟨g, 0, none⟩) (n + 1) cap) (l ++ [(t, i)]) := by
  obtain ⟨g, cap, w3, r1, r2, r3, r4⟩ := app_pl h.own hb h.low.size t i (by omega)
  rw [← hn] at r1 r2
  exact ⟨g, cap, w3, r1, app_pl_below h.own hb r3 h.low.size (h.low.trans (hb.mono h.low.size)), r2⟩
attribute [local go_sem ↓] appS_eq in
set_option maxRecDepth 100000 in
set_option maxHeartbeats 1600000 in
theorem letting_any (w : World) (ca : Option Addr) (n cc : Nat) (wa : Option Addr) (m wc : Nat) (lk rg : Int) (A : Nat → Option Addr) (L C : Nat → Nat) (X : Nat → Nat → Nat → Int) (hp : PIn w ca n A L C X) (hn : n ≤ 4) (hL : ∀ t, t < n → L t ≤ 1000) :
    Calls Tryz.prog 12 #[prgV ca n cc wa m wc lk rg] w fun e w' => ∃ v, e = .returned v ∧ OwnP w' w.heap.size v (plA L X n) ∧ Below w.heap.size w w' := by
  have HP := Hid.out (p := Hid _) hp
  have HL := Hid.out (p := Hid _) hL
  have HLN : Hid (∀ k, k ≤ n → (plA L X k).length ≤ 4000) := fun k hk => by
    have := plA_le (X := X) k (fun t ht => hL t (by omega))
    have : k * 1000 ≤ 4 * 1000 := Nat.mul_le_mul (by omega) (Nat.le_refl _)
    omega
  obtain ⟨W, hW⟩ : ∃ V, w.alloc (.cells #[.slice ca n cc, .slice wa m wc, .int .i64 lk, .int .i64 rg] 25) = V := ⟨_, rfl⟩
  have hbW : Below w.heap.size w W := by rw [← hW]; exact (Below.refl _ _).alloc (Nat.le_refl _) _
  have p0 : W.cell? ⟨w.heap.size, 0, none⟩ = some (.slice ca n cc) := by rw [← hW]; exact box_cell (heap_alloc_new _ _) rfl
  have HW := Hid.out (p := Hid _) hW
  have HBW := Hid.out (p := Hid _) (And.intro hbW p0)
  clear hp hL hW hbW
  go_enter Tryz.func12, Tryz.ntmps12
  go_wp2
  rw [HW.out]
  go_wp2
  clear p0
  go_loopw [3, 11] (fun ov i wr => ∃ (k : Nat) (oa : Option Addr) (ol oc : Nat), k ≤ n ∧ i = .int .i64 k ∧ ov = .slice oa ol oc ∧ Hid (ol = (plA L X k).length ∧ LtI W wr (.slice oa ol oc) (plA L X k))) (fun _ i _ => n - (intOf i).toNat)
  case atStart => exact ⟨0, none, 0, 0, Nat.zero_le _, rfl, rfl, rfl, LtI.start _⟩
  case round =>
    obtain ⟨k, oa, ol, oc, hk, rfl, rfl, HI⟩ := hrel
    by_cases hlt : k < n
    · have hwr : Below w.heap.size w wr := HBW.out.1.trans (HI.out.2.low.mono HBW.out.1.size)
      obtain ⟨cb, co, rfl, hcell⟩ := (HP.out.below hwr).code k hlt
      obtain ⟨l, hl⟩ : ∃ l, L k = l := ⟨_, rfl⟩
      have hl4 : l ≤ 1000 := by rw [← hl]; exact HL.out k hlt
      have HLK : Hid (L k = l) := hl
      rw [hl] at hcell
      obtain ⟨ak, hak⟩ : ∃ a, A k = a := ⟨_, rfl⟩
      rw [hak] at hcell
      have HIN : Hid (∀ V, Below W.heap.size W V → ∀ j, j < l → ∃ ab ao, ak = some ⟨ab, ao, none⟩ ∧ V.cell? ⟨ab, ao + j * 4, none⟩ = some (.int .i64 (X k j 0)) ∧ V.cell? ⟨ab, ao + j * 4 + 1, none⟩ = some (.int .i64 (X k j 1)) ∧ V.cell? ⟨ab, ao + j * 4 + 2, none⟩ = some (.int .i64 (X k j 2)) ∧ V.cell? ⟨ab, ao + j * 4 + 3, none⟩ = some (.int .i64 (X k j 3))) := fun V hV j hj => by
        obtain ⟨ab, ao, e1, c⟩ := (HP.out.below (HBW.out.1.trans (hV.mono HBW.out.1.size))).ord k j hlt (by rw [hl]; exact hj)
        exact ⟨ab, ao, by rw [← hak, e1], c⟩
      clear hl hak hwr
      go_wp2
      clear hcell
      have HB : Hid (plA L X (k + 1) = plA L X k ++ plT X k l) := by rw [plA, HLK.out]; exact rfl
      go_loopw [3, 18] (fun ov i wi => ∃ (j : Nat) (oa : Option Addr) (ol oc : Nat), j ≤ l ∧ i = .int .i64 j ∧ ov = .slice oa ol oc ∧ ol ≤ 4000 + j ∧ Hid (ol = (plA L X k ++ plT X k j).length ∧ LtI W wi (.slice oa ol oc) (plA L X k ++ plT X k j))) (fun _ i _ => l - (intOf i).toNat)
      case atStart => exact ⟨0, oa, ol, oc, Nat.zero_le _, rfl, rfl, by rw [HI.out.1]; exact HLN.out k (by omega), by rw [plT, List.append_nil]; exact HI.out.1, by rw [plT, List.append_nil]; exact HI.out.2⟩
      case round =>
        obtain ⟨j, oa, ol, oc, hj, rfl, rfl, hol, HJ⟩ := hrel
        by_cases hjl : j < l
        · obtain ⟨ab, ao, rfl, c0, c1, c2, c3⟩ := HIN.out wr HJ.out.2.low j hjl
          obtain ⟨bw, hbw⟩ : ∃ b, wtO (X k j 0) = b := ⟨_, rfl⟩
          have HBW2 : Hid (wtO (X k j 0) = bw) := hbw
          have HLW : Hid (∀ V, Calls Tryz.prog 20 #[.int .i64 (X k j 0)] V fun e w' => e = .returned (.bool bw) ∧ w' = V) := fun V => by
            rw [← hbw]
            exact letsWait_any V _
          clear hbw
          have HAL : Hid (∀ o, Below wr.heap.size wr (wr.alloc o)) := fun o => (Below.refl _ _).alloc (Nat.le_refl _) _
          cases bw with
          | true =>
            obtain ⟨g3, cap3, w3, hrun3, hI3⟩ := HJ.out.2.push HJ.out.1 (HAL.out (.cells #[.int .i64 (X k j 0), .int .i64 (X k j 1), .int .i64 (X k j 2), .int .i64 (X k j 3)] 37)) k j (by omega)
            have HI3 : Hid (ol + 1 = (plA L X k ++ plT X k (j + 1)).length ∧ LtI W w3 (.slice (some ⟨g3, 0, none⟩) (ol + 1) cap3) (plA L X k ++ plT X k (j + 1))) := by
              have e1 : plA L X k ++ plT X k (j + 1) = (plA L X k ++ plT X k j) ++ [(k, j)] := by rw [plT, if_pos HBW2.out, List.append_assoc]
              rw [e1]
              exact ⟨by rw [List.length_append, ← HJ.out.1]; rfl, hI3⟩
            rw [World.size_alloc] at hrun3
            clear hI3
            go_wp2_with (go_at_call 20; refine (HLW.out _).mono ?_; rintro e w2 ⟨rfl, rfl⟩)
            go_roundw
            case rel => exact ⟨j + 1, _, _, _, by omega, by go_num, rfl, by omega, HI3⟩
            case measure => simp [intOf]; omega
          | false =>
            have HI3 : Hid (∀ o, ol = (plA L X k ++ plT X k (j + 1)).length ∧ LtI W (wr.alloc o) (.slice oa ol oc) (plA L X k ++ plT X k (j + 1))) := fun o => by
              have e1 : plT X k (j + 1) = plT X k j := by rw [plT, if_neg (by rw [HBW2.out]; decide), List.append_nil]
              rw [e1]
              exact ⟨HJ.out.1, HJ.out.2.below (HAL.out o)⟩
            go_wp2_with (go_at_call 20; refine (HLW.out _).mono ?_; rintro e w2 ⟨rfl, rfl⟩)
            go_roundw
            case rel => exact ⟨j + 1, oa, ol, oc, by omega, by go_num, rfl, by omega, HI3.out _⟩
            case measure => simp [intOf]; omega
        · go_wp2
          go_roundw
          case rel => exact ⟨k + 1, oa, ol, oc, by omega, by go_num, rfl, by rw [HB.out, show l = j by omega]; exact HJ.out.1, by rw [HB.out, show l = j by omega]; exact HJ.out.2⟩
          case measure => simp [intOf]; omega
    · have hkn : k = n := by omega
      subst hkn
      go_wp2
      go_ret
      exact ⟨_, rfl, own_low HI.out.2.own HBW.out.1.size, HBW.out.1.trans (HI.out.2.low.mono HBW.out.1.size)⟩
end

end Go.Proofs.YtelckcpjmekgcadGreatDoor
