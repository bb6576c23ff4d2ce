/-
  What hangs on a register's value goes on, by the program.
-/
import Derived.Test.YtkailbdjilkneaaDoorOptS
import Derived.Test.YtkailbdjilkneaaDoorOptV
import Derived.Test.YtkailbdjilkneaaDoorOptZ
import Derived.Deep.RegionHeld3
namespace Go.Proofs.YtkailbdjilkneaaDoor
open Go.RowKit

section
variable {X : Nat → Nat → Int} {l rg k m lk : Nat} {E : Nat → Nat → Vl} {O : List (Nat × Nat)} {P : Nat → Nat → Nat → Prop}
theorem WkV.mono2 (h : WkV X l rg k E O P) {Q : Nat → Nat → Nat → Prop} (hq : ∀ i j r, i < l → r < rg → P i j r → Q i j r) : WkV X l rg k E O Q :=
  ⟨h.sound, h.opn, h.z, fun i s hi hs hne j hj r hr => by
    rcases h.cons i s hi hs hne j hj r hr with h1 | h1 | h1
    · exact Or.inl h1
    · exact Or.inr (Or.inl h1)
    · exact Or.inr (Or.inr (hq i j r hi hr h1))⟩
/-- While order a is handed on, what hangs on register s: P is left. -/
structure HdV (X : Nat → Nat → Int) (l rg k a s M : Nat) (P : Nat → Nat → Nat → Prop) (E : Nat → Nat → Vl) (O : List (Nat × Nat)) : Prop where
  wk : WkV X l rg k E O P
  ne : E a s ≠ .no
  ms : O.length + meas l rg E ≤ M
theorem HdV.give {a s M j r : Nat} (h : HdV X l rg k a s M P E O) (hok : ∀ i, i < l → ordE rg m lk l (X i 0) (X i 1) (X i 2) (X i 3) = 0) (ha : a < l) (hs : s < rg) (hr : r < rg) (hjl : j ≤ l) (hj : ∀ F, SolV X l rg F → j ∈ wyX X a (F a)) :
    HdV X l rg k a s M (fun i b q => P i b q ∧ ¬ (i = a ∧ b = j ∧ q = r)) (updE E j r ((E j r).meet (bhV X a (E a) r))) (newO E j r (bhV X a (E a) r) O) :=
  ⟨h.wk.give hok ha hs h.ne hr hjl hj, ne_of_le (updE_le (Vl.le_meet_l _ _) a s) h.ne, Nat.le_trans (newO_meas hjl hr) h.ms⟩
theorem HdV.mono {a s M : Nat} (h : HdV X l rg k a s M P E O) {Q : Nat → Nat → Nat → Prop} (hq : ∀ i j r, i < l → r < rg → P i j r → Q i j r) : HdV X l rg k a s M Q E O := ⟨h.wk.mono2 hq, h.ne, h.ms⟩
end
theorem wyX_len (X : Nat → Nat → Int) (i : Nat) (e : Nat → Vl) : (wyX X i e).length ≤ 2 := by
  unfold wyX wyL
  split
  · split
    · simp
    · simp
    · split <;> simp
  · exact nxL_len _ _ _ _
/-- What is left of ways behind the first q. -/
def lfP (X : Nat → Nat → Int) (a s : Nat) (js : List Nat) (q : Nat) : Nat → Nat → Nat → Prop := fun i b r => i = a ∧ depV X a r s ∧ b ∈ js.drop q
theorem lfP_step {X : Nat → Nat → Int} {a s q : Nat} {js : List Nat} {j : Nat} (hj : js[q]? = some j) {i b r : Nat} (h : lfP X a s js q i b r) (hn : ¬ b = j) : lfP X a s js (q + 1) i b r := by
  obtain ⟨h1, h2, h3⟩ := h
  obtain ⟨hq, e⟩ := List.getElem?_eq_some_iff.1 hj
  rw [List.drop_eq_getElem_cons hq, List.mem_cons, e] at h3
  rcases h3 with h3 | h3
  · exact absurd h3 hn
  · exact ⟨h1, h2, h3⟩
set_option maxRecDepth 100000 in
set_option maxHeartbeats 1600000 in
theorem fhand_any (w W : World) (fb ga ac l cc rg m lk : Nat) (ca : Option Addr) (MB : Nat → Nat) (ov : Value) (E : Nat → Nat → Vl) (O : List (Nat × Nat)) (X : Nat → Nat → Int) (k a s M : Nat) (h : FlV w W fb ga ac l cc rg ca MB ov E O) (hl : l ≤ 1000) (hrg0 : 0 < rg) (hrg : rg ≤ 200) (hord : ∀ i, i < l → OrdAt w ca i (X i 0) (X i 1) (X i 2) (X i 3)) (hok : ∀ i, i < l → ordE rg m lk l (X i 0) (X i 1) (X i 2) (X i 3) = 0) (ha : a < l) (hs : s < rg)
    (hw : HdV X l rg k a s M (fun i j r => i = a ∧ depV X a r s ∧ j ∈ wyX X a (E a)) E O) :
    Calls Tryd.prog 61 #[.pointer (some ⟨fb, 0, none⟩), .agg #[.int .i64 (a : Int), .int .i64 (s : Int)]] W fun e w' => ∃ ov' E' O', e = .returned (.tuple #[]) ∧ FlV w w' fb ga ac l cc rg ca MB ov' E' O' ∧ KpF W w' fb ov ov' ∧ HdV X l rg k a s M (fun _ _ _ => False) E' O' := by
  have hE := hok a ha
  have hwr := ok_op hE
  have HJS : Hid (∀ j, j ∈ wyX X a (E a) → j ≤ l ∧ ∀ F, SolV X l rg F → j ∈ wyX X a (F a)) := fun j hj => ⟨wy_le hok ha hj, fun F hF => wy_reg hok ha (fun r hr => hw.wk.sound F hF a r (by omega) hr) hj⟩
  obtain ⟨n0, hmp0, -⟩ := h.mp a (by omega)
  obtain ⟨js, hjs⟩ : ∃ js, wyX X a (E a) = js := ⟨_, rfl⟩
  have hjlen : js.length ≤ 2 := by rw [← hjs]; exact wyX_len _ _ _
  have hwI : ∀ V, Below W.heap.size W V → Calls Tryd.prog 101 #[.agg #[.int .i64 (X a 0), .int .i64 (X a 1), .int .i64 (X a 2), .int .i64 (X a 3)], .int .i64 (a : Int), .map (some (MB a))] V fun e w' => ∃ ra rc, e = .returned (.slice ra js.length rc) ∧ Hid (SIs w' ra (js.map fun (j : Nat) => (j : Int)) ∧ Below V.heap.size V w' ∧ FrA V ra) := fun V hV =>
    (ways_any V (MB a) rg n0 m lk l (E a) (X a 0) (X a 1) (X a 2) (X a 3) a (by omega) (by omega) hE (hmp0.keep (hV.block _ hmp0.lt))).mono fun e w' ⟨ra, rc, h1, h2, h3, h4⟩ => by
      have e0 : wyI (X a 0) (X a 1) (X a 2) a (E a (X a 1).toNat) = js.map fun (j : Nat) => (j : Int) := by rw [← hjs]; rfl
      rw [e0] at h1 h2
      rw [List.length_map] at h1
      exact ⟨ra, rc, h1, h2, h3, h4⟩
  have HWY := Hid.out (p := Hid _) hwI
  rw [hjs] at hw HJS
  have HOK := Hid.out (p := Hid _) (And.intro hok hE)
  have HWR0 : Hid (∀ V, Calls Tryd.prog 67 #[.agg #[.int .i64 (X a 0), .int .i64 (X a 1), .int .i64 (X a 2), .int .i64 (X a 3)]] V fun e w' => ((∃ x, e = .returned (.tuple #[.int .i64 x, .bool true]) ∧ Hid (x = wrL (X a 0) (X a 1) (X a 2) ∧ 0 ≤ x ∧ x < rg ∧ True)) ∨ (e = .returned (.tuple #[.int .i64 0, .bool false]) ∧ Hid (wrL (X a 0) (X a 1) (X a 2) = -1))) ∧ Below V.heap.size V w') := fun V => (writes_any (X a 0) (X a 1) (X a 2) (X a 3) hwr V).mono fun e w' h => by
    obtain ⟨h1, h2⟩ := h
    rcases h1 with ⟨x, h3, h4, h5⟩ | ⟨h3, h4⟩
    · have h6 := wr_reg hE h5
      exact ⟨Or.inl ⟨x, h3, h4, by omega, by omega, True.intro⟩, h2⟩
    · exact ⟨Or.inr ⟨h3, h4⟩, h2⟩
  obtain ⟨cb, co, rfl, o0, o1, o2, o3⟩ := (hord a ha).below h.low
  obtain ⟨x0, hx0⟩ : ∃ v, X a 0 = v := ⟨_, rfl⟩
  obtain ⟨x1, hx1⟩ : ∃ v, X a 1 = v := ⟨_, rfl⟩
  obtain ⟨x2, hx2⟩ : ∃ v, X a 2 = v := ⟨_, rfl⟩
  obtain ⟨x3, hx3⟩ : ∃ v, X a 3 = v := ⟨_, rfl⟩
  have HX := Hid.out (p := Hid _) (And.intro hx0 (And.intro hx1 (And.intro hx2 hx3)))
  rw [hx0, hx1, hx2, hx3] at HWY
  rw [hx0, hx1, hx2, hx3] at HWR0
  have HWR := HWR0
  clear HWR0
  rw [hx0] at o0
  rw [hx1] at o1
  rw [hx2] at o2
  rw [hx3] at o3
  obtain ⟨mb, hmb⟩ : ∃ m, MB a = m := ⟨_, rfl⟩
  have a0 := h.at (i := a) (by omega)
  rw [hmb] at a0 HWY
  have HMB := Hid.out (p := Hid _) hmb
  have HFL := Hid.out (p := Hid _) (And.intro h hw)
  have c0 : W.cell? ⟨fb, 0, none⟩ = some (.slice (some ⟨cb, co, none⟩) l cc) := box_cell h.box rfl
  have c2 : W.cell? ⟨fb, 2, none⟩ = some (.slice (some ⟨ga, 0, none⟩) (l + 1) ac) := box_cell h.box rfl
  have haI : (a : Int) < (l : Int) := by omega
  have haJ : (a : Int) < (l : Int) + 1 := by omega
  have hal1 : a < l + 1 := by omega
  obtain ⟨W1, hW1⟩ : ∃ V, W.alloc (.cells #[.int .i64 (a : Int), .int .i64 (s : Int)] 113) = V := ⟨_, rfl⟩
  have hb1 : Below W.heap.size W W1 := by rw [← hW1]; exact low1 _ _
  have hsp : W1.heap[W.heap.size]? = some (.cells #[.int .i64 (a : Int), .int .i64 (s : Int)] 113) := by rw [← hW1]; exact heap_alloc_new _ _
  have up : ∀ {p v}, W.cell? p = some v → W1.cell? p = some v := fun hp => (hb1.cell (lt_of_cell hp)).trans hp
  have u0 := up c0
  have u2 := up c2
  have ua := up a0
  have v0 := up o0
  have v1 := up o1
  have v2 := up o2
  have v3 := up o3
  have s0 : W1.cell? ⟨W.heap.size, 0, none⟩ = some (.int .i64 (a : Int)) := box_cell hsp rfl
  have s1 : W1.cell? ⟨W.heap.size, 1, none⟩ = some (.int .i64 (s : Int)) := box_cell hsp rfl
  have u0' := fun o => cell_up u0 o
  have u2' := fun o => cell_up u2 o
  have ua' := fun o => cell_up ua o
  have v0' := fun o => cell_up v0 o
  have v1' := fun o => cell_up v1 o
  have v2' := fun o => cell_up v2 o
  have v3' := fun o => cell_up v3 o
  have s0' := fun o => cell_up s0 o
  have HW1 := Hid.out (p := Hid _) (And.intro hW1 (And.intro hb1 hsp))
  clear h hw hord hok hE hwr hmp0 hwI hx0 hx1 hx2 hx3 hmb o0 o1 o2 o3 a0 c0 c2 hW1 hb1 hsp up hjs
  go_enter Tryd.func61, Tryd.ntmps61
  go_wp2_with fail
  rw [HW1.out.1]
  go_region
  as_aux_lemma =>
    obtain ⟨W2, hW2⟩ : ∃ V, (W1.alloc (.cells #[.int .i64 x0, .int .i64 x1, .int .i64 x2, .int .i64 x3] 44)).drew = V := ⟨_, rfl⟩
    rw [hW2]
    have hb2 : Below W.heap.size W W2 := by rw [← hW2]; exact (HW1.out.2.1.alloc HW1.out.2.1.size _).drew
    have hs2 : W2.heap[W.heap.size]? = some (.cells #[.int .i64 (a : Int), .int .i64 (s : Int)] 113) := by rw [← hW2]; exact box_later HW1.out.2.2 _
    have ho2 : W2.heap[W1.heap.size]? = some (.cells #[.int .i64 x0, .int .i64 x1, .int .i64 x2, .int .i64 x3] 44) := by rw [← hW2]; exact heap_alloc_new _ _
    have hsz1 : W.heap.size ≤ W1.heap.size := HW1.out.2.1.size
    obtain ⟨sb, hsb⟩ : ∃ q, W.heap.size = q := ⟨_, rfl⟩
    obtain ⟨ob, hob⟩ : ∃ q, W1.heap.size = q := ⟨_, rfl⟩
    have HBS : Hid (fb < W.heap.size ∧ (∀ g, ov.ownBlock = some g → g < W.heap.size) ∧ W.heap.size ≤ ob ∧ sb = W.heap.size) := ⟨box_lt HFL.out.1.box, fun g hg => (HFL.out.1.op.lt g hg).2, by rw [← hob]; exact hsz1, hsb.symm⟩
    have H2 : Hid (Below W.heap.size W W2 ∧ W2.heap[sb]? = some (.cells #[.int .i64 (a : Int), .int .i64 (s : Int)] 113) ∧ W2.heap[ob]? = some (.cells #[.int .i64 x0, .int .i64 x1, .int .i64 x2, .int .i64 x3] 44)) := ⟨hb2, by rw [← hsb]; exact hs2, by rw [← hob]; exact ho2⟩
    rw [hsb, hob]
    clear hW2 hb2 hs2 ho2 hsz1 hsb hob HW1 u0 u2 ua v0 v1 v2 v3 s0 s1 u0' u2' ua' v0' v1' v2' v3' s0'
    have s0 : W2.cell? ⟨sb, 0, none⟩ = some (.int .i64 (a : Int)) := box_cell H2.out.2.1 rfl
    have t0 : W2.cell? ⟨ob, 0, none⟩ = some (.int .i64 x0) := box_cell H2.out.2.2 rfl
    have t1 : W2.cell? ⟨ob, 1, none⟩ = some (.int .i64 x1) := box_cell H2.out.2.2 rfl
    have t2 : W2.cell? ⟨ob, 2, none⟩ = some (.int .i64 x2) := box_cell H2.out.2.2 rfl
    have t3 : W2.cell? ⟨ob, 3, none⟩ = some (.int .i64 x3) := box_cell H2.out.2.2 rfl
    go_wp2_with fail
    refine Calls.mono (HWY.out _ H2.out.1) ?_
    rintro e w3 ⟨ra, rc, rfl, H3⟩
    have hb3 : Below W.heap.size W w3 := H2.out.1.trans (H3.out.2.1.mono H2.out.1.size)
    have HW3 : Hid (Below W.heap.size W w3 ∧ w3.heap[sb]? = some (.cells #[.int .i64 (a : Int), .int .i64 (s : Int)] 113) ∧ w3.heap[ob]? = some (.cells #[.int .i64 x0, .int .i64 x1, .int .i64 x2, .int .i64 x3] 44) ∧ SIs w3 ra (js.map fun (j : Nat) => (j : Int)) ∧ FrA W ra) := ⟨hb3, (H3.out.2.1.block _ (box_lt H2.out.2.1)).trans H2.out.2.1, (H3.out.2.1.block _ (box_lt H2.out.2.2)).trans H2.out.2.2, H3.out.1, H3.out.2.2.mono H2.out.1.size⟩
    have HL0 : Hid (FlV w w3 fb ga ac l cc rg (some ⟨cb, co, none⟩) MB ov E O ∧ KpF w3 w3 fb ov ov ∧ HdV X l rg k a s M (lfP X a s js 0) E O) := ⟨HFL.out.1.below hb3, KpF.refl _ _ _, HFL.out.2.mono fun i b r _ _ hp => ⟨hp.1, hp.2.1, by rw [List.drop_zero]; exact hp.2.2⟩⟩
    clear hb3 s0 t0 t1 t2 t3
    go_wp2_with fail
    go_loopw [32] (fun xv wr => ∃ (q : Nat) (ov1 : Value) (E1 : Nat → Nat → Vl) (O1 : List (Nat × Nat)), q ≤ js.length ∧ xv = .int .i64 q ∧ Hid (FlV w wr fb ga ac l cc rg (some ⟨cb, co, none⟩) MB ov1 E1 O1 ∧ KpF w3 wr fb ov ov1 ∧ HdV X l rg k a s M (lfP X a s js q) E1 O1)) (fun xv _ => js.length - (intOf xv).toNat)
    case atStart => exact ⟨0, ov, E, O, Nat.zero_le _, rfl, HL0.out⟩
    case round =>
     as_aux_lemma =>
      obtain ⟨q, ov1, E1, O1, hq, rfl, HL⟩ := hrel
      clear HL0
      by_cases hlt : q < js.length
      · have hqI : (q : Int) < (js.length : Int) := by omega
        obtain ⟨j, hj⟩ : ∃ j, js[q]? = some j := ⟨_, List.getElem?_eq_getElem hlt⟩
        obtain ⟨hjl, hjF⟩ := HJS.out j (List.mem_of_getElem? hj)
        obtain ⟨rb, ro, rfl, hrc⟩ := HW3.out.2.2.2.1 q (by rw [List.length_map]; exact hlt)
        have hgd : (js.map fun (j : Nat) => (j : Int)).getD q 0 = (j : Int) := by simp [List.getD, hj]
        rw [hgd] at hrc
        have hbs := HBS.out
        have hrb : W.heap.size ≤ rb := HW3.out.2.2.2.2 rb ro rfl
        have kc : ∀ {b o v}, W.heap.size ≤ b → w3.cell? ⟨b, o, none⟩ = some v → wr.cell? ⟨b, o, none⟩ = some v := fun hb hc => HL.out.2.1.cell hc (by omega) (fun e => by have := hbs.2.1 _ e; omega)
        have n0 : wr.cell? ⟨rb, ro + q, none⟩ = some (.int .i64 (j : Int)) := kc hrb hrc
        have s0 : wr.cell? ⟨sb, 0, none⟩ = some (.int .i64 (a : Int)) := kc (by omega) (box_cell HW3.out.2.1 rfl)
        have s1 : wr.cell? ⟨sb, 1, none⟩ = some (.int .i64 (s : Int)) := kc (by omega) (box_cell HW3.out.2.1 rfl)
        have t0 : wr.cell? ⟨ob, 0, none⟩ = some (.int .i64 x0) := kc hbs.2.2.1 (box_cell HW3.out.2.2.1 rfl)
        have t1 : wr.cell? ⟨ob, 1, none⟩ = some (.int .i64 x1) := kc hbs.2.2.1 (box_cell HW3.out.2.2.1 rfl)
        have t2 : wr.cell? ⟨ob, 2, none⟩ = some (.int .i64 x2) := kc hbs.2.2.1 (box_cell HW3.out.2.2.1 rfl)
        have t3 : wr.cell? ⟨ob, 3, none⟩ = some (.int .i64 x3) := kc hbs.2.2.1 (box_cell HW3.out.2.2.1 rfl)
        obtain ⟨n1, hmp1, -⟩ := HL.out.1.mp a (by omega)
        -- what comes to j of s
        have hB1 : ∀ V, Below wr.heap.size wr V → Calls Tryd.prog 102 #[.agg #[.int .i64 x0, .int .i64 x1, .int .i64 x2, .int .i64 x3], .map (some mb), .int .i64 (s : Int)] V fun e w' => e = .returned (.agg #[.int .i64 ((bhV X a (E1 a) s).st : Int), .int .i64 (bhV X a (E1 a) s).nb]) ∧ Below V.heap.size V w' := fun V hV => by
          have h0 := behind_opt V (MB a) rg n1 m lk l (E1 a) (X a 0) (X a 1) (X a 2) (X a 3) s hs hrg0 (by omega) HOK.out.2 (hmp1.keep (hV.block _ hmp1.lt))
          rw [HX.out.1, HX.out.2.1, HX.out.2.2.1, HX.out.2.2.2, HMB.out] at h0
          have e0 : (if wrL x0 x1 x2 = (s : Int) then mkV x0 x2 x3 (E1 a) else E1 a s) = bhV X a (E1 a) s := by
            unfold bhV wrX
            rw [HX.out.1, HX.out.2.1, HX.out.2.2.1, HX.out.2.2.2]
          rw [e0] at h0
          exact h0
        obtain ⟨bv, hbv⟩ : ∃ v, bhV X a (E1 a) s = v := ⟨_, rfl⟩
        rw [hbv] at hB1
        have HB1 := Hid.out (p := Hid _) hB1
        have HG1 := HL.out.2.2.give HOK.out.1 ha hs hs hjl hjF
        rw [hbv] at HG1
        have HC1 : Hid (Calls Tryd.prog 102 #[.agg #[.int .i64 x0, .int .i64 x1, .int .i64 x2, .int .i64 x3], .map (some mb), .int .i64 (s : Int)] wr.drew fun e w' => e = .returned (.agg #[.int .i64 (bv.st : Int), .int .i64 bv.nb]) ∧ Hid (Below wr.heap.size wr w') ∧ w'.cell? ⟨sb, 0, none⟩ = some (.int .i64 (a : Int)) ∧ w'.cell? ⟨sb, 1, none⟩ = some (.int .i64 (s : Int)) ∧ w'.cell? ⟨ob, 0, none⟩ = some (.int .i64 x0) ∧ w'.cell? ⟨ob, 1, none⟩ = some (.int .i64 x1) ∧ w'.cell? ⟨ob, 2, none⟩ = some (.int .i64 x2) ∧ w'.cell? ⟨ob, 3, none⟩ = some (.int .i64 x3)) :=
          (HB1.out _ (Below.refl _ _).drew).mono fun e w' ⟨h1, h2⟩ => by
            have hb : Below wr.heap.size wr w' := (Below.refl _ _).drew.trans h2
            exact ⟨h1, hb, (hb.cell (lt_of_cell s0)).trans s0, (hb.cell (lt_of_cell s1)).trans s1, (hb.cell (lt_of_cell t0)).trans t0, (hb.cell (lt_of_cell t1)).trans t1, (hb.cell (lt_of_cell t2)).trans t2, (hb.cell (lt_of_cell t3)).trans t3⟩
        have HM1 : Hid (∀ V, Below wr.heap.size wr V → Calls Tryd.prog 59 #[.pointer (some ⟨fb, 0, none⟩), .agg #[.int .i64 (j : Int), .int .i64 (s : Int)], .agg #[.int .i64 (bv.st : Int), .int .i64 bv.nb]] V fun e w' => ∃ ov2, e = .returned (.tuple #[]) ∧ Hid (FlV w w' fb ga ac l cc rg (some ⟨cb, co, none⟩) MB ov2 (updE E1 j s ((E1 j s).meet bv)) (newO E1 j s bv O1) ∧ KpF w3 w' fb ov ov2) ∧ w'.cell? ⟨sb, 0, none⟩ = some (.int .i64 (a : Int)) ∧ w'.cell? ⟨sb, 1, none⟩ = some (.int .i64 (s : Int)) ∧ w'.cell? ⟨ob, 0, none⟩ = some (.int .i64 x0) ∧ w'.cell? ⟨ob, 1, none⟩ = some (.int .i64 x1) ∧ w'.cell? ⟨ob, 2, none⟩ = some (.int .i64 x2) ∧ w'.cell? ⟨ob, 3, none⟩ = some (.int .i64 x3)) := fun V hV =>
          (fmeet_any w V fb ga ac l cc rg (some ⟨cb, co, none⟩) MB ov1 E1 O1 (HL.out.1.below hV) j s hjl hs hrg bv).mono fun e w' ⟨ov2, h1, h2, h3⟩ => by
            have hk : KpF w3 w' fb ov ov2 := HL.out.2.1.trans ((KpF.low hV).trans h3)
            have kd : ∀ {b o v}, W.heap.size ≤ b → w3.cell? ⟨b, o, none⟩ = some v → w'.cell? ⟨b, o, none⟩ = some v := fun hb hc => hk.cell hc (by omega) (fun e => by have := hbs.2.1 _ e; omega)
            exact ⟨ov2, h1, ⟨h2, hk⟩, kd (by omega) (box_cell HW3.out.2.1 rfl), kd (by omega) (box_cell HW3.out.2.1 rfl), kd hbs.2.2.1 (box_cell HW3.out.2.2.1 rfl), kd hbs.2.2.1 (box_cell HW3.out.2.2.1 rfl), kd hbs.2.2.1 (box_cell HW3.out.2.2.1 rfl), kd hbs.2.2.1 (box_cell HW3.out.2.2.1 rfl)⟩
        have HG2 := Hid.out (p := Hid _) HG1
        have HJQ := Hid.out (p := Hid _) (And.intro hj (And.intro hjl hjF))
        clear HG1 hB1 hbv hmp1 kc hrc hgd hbs hrb hj hjF
        go_wp2_with fail
        go_region_held3 (fun w' => w'.cell? ⟨sb, 0, none⟩ = some (.int .i64 (a : Int)) ∧ w'.cell? ⟨sb, 1, none⟩ = some (.int .i64 (s : Int)) ∧ w'.cell? ⟨ob, 0, none⟩ = some (.int .i64 x0) ∧ w'.cell? ⟨ob, 1, none⟩ = some (.int .i64 x1) ∧ w'.cell? ⟨ob, 2, none⟩ = some (.int .i64 x2) ∧ w'.cell? ⟨ob, 3, none⟩ = some (.int .i64 x3)) (refine ⟨?_, ?_, ?_, ?_, ?_, ?_⟩ <;> (repeat (first | (with_reducible assumption) | (with_reducible refine cell_drw ?_)))) ((first | (go_at_call 102; with_reducible refine Calls.mono HC1.out ?_; rintro e w4 ⟨rfl, HB4, j0, j1, j2, j3, j4, j5⟩) | (go_at_call 59; with_reducible refine Calls.mono (HM1.out _ HB4.out) ?_; rintro e w5 ⟨ov2, rfl, H5, k0, k1, k2, k3, k4, k5⟩)))
        clear HC1 HM1 HB1 n0 s0 s1 t0 t1 t2 t3 j0 j1 j2 j3 j4 j5 HB4
        have H5' : Hid (HdV X l rg k a s M (fun i b r => lfP X a s js q i b r ∧ ¬ (i = a ∧ b = j ∧ r = s)) (updE E1 j s ((E1 j s).meet bv)) (newO E1 j s bv O1)) := HG2.out
        obtain ⟨E2, hE2⟩ : ∃ E2, updE E1 j s ((E1 j s).meet bv) = E2 := ⟨_, rfl⟩
        obtain ⟨O2, hO2⟩ : ∃ O2, newO E1 j s bv O1 = O2 := ⟨_, rfl⟩
        rw [hE2, hO2] at H5 H5'
        clear HG2 hE2 hO2
        go_wp2_with fail
        refine Calls.mono (HWR.out _) ?_
        rintro e w6 ⟨h6, hb6⟩
        have H6 := Hid.out (p := Hid _) (And.intro hb6 (And.intro (H5.out.1.below hb6) (H5.out.2.trans (KpF.low hb6))))
        have m0 := (hb6.cell (lt_of_cell k0)).trans k0
        have m1 := (hb6.cell (lt_of_cell k1)).trans k1
        have m2 := (hb6.cell (lt_of_cell k2)).trans k2
        have m3 := (hb6.cell (lt_of_cell k3)).trans k3
        have m4 := (hb6.cell (lt_of_cell k4)).trans k4
        have m5 := (hb6.cell (lt_of_cell k5)).trans k5
        clear hb6 k0 k1 k2 k3 k4 k5
        rcases h6 with ⟨wx, rfl, hwx⟩ | ⟨rfl, hwx⟩
        · obtain ⟨wn, hwn⟩ : ∃ wn : Nat, wx = wn := ⟨wx.toNat, by have := hwx.out.2.1; omega⟩
          subst hwn
          have hwl : wn < rg := by have := hwx.out.2.2.1; omega
          obtain ⟨n2, hmp2, -⟩ := H6.out.2.1.mp a (by omega)
          obtain ⟨bw, hbw⟩ : ∃ v, bhV X a (E2 a) wn = v := ⟨_, rfl⟩
          have HB2 : Hid (Calls Tryd.prog 102 #[.agg #[.int .i64 x0, .int .i64 x1, .int .i64 x2, .int .i64 x3], .map (some mb), .int .i64 (wn : Int)] w6 fun e w' => e = .returned (.agg #[.int .i64 (bw.st : Int), .int .i64 bw.nb]) ∧ Below w6.heap.size w6 w') := by
            have h0 := behind_opt w6 (MB a) rg n2 m lk l (E2 a) (X a 0) (X a 1) (X a 2) (X a 3) wn hwl hrg0 (by omega) HOK.out.2 hmp2
            rw [HX.out.1, HX.out.2.1, HX.out.2.2.1, HX.out.2.2.2, HMB.out] at h0
            have e0 : (if wrL x0 x1 x2 = (wn : Int) then mkV x0 x2 x3 (E2 a) else E2 a wn) = bw := by
              rw [← hbw]
              unfold bhV wrX
              rw [HX.out.1, HX.out.2.1, HX.out.2.2.1, HX.out.2.2.2]
            rw [e0] at h0
            exact h0
          have HG3 := H5'.out.give HOK.out.1 ha hs hwl HJQ.out.2.1 HJQ.out.2.2
          rw [hbw] at HG3
          have HG4 := Hid.out (p := Hid _) HG3
          have hx15 : (x0 == 15) = false := by
            have h15 : ¬ x0 = 15 := fun e => by
              have h1 := hwx.out.1
              rw [e] at h1
              have h2 : wrL 15 x1 x2 = -1 := rfl
              omega
            simpa using h15
          clear HG3 hbw hmp2
          go_wp2_with fail
          refine Calls.mono HB2.out ?_
          rintro e w7 ⟨rfl, hb7⟩
          have HM7 := Hid.out (p := Hid _) (fmeet_any w w7 fb ga ac l cc rg (some ⟨cb, co, none⟩) MB ov2 E2 O2 (H6.out.2.1.below hb7) j wn HJQ.out.2.1 hwl hrg bw)
          have HK7 := Hid.out (p := Hid _) (H6.out.2.2.trans (KpF.low hb7))
          clear hb7 m0 m1 m2 m3 m4 m5 HB2
          go_wp2_with fail
          refine Calls.mono HM7.out ?_
          rintro e w8 ⟨ov3, rfl, h8, k8⟩
          have hk8 : KpF w3 w8 fb ov ov3 := HK7.out.trans k8
          have hbs := HBS.out
          have kd : ∀ {b o v}, W.heap.size ≤ b → w3.cell? ⟨b, o, none⟩ = some v → w8.cell? ⟨b, o, none⟩ = some v := fun hb hc => hk8.cell hc (by omega) (fun e => by have := hbs.2.1 _ e; omega)
          have m0 : w8.cell? ⟨ob, 0, none⟩ = some (.int .i64 x0) := kd hbs.2.2.1 (box_cell HW3.out.2.2.1 rfl)
          have HN : Hid (FlV w w8 fb ga ac l cc rg (some ⟨cb, co, none⟩) MB ov3 (updE E2 j wn ((E2 j wn).meet bw)) (newO E2 j wn bw O2) ∧ KpF w3 w8 fb ov ov3 ∧ HdV X l rg k a s M (lfP X a s js (q + 1)) (updE E2 j wn ((E2 j wn).meet bw)) (newO E2 j wn bw O2)) := by
            refine ⟨h8, hk8, HG4.out.mono fun i b r _ _ hp => lfP_step HJQ.out.1 hp.1.1 fun eb => ?_⟩
            obtain ⟨⟨⟨h1, h2, _⟩, h3⟩, h4⟩ := hp
            rcases h2 with h2 | h2 | h2
            · exact h3 ⟨h1, eb, h2⟩
            · refine h4 ⟨h1, eb, ?_⟩
              have h5 := hwx.out.1
              unfold wrX at h2
              rw [HX.out.1, HX.out.2.1, HX.out.2.2.1] at h2
              omega
            · have h5 := h2.1
              rw [HX.out.1] at h5
              rw [h5] at hx15
              cases hx15
          clear h8 k8 hk8 kd hbs HM7 HK7 HG4 H6
          go_wp2_with fail
          go_roundw
          case rel => exact ⟨q + 1, ov3, _, _, by omega, by go_num, HN.out⟩
          case measure => simp [intOf]; omega
        · have hone : ∀ {b : Nat}, b = j → ∀ r, depV X a r s → r ≠ s → X a 0 = 15 ∧ (X a 1).toNat = s := fun _ r hd hr => by
            rcases hd with h2 | h2 | h2
            · exact absurd h2 hr
            · exfalso
              have h5 := hwx.out
              unfold wrX at h2
              rw [HX.out.1, HX.out.2.1, HX.out.2.2.1] at h2
              omega
            · exact h2
          by_cases hz : x0 = 15 ∧ x1 = (s : Int)
          · obtain ⟨hz0, hz1⟩ := hz
            subst hz0
            subst hz1
            have hbhE : ∀ (F : Nat → Nat → Vl) r, bhV X a (F a) r = F a r := fun F r => by
              unfold bhV wrX
              rw [HX.out.1, HX.out.2.1, HX.out.2.2.1, hwx.out, if_neg (by omega)]
            have HFA := Hid.out (p := Hid _) (fall_any w w6 fb ga ac l cc rg (some ⟨cb, co, none⟩) MB ov2 E2 O2 H6.out.2.1 a j (by omega) HJQ.out.2.1 hrg (fun r0 F P => HdV X l rg k a s M (fun i b r => (lfP X a s js q i b r ∧ ¬ (i = a ∧ b = j ∧ r = s)) ∧ ¬ (i = a ∧ b = j ∧ r < r0)) F P) (H5'.out.mono fun i b r _ _ hp => ⟨hp, fun h => by omega⟩) (fun r0 F P hr0 hZ => by
              have hg := hZ.give HOK.out.1 ha hs hr0 HJQ.out.2.1 HJQ.out.2.2
              rw [hbhE] at hg
              exact hg.mono fun i b r _ _ hp => ⟨hp.1.1, fun h => by
                by_cases er : r < r0
                · exact hp.1.2 ⟨h.1, h.2.1, er⟩
                · exact hp.2 ⟨h.1, h.2.1, by omega⟩⟩))
            rw [HMB.out] at HFA
            go_wp2_with fail
            refine Calls.mono HFA.out ?_
            rintro e w8 ⟨ov3, E3, O3, rfl, h8, k8, z8⟩
            have HN : Hid (FlV w w8 fb ga ac l cc rg (some ⟨cb, co, none⟩) MB ov3 E3 O3 ∧ KpF w3 w8 fb ov ov3 ∧ HdV X l rg k a s M (lfP X a s js (q + 1)) E3 O3) := by
              refine ⟨h8, H6.out.2.2.trans k8, z8.mono fun i b r _ hr hp => lfP_step HJQ.out.1 hp.1.1 fun eb => ?_⟩
              exact hp.2 ⟨hp.1.1.1, eb, hr⟩
            clear h8 k8 z8 HFA H6
            go_wp2_with fail
            go_roundw
            case rel => exact ⟨q + 1, ov3, _, _, by omega, by go_num, HN.out⟩
            case measure => simp [intOf]; omega
          · have HN : Hid (FlV w w6 fb ga ac l cc rg (some ⟨cb, co, none⟩) MB ov2 E2 O2 ∧ KpF w3 w6 fb ov ov2 ∧ HdV X l rg k a s M (lfP X a s js (q + 1)) E2 O2) := by
              refine ⟨H6.out.2.1, H6.out.2.2, H5'.out.mono fun i b r _ _ hp => lfP_step HJQ.out.1 hp.1 fun eb => ?_⟩
              by_cases er : r = s
              · exact hp.2 ⟨hp.1.1, eb, er⟩
              · have hd := hp.1.2.1
                obtain ⟨h1, h2⟩ := hone eb r hd er
                rw [HX.out.1] at h1
                have h3 := (ok_zero (by have h4 := HOK.out.2; rw [HX.out.1, h1] at h4; exact h4)).1
                rw [HX.out.2.1] at h2 h3
                exact hz ⟨h1, by omega⟩
            have hz' : x0 = 15 → (x1 == (s : Int)) = false := fun e => by
              have : ¬ x1 = (s : Int) := fun e2 => hz ⟨e, e2⟩
              simpa using this
            clear hz
            by_cases h15 : x0 = 15
            · have hz2 := hz' h15
              subst h15
              go_wp2_with fail
              go_roundw
              case rel => exact ⟨q + 1, ov2, _, _, by omega, by go_num, HN.out⟩
              case measure => simp [intOf]; omega
            · have h15' : (x0 == 15) = false := by simpa using h15
              go_wp2_with fail
              go_roundw
              case rel => exact ⟨q + 1, ov2, _, _, by omega, by go_num, HN.out⟩
              case measure => simp [intOf]; omega
      · obtain rfl : q = js.length := by omega
        go_wp2_with fail
        go_end0
        refine ⟨ov1, E1, O1, rfl, HL.out.1, (KpF.low HW3.out.1).trans HL.out.2.1, HL.out.2.2.mono fun i b r _ _ hp => ?_⟩
        have := hp.2.2
        rw [List.drop_length] at this
        cases this

end Go.Proofs.YtkailbdjilkneaaDoor
