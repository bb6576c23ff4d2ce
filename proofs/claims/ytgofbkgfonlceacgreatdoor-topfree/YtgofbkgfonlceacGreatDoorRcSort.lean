/-
  Which of two clashes comes first, by the program; clashes are sorted.
  All clashes that were noted down, rising, by the program.
-/
import Derived.Test.YtgofbkgfonlceacGreatDoorOcComp2
import Derived.Test.YtgofbkgfonlceacGreatDoorOcCmp
import Derived.Maps.RangeWalk
namespace Go.Proofs.YtgofbkgfonlceacGreatDoor
section
open Go.RowKit Go.Sort Go.Shelf

/-- The first that is not nought. -/
def orL : List Int → Int
  | [] => 0
  | a :: l => if a ≠ 0 then a else orL l
theorem orL_zero : ∀ {l : List Int}, (∀ j, j < l.length → l.getD j 0 = 0) → orL l = 0
  | [], _ => rfl
  | a :: l, h => by
    have h0 : a = 0 := h 0 (by simp)
    unfold orL
    rw [if_neg (by simpa using h0)]
    exact orL_zero fun j hj => h (j + 1) (by simpa using hj)
theorem orL_at : ∀ {l : List Int} {k : Nat}, k < l.length → (∀ j, j < k → l.getD j 0 = 0) → l.getD k 0 ≠ 0 → orL l = l.getD k 0
  | [], k, h, _, _ => absurd h (Nat.not_lt_zero _)
  | a :: l, 0, _, _, h => by
    have h' : a ≠ 0 := h
    unfold orL
    rw [if_pos h']
    rfl
  | a :: l, k + 1, hk, hz, h => by
    have h0 : a = 0 := hz 0 (by omega)
    unfold orL
    rw [if_neg (by simpa using h0)]
    exact orL_at (by simpa using hk) (fun j hj => hz (j + 1) (by omega)) h
set_option maxRecDepth 100000 in
set_option maxHeartbeats 1600000 in
theorem orL_any (g c : Nat) (l : List Int) (w : World) (hl : l.length ≤ 100) (h : ∀ k, k < l.length → w.cell? ⟨g, k, none⟩ = some (.int .i64 (l.getD k 0))) :
    Calls Tryz.prog 54 #[.slice (some ⟨g, 0, none⟩) l.length c] w fun e w' => e = .returned (.int .i64 (orL l)) ∧ w' = w := by
  have HV := Hid.out (p := Hid _) h
  obtain ⟨R, hR⟩ : ∃ R, orL l = R := ⟨_, rfl⟩
  have HR : Hid (orL l = R) := hR
  obtain ⟨n, hn⟩ : ∃ n, l.length = n := ⟨_, rfl⟩
  have HN : Hid (l.length = n) := hn
  rw [hR, hn]
  rw [hn] at HV hl
  clear hR h hn
  go_enter Tryz.func54, Tryz.ntmps54
  go_wp2
  go_loop [8] (fun i => ∃ k : Nat, k ≤ n ∧ i = .int .i64 k ∧ Hid (∀ j, j < k → l.getD j 0 = 0)) (fun i => n - (intOf i).toNat)
  case atStart => exact ⟨0, by omega, rfl, fun j hj => absurd hj (Nat.not_lt_zero _)⟩
  case round =>
    obtain ⟨k, hk, rfl, HZ⟩ := hrel
    by_cases hlt : k < n
    · have hc := HV.out k hlt
      obtain ⟨u, hu⟩ : ∃ u, l.getD k 0 = u := ⟨_, rfl⟩
      have HU : Hid (l.getD k 0 = u) := hu
      rw [hu] at hc
      clear hu
      by_cases hz : u = 0
      · subst hz
        have HZ2 : Hid (∀ j, j < k + 1 → l.getD j 0 = 0) := fun j hj => by
          rcases Nat.lt_or_ge j k with h | h
          · exact HZ.out j h
          · obtain rfl : j = k := by omega
            exact HU.out
        clear HZ HU
        go_wp2
        go_round
        case rel => exact ⟨k + 1, by omega, by go_num, HZ2⟩
        case measure => simp [intOf]; omega
      · have hz' : (u != 0) = true := by simpa using hz
        have HE : Hid (u = R) := by
          show _ = _
          have := orL_at (by rw [HN.out]; exact hlt) HZ.out (by rw [HU.out]; exact hz)
          rw [HR.out, HU.out] at this
          exact this.symm
        go_wp2
        go_ret
        exact ⟨by rw [← HE.out]; rfl, rfl⟩
    · have HE : Hid (0 = R) := by
        show _ = _
        rw [← HR.out]
        exact (orL_zero fun j hj => HZ.out j (by rw [HN.out] at hj; omega)).symm
      go_wp2
      go_ret
      exact ⟨by rw [← HE.out]; rfl, rfl⟩
theorem cmpL_or {x0 x1 x2 x3 x4 y0 y1 y2 y3 y4 : Int} : cmpL [x0, x1, x2, x3, x4] [y0, y1, y2, y3, y4] = orL [cmpI x0 y0, cmpI x1 y1, cmpI x2 y2, cmpI x3 y3, cmpI x4 y4] := rfl
set_option maxRecDepth 100000 in
set_option maxHeartbeats 3200000 in
theorem rcmp_any (w : World) (x0 x1 x2 x3 x4 y0 y1 y2 y3 y4 : Int) :
    Calls Tryz.prog 53 #[clV x0 x1 x2 x3 x4, clV y0 y1 y2 y3 y4] w fun e w' => e = .returned (.int .i64 (cmpL [x0, x1, x2, x3, x4] [y0, y1, y2, y3, y4])) ∧ ∃ q os', w' = grow (w.drewN q) os' := by
  rw [cmpL_or]
  have HC : Hid (∀ a b W, Calls Tryz.prog 55 #[.int .i64 a, .int .i64 b] W fun e w' => e = .returned (.int .i64 (cmpI a b)) ∧ w' = W) := fun a b W => ccmp_any a b W
  obtain ⟨c0, h0⟩ : ∃ c, cmpI x0 y0 = c := ⟨_, rfl⟩
  obtain ⟨c1, h1⟩ : ∃ c, cmpI x1 y1 = c := ⟨_, rfl⟩
  obtain ⟨c2, h2⟩ : ∃ c, cmpI x2 y2 = c := ⟨_, rfl⟩
  obtain ⟨c3, h3⟩ : ∃ c, cmpI x3 y3 = c := ⟨_, rfl⟩
  obtain ⟨c4, h4⟩ : ∃ c, cmpI x4 y4 = c := ⟨_, rfl⟩
  have HC0 : Hid (∀ W, Calls Tryz.prog 55 #[.int .i64 x0, .int .i64 y0] W fun e w' => e = .returned (.int .i64 c0) ∧ w' = W) := fun W => by rw [← h0]; exact ccmp_any _ _ W
  have HC1 : Hid (∀ W, Calls Tryz.prog 55 #[.int .i64 x1, .int .i64 y1] W fun e w' => e = .returned (.int .i64 c1) ∧ w' = W) := fun W => by rw [← h1]; exact ccmp_any _ _ W
  have HC2 : Hid (∀ W, Calls Tryz.prog 55 #[.int .i64 x2, .int .i64 y2] W fun e w' => e = .returned (.int .i64 c2) ∧ w' = W) := fun W => by rw [← h2]; exact ccmp_any _ _ W
  have HC3 : Hid (∀ W, Calls Tryz.prog 55 #[.int .i64 x3, .int .i64 y3] W fun e w' => e = .returned (.int .i64 c3) ∧ w' = W) := fun W => by rw [← h3]; exact ccmp_any _ _ W
  have HC4 : Hid (∀ W, Calls Tryz.prog 55 #[.int .i64 x4, .int .i64 y4] W fun e w' => e = .returned (.int .i64 c4) ∧ w' = W) := fun W => by rw [← h4]; exact ccmp_any _ _ W
  rw [h0, h1, h2, h3, h4]
  obtain ⟨R, hR⟩ : ∃ R, orL [c0, c1, c2, c3, c4] = R := ⟨_, rfl⟩
  have HOR : Hid (∀ g W, W.cell? ⟨g, 0, none⟩ = some (.int .i64 c0) → W.cell? ⟨g, 1, none⟩ = some (.int .i64 c1) → W.cell? ⟨g, 2, none⟩ = some (.int .i64 c2) → W.cell? ⟨g, 3, none⟩ = some (.int .i64 c3) → W.cell? ⟨g, 4, none⟩ = some (.int .i64 c4) → Calls Tryz.prog 54 #[.slice (some ⟨g, 0, none⟩) 5 5] W fun e w' => e = .returned (.int .i64 R) ∧ w' = W) := fun g W k0 k1 k2 k3 k4 => by
    rw [← hR]
    exact orL_any g 5 [c0, c1, c2, c3, c4] W (by simp) fun k hk => by
      match k, hk with
      | 0, _ => exact k0
      | 1, _ => exact k1
      | 2, _ => exact k2
      | 3, _ => exact k3
      | 4, _ => exact k4
  rw [hR]
  clear h0 h1 h2 h3 h4 hR HC
  go_enter Tryz.func53, Tryz.ntmps53
  go_wp2_with fail
  refine region_tail 25 (by kernel_rfl) (by kernel_rfl) ?_
  simp only [List.take_succ_cons, List.take_zero, List.drop_succ_cons, List.drop_zero]
  repeat still_step
  still_call (HC0.out _)
  repeat still_step
  still_call (HC1.out _)
  repeat still_step
  still_call (HC2.out _)
  repeat still_step
  still_call (HC3.out _)
  repeat still_step
  still_call (HC4.out _)
  repeat still_step
  refine wpStill_nil ?_
  go_wp2_with fail
  refine Calls.mono (HOR.out _ _ (by go_simp) (by go_simp) (by go_simp) (by go_simp) (by go_simp)) ?_
  rintro e w1 ⟨rfl, rfl⟩
  go_wp2_with fail
  go_ret
  exact ⟨rfl, 1, #[.cells #[.int .i64 x0, .int .i64 x1, .int .i64 x2, .int .i64 x3, .int .i64 x4] 97, .cells #[.int .i64 y0, .int .i64 y1, .int .i64 y2, .int .i64 y3, .int .i64 y4] 97, .cells #[.int .i64 c0, .int .i64 c1, .int .i64 c2, .int .i64 c3, .int .i64 c4] 3], by rw [alloc_eq_grow, alloc_eq_grow, alloc_eq_grow, grow_grow, grow_grow]; rfl⟩
/-- A clash: five numbers. -/
abbrev C5 : Type := {l : List Int // l.length = 5}
instance : Inhabited C5 := ⟨⟨[0, 0, 0, 0, 0], rfl⟩⟩
abbrev encC (x : C5) : List Value := intsV x.1
abbrev cmpC (x y : C5) : Int := cmpL x.1 y.1
theorem cmpLays_cl (w : World) (blk n : Nat) : CmpLays Tryz.prog 53 #[] encC 5 cmpC blk 0 n w := fun m os dk _ x y => by
  obtain ⟨x, hx⟩ := x
  obtain ⟨y, hy⟩ := y
  obtain ⟨x0, x1, x2, x3, x4, rfl⟩ := len5 hx
  obtain ⟨y0, y1, y2, y3, y4, rfl⟩ := len5 hy
  exact rcmp_any (sortWorldK encC 5 w blk 0 m dk os) x0 x1 x2 x3 x4 y0 y1 y2 y3 y4
theorem ltC (x y : C5) : ltOf cmpC x y = lexL x.1 y.1 := by
  unfold ltOf
  rw [Bool.eq_iff_iff, decide_eq_true_iff]
  exact cmpL_lex.1
theorem swo_cl : SWO (ltOf cmpC) where
  irrefl x := by rw [ltC]; exact lex_irr _
  trans x y z h1 h2 := by rw [ltC] at *; exact lex_trans h1 h2
  ntrans x y z h1 h2 := by
    rw [ltC] at *
    cases h3 : lexL x.1 z.1 with
    | false => rfl
    | true =>
      cases h4 : lexL y.1 x.1 with
      | false =>
        have e := lex_tri h1 h4
        rw [e] at h3
        rw [h3] at h2; cases h2
      | true =>
        have := lex_trans h4 h3
        rw [this] at h2; cases h2
theorem flat_cls (d : Array C5) : (flatK encC 5 d).toList = intsV (d.toList.map Subtype.val).flatten := by
  refine List.ext_getElem? fun k => ?_
  have h5 : ∀ x, x ∈ d.toList.map Subtype.val → x.length = 5 := fun x hx => by
    obtain ⟨y, _, rfl⟩ := List.mem_map.mp hx
    exact y.2
  by_cases hk : k < d.size * 5
  · have hq : k / 5 < d.size := by omega
    rw [Array.getElem?_toList, Array.getElem?_eq_getElem (by rw [size_flatK]; exact hk)]
    have h1 := get_flatK encC 5 d k hk
    rw [getElem!_pos _ k (by rw [size_flatK]; exact hk)] at h1
    rw [h1]
    have h2 := flat_at (l := d.toList.map Subtype.val) (i := k / 5) (j := k % 5) h5 (by simpa using hq) (by omega)
    rw [show k / 5 * 5 + k % 5 = k by omega] at h2
    rw [h2, getElem!_pos d (k / 5) hq]
    have e : (d.toList.map Subtype.val).getD (k / 5) [] = d[k / 5].1 := by
      rw [List.getD_eq_getElem?_getD, List.getElem?_map, Array.getElem?_toList, Array.getElem?_eq_getElem hq]
      rfl
    rw [e]
    have h3 : k % 5 < (intsV d[k / 5].1).length := by
      have := d[k / 5].2
      simp [intsV]; omega
    rw [show (encC d[k / 5])[k % 5]! = (intsV d[k / 5].1)[k % 5] from getElem!_pos (intsV d[k / 5].1) (k % 5) h3]
    have h4 := intsV_at (l := d[k / 5].1) (i := k % 5) (by have := d[k / 5].2; omega)
    rw [List.getElem?_eq_getElem h3] at h4
    exact h4
  · have hl : (intsV (d.toList.map Subtype.val).flatten).length ≤ k := by
      have : ∀ l : List (List Int), (∀ x, x ∈ l → x.length = 5) → (intsV l.flatten).length = l.length * 5 := fun l => by
        induction l with
        | nil => intro _; rfl
        | cons a r ih =>
          intro h
          have h1 := ih fun x hx => h x (by simp [hx])
          have h2 := h a (by simp)
          simp [intsV] at h1 ⊢
          omega
      rw [this _ h5]
      simp
      omega
    rw [Array.getElem?_toList, Array.getElem?_eq_none (by rw [size_flatK]; omega), List.getElem?_eq_none hl]
set_option maxRecDepth 100000 in
/-- slices.SortFunc of clashes. -/
theorem sortC_any (w : World) (B : Nat) (a : Option Addr) (c : Nat) (l : List (List Int)) (h : IsC w B a l.length c l) (hB : B ≤ w.heap.size) (hl : l.length ≤ 100000) (h0 : 0 < l.length) :
    Calls Tryz.prog 52 #[.slice a l.length c, .func (.func 53) #[] #[]] w fun e w' => e = .returned (.tuple #[]) ∧ ∃ l', l'.Perm l ∧ l'.Pairwise (fun x y => lexL y x = false) ∧ IsC w' B a l.length c l' ∧ Srt B w w' a := by
  obtain ⟨g, cap, h1, h2, h3, h4⟩ := fam_block h.own h0
  simp only [Value.slice.injEq, true_and] at h1
  obtain ⟨rfl, h5⟩ := h1
  obtain ⟨d, hd⟩ : ∃ d : Array C5, d.toList.map Subtype.val = l := ⟨(l.pmap Subtype.mk h.five).toArray, by simp [List.map_pmap]⟩
  have hds : d.size = l.length := by rw [← hd]; simp
  have hH : HoldsK encC 5 w g 0 d := fun j hj => by
    have hf := flat_cls d
    rw [hd] at hf
    have e1 : (intsV l.flatten)[j]? = some (flatK encC 5 d)[j]! := by
      rw [← hf, Array.getElem?_toList, Array.getElem?_eq_getElem hj, getElem!_pos _ j hj]
    rw [Nat.zero_add]
    refine ⟨fam_cell h.own h2 e1, ?_⟩
    exact fam_frozen h.own h2 j
  have hcon := AnyQ.slices_SortFunc (P := Tryz.prog) Tryz.sortCl 5 Tryz.isAgg97 Tryz.sizeOf97 encC (fun x => by simp [encC, intsV, x.2]) (fun x v hv => by
    simp only [encC, intsV, List.mem_map] at hv
    obtain ⟨z, _, rfl⟩ := hv
    rfl) cmpC swo_cl 53 #[] g 0 c d w (enters_of Tryz.func53 (by kernel_rfl) rfl) (cmpLays_cl w g d.size) hH h4 (by omega)
  rw [hds] at hcon
  refine Calls.mono hcon ?_
  rintro e w' ⟨rfl, d', n, os, hp, hs, rfl⟩
  have hsz : d'.size = l.length := by rw [hp.1, hds]
  refine ⟨rfl, d'.toList.map Subtype.val, ?_, ?_, ⟨by simp [hsz], fun x hx => ?_, ?_⟩, ⟨?_, ?_⟩⟩
  · have := hp.2.2
    rw [← hds, Array.extract_size] at this
    rw [← hd]
    have e2 : d'.extract 0 d.size = d' := by rw [← hp.1, Array.extract_size]
    rw [e2] at this
    exact this.map _
  · rw [List.pairwise_map, List.pairwise_iff_getElem]
    intro i j hi hj hij
    have h7 := hs i j (Nat.zero_le _) hij (by simpa [hsz] using hj)
    rw [ltC, getElem!_pos d' i (by simpa using hi), getElem!_pos d' j (by simpa using hj)] at h7
    simpa using h7
  · obtain ⟨y, _, rfl⟩ := List.mem_map.mp hx
    exact y.2
  · have h6 := own_put h.own (flatK encC 5 d') (by rw [size_flatK, hsz]) n os
    rw [flat_cls] at h6
    exact h6
  · refine ⟨rfl, rfl, rfl, ?_, fun k hk => ?_⟩
    · unfold sortWorldK
      rw [size_grow, size_putRowK]
      exact Nat.le_add_right _ _
    · unfold sortWorldK putRowK
      rw [heap_grow_old _ _ (by rw [Go.Sort.size_putRow]; exact Nat.lt_of_lt_of_le hk hB)]
      unfold putRow mapBlock
      simp only [Array.getElem?_modify, if_neg (show g ≠ k by omega)]
      rfl
  · intro k hk hne
    have hne' : g ≠ k := hne _ rfl
    unfold sortWorldK putRowK
    rw [heap_grow_old _ _ (by rw [Go.Sort.size_putRow]; exact hk)]
    unfold putRow mapBlock
    simp only [Array.getElem?_modify, if_neg hne']
    rfl
end

section
open Go.RowKit Go.Sort Go.Shelf

theorem sortCJ_any (w : World) (B : Nat) (a : Option Addr) (c : Nat) (l : List (List Int)) (h : IsC w B a l.length c l) (hB : B ≤ w.heap.size) (hl : l.length ≤ 100000) :
    Calls Tryz.prog 52 #[.slice a l.length c, .func (.func 53) #[] #[]] w fun e w' => e = .returned (.tuple #[]) ∧ ∃ l', l'.Perm l ∧ l'.Pairwise (fun x y => lexL y x = false) ∧ IsC w' B a l.length c l' ∧ Below B w w' := by
  rcases Nat.eq_zero_or_pos l.length with h0 | h0
  · have he : l = [] := List.eq_nil_of_length_eq_zero h0
    subst he
    refine Calls.mono (AnyF.slices_SortFunc_none Tryz.sortCl a c _ w) ?_
    rintro e w' ⟨rfl, rfl⟩
    exact ⟨rfl, [], List.Perm.refl _, List.Pairwise.nil, h, Below.refl _ _⟩
  · refine Calls.mono (sortC_any w B a c l h hB hl h0) ?_
    rintro e w' ⟨rfl, l', h1, h2, h3, h4⟩
    exact ⟨rfl, l', h1, h2, h3, h4.below⟩
theorem sorted_of {l l' : List (List Int)} (hp : l'.Perm l) (hn : l.Nodup) (hs : l'.Pairwise (fun x y => lexL y x = false)) : SortedL l' := by
  have hn' : l'.Nodup := hp.nodup_iff.mpr hn
  unfold SortedL
  have := List.Pairwise.and hs hn'
  refine this.imp fun {x y} h => ?_
  cases e : lexL x y with
  | true => rfl
  | false => exact absurd (lex_tri e h.1) h.2
theorem unit_inv (v : Value) (y : DataW Unit × List MemPlace) (h : unitElem v = some y) : ∃ _c : Unit, v = .agg #[] := ⟨(), (unitElem_inv h).1⟩
theorem ranges_low {P : Program} {k : TypeId} {R : Value → Option (DataW Unit × List MemPlace)} {w w' : World} {B b r n : Nat} {D : DataW Unit} {left : Lit → Bool} {cnt : Nat} (h : w.ranges P k R b r n D left cnt) (hb : Below B w w') (h1 : b < B) (h2 : r < B) : w'.ranges P k R b r n D left cnt := by
  obtain ⟨es, clock, since, seen, c0, e1, F, hs, hD, hr, rest⟩ := h
  exact ⟨es, clock, since, seen, c0, (hb.block b h1).trans e1, F, hs, hD, (hb.block r h2).trans hr, rest⟩
attribute [local go_sem ↓] appS_eq
set_option maxRecDepth 100000 in
set_option maxHeartbeats 6400000 in
theorem rising_any (w : World) (fm k : Nat) (P : List Int → Prop) (hS : SetC w fm k P) (hk : k ≤ 80000) :
    Calls Tryz.prog 23 #[.map (some fm)] w fun e w' => ∃ a cap l, e = .returned (.slice a l.length cap) ∧ IsC w' w.heap.size a l.length cap l ∧ SortedL l ∧ (∀ c, c ∈ l ↔ P c) ∧ Below w.heap.size w w' := by
  obtain ⟨n, D, hn, hown, hhas⟩ := hS.own
  have hbl := hown.lt
  have HS : Hid ((∀ l, Maps.has D l = true ↔ ∃ c, P c ∧ clL c = l) ∧ (∀ c, P c → c.length = 5) ∧ (∀ c, P c → ∀ x, x ∈ c → (Lit.int .i64 x).wf = true) ∧ Maps.size D ≤ n ∧ n ≤ 80000) := ⟨hhas, hS.five, hS.wf, hown.size_le, by omega⟩
  have HM := Hid.out (p := Hid _) hown
  clear hS hhas hown
  go_enter Tryz.func23, Tryz.ntmps23
  go_wp2_with (first
    | (at_range; refine wpList_range_own _ rfl _ 53 rfl 97 95 clKeyed Tryz.underlying53 _ fm n _ rfl HM.out ?_; intro w0 hrg0 hg0 hs0)
    | go_in)
  go_frame
  have HB0 : Hid (Below w.heap.size w w0 ∧ w0.heap.size = w.heap.size + 1) := ⟨(Below.refl _ _).grown hg0 (Nat.le_refl _) (fun j hj => by cases hj), hs0⟩
  have HSORT : Hid (∀ W a c l, IsC W (w.heap.size + 1) a l.length c l → w.heap.size + 1 ≤ W.heap.size → l.length ≤ 100000 → l.Nodup → Calls Tryz.prog 52 #[.slice a l.length c, .func (.func 53) #[] #[]] W fun e w' => e = .returned (.tuple #[]) ∧ ∃ l', l'.length = l.length ∧ SortedL l' ∧ (∀ x, x ∈ l' ↔ x ∈ l) ∧ IsC w' (w.heap.size + 1) a l.length c l' ∧ Below (w.heap.size + 1) W w') := fun W a c l h1 h2 h3 h4 => by
    refine Calls.mono (sortCJ_any W _ a c l h1 h2 h3) ?_
    rintro e w' ⟨he, l', g1, g2, g3, g4⟩
    exact ⟨he, l', g1.length_eq, sorted_of g1 h4 g2, fun x => g1.mem_iff, g3, g4⟩
  clear hg0 hs0
  go_loopw [3] (fun o wr => ∃ (left : Lit → Bool) (cnt : Nat) (a : Option Addr) (c : Nat) (l : List (List Int)), o = .slice a l.length c ∧ wr.ranges Tryz.prog 97 (unitElem (H := Unit)) fm w.heap.size n D left cnt ∧ Hid (IsC wr (w.heap.size + 1) a l.length c l ∧ l.Nodup ∧ (∀ x, x ∈ l ↔ P x ∧ left (clL x) = false) ∧ (∀ kl, left kl = true → Maps.has D kl = true) ∧ l.length + cnt ≤ Maps.size D ∧ Below w.heap.size w wr ∧ w.heap.size + 1 ≤ wr.heap.size)) (fun _ wr => wr.rangeLeft fm w.heap.size)
  case atStart =>
    refine ⟨_, _, none, 0, [], rfl, hrg0, ⟨IsC.nil _ _, List.nodup_nil, fun x => ⟨fun h => (by cases h), fun ⟨h1, h2⟩ => ?_⟩, fun _ h => h, by simp, HB0.out.1, by rw [HB0.out.2]; exact Nat.le_refl _⟩⟩
    have := (HS.out.1 (clL x)).mpr ⟨x, h1, rfl⟩
    rw [this] at h2
    cases h2
  case round =>
    obtain ⟨left, cnt, a, c, l, rfl, hrg, HI⟩ := hrel
    obtain ⟨len, hlen⟩ : ∃ z, l.length = z := ⟨_, rfl⟩
    have HLN : Hid (l.length = len) := hlen
    rw [hlen] at HI ⊢
    clear hlen
    go_wp2_with (first
      | (at_next; refine wpList_next_ranges (α := Value) (β := Unit) _ rfl _ rfl 97 clKeyed _ id (fun _ => .agg #[]) (fun key kl _ => ⟨key, rfl⟩) unit_inv fm w.heap.size n _ _ _ rfl hrg ?_ ?_)
      | go_in)
    · intro hc0 hl0
      have HP : Hid (∀ x, x ∈ l ↔ P x) := fun x => by
        rw [HI.out.2.2.1 x, hl0]
        exact ⟨fun h => h.1, fun h => ⟨h, rfl⟩⟩
      have HSO : Hid (Calls Tryz.prog 52 #[.slice a len c, .func (.func 53) #[] #[]] wr fun e w' => e = .returned (.tuple #[]) ∧ ∃ l', l'.length = l.length ∧ SortedL l' ∧ (∀ x, x ∈ l' ↔ x ∈ l) ∧ IsC w' (w.heap.size + 1) a len c l' ∧ Below (w.heap.size + 1) wr w') := by
        have h1 := HI.out.1
        have h2 := HSORT.out wr a c l (by rw [HLN.out]; exact h1) HI.out.2.2.2.2.2.2 (by have := HI.out.2.2.2.2.1; have := HS.out.2.2.2; have := HLN.out; omega) HI.out.2.1
        rw [HLN.out] at h2
        rw [HLN.out]
        exact h2
      clear hrg hl0 hc0 HSORT
      go_wp2_with fail
      refine Calls.mono HSO.out ?_
      rintro e w2 ⟨rfl, l', g1, g2, g3, g4, g5⟩
      have HR : Hid (l'.length = len ∧ IsC w2 w.heap.size a len c l' ∧ SortedL l' ∧ (∀ x, x ∈ l' ↔ P x) ∧ Below w.heap.size w w2) := ⟨g1.trans HLN.out, ⟨g4.is, g4.five, own_low g4.own (Nat.le_succ _)⟩, g2, fun x => (g3 x).trans (HP.out x), HI.out.2.2.2.2.2.1.trans (g5.mono (Nat.le_succ _))⟩
      clear g1 g2 g3 g4 g5 HSO
      go_wp2
      go_ret
      exact ⟨a, c, l', by rw [HR.out.1]; rfl, by rw [HR.out.1]; exact HR.out.2.1, HR.out.2.2.1, HR.out.2.2.2.1, HR.out.2.2.2.2⟩
    · intro x kl yd yp w1 cnt1 hkey hlk hv hat hrg1 hlt hg1 hs1 hen
      obtain ⟨ck, hPc, hck⟩ := (HS.out.1 kl).mp (HI.out.2.2.2.1 kl hlk)
      have hw5 := HS.out.2.2.1 ck hPc
      obtain ⟨x0, x1, x2, x3, x4, rfl⟩ := len5 (HS.out.2.1 ck hPc)
      have hkey2 := clKey (hw5 x0 (by simp)) (hw5 x1 (by simp)) (hw5 x2 (by simp)) (hw5 x3 (by simp)) (hw5 x4 (by simp))
      rw [hck] at hkey2
      obtain rfl : x = clV x0 x1 x2 x3 x4 := clKeyed.inj hkey hkey2
      have hr1 : w.heap.size ≠ fm := by omega
      have hI1 : IsC w1 (w.heap.size + 1) a len c l := ⟨HI.out.1.is, HI.out.1.five, fam_keeps HI.out.1.own (fun g hg => hg1.block g (HI.out.1.own.lt g hg).2 (fun e => by
        injection e with e
        have := (HI.out.1.own.lt g hg).1
        omega))⟩
      have hB1 : Below w.heap.size w w1 := HI.out.2.2.2.2.2.1.grown hg1 HI.out.2.2.2.2.2.1.size (fun j hj => by injection hj with hj; omega)
      have hlen : len ≤ 80000 := by have := HI.out.2.2.2.2.1; have := HS.out.2.2.2; have := HLN.out; omega
      have hnew : [x0, x1, x2, x3, x4] ∉ l := fun hm => by
        have := ((HI.out.2.2.1 _).mp hm).2
        rw [hck, hlk] at this
        cases this
      have hkk : WideAt.IsKeyLit kl := clKeyed.key hkey2
      have HMEM : Hid (∀ z, z ∈ l ++ [[x0, x1, x2, x3, x4]] ↔ P z ∧ (left (clL z) && !(clL z).sameKey kl) = false) := fun z => by
        rw [List.mem_append, HI.out.2.2.1 z, List.mem_singleton]
        constructor
        · rintro (⟨h1, h2⟩ | rfl)
          · exact ⟨h1, by rw [h2]; rfl⟩
          · exact ⟨hPc, by rw [hck, WideAt.sameKey_self hkk]; simp⟩
        · rintro ⟨h1, h2⟩
          cases hl : left (clL z) with
          | false => exact Or.inl ⟨h1, rfl⟩
          | true =>
            rw [hl] at h2
            have h3 : (clL z).sameKey kl = true := by simpa using h2
            refine Or.inr (clL_inj (HS.out.2.1 z h1) rfl (HS.out.2.2.1 z h1) hw5 ?_)
            rw [hck]
            exact WideAt.sameKey_eq h3
      have HND : Hid ((l ++ [[x0, x1, x2, x3, x4]]).Nodup) := by
        show List.Nodup _
        rw [List.nodup_append]
        exact ⟨HI.out.2.1, by simp, fun a ha b hb e => by rw [List.mem_singleton.mp hb] at e; rw [e] at ha; exact hnew ha⟩
      have HLF : Hid (∀ kl', (left kl' && !kl'.sameKey kl) = true → Maps.has D kl' = true) := fun kl' h => HI.out.2.2.2.1 kl' (by simp only [Bool.and_eq_true] at h; exact h.1)
      have HCT : Hid (len + 1 + cnt1 ≤ Maps.size D) := by show _ ≤ _; have := HI.out.2.2.2.2.1; omega
      have HLT := Hid.out (p := Hid _) (And.intro hlt hrg.left_eq)
      have HN1 : Hid (Below w.heap.size w w1 ∧ w.heap.size + 1 ≤ w1.heap.size) := ⟨hB1, by rw [hs1]; exact HI.out.2.2.2.2.2.2⟩
      have hen' : (Instr.entry (.pointer (some ⟨w.heap.size, 0, none⟩))).run Tryz.prog w1 = .ok (.tuple #[clV x0 x1 x2 x3 x4, .agg #[]]) w1 := hen
      clear hkey hkey2 hv hat hw5 hPc hck hnew hlt hen hlk hkk
      have hrg2 : ∀ W, Below (w.heap.size + 1) w1 W → W.ranges Tryz.prog 97 (unitElem (H := Unit)) fm w.heap.size n D (fun z => left z && !z.sameKey kl) cnt1 := fun W hW => ranges_low hrg1 hW (by omega) (by omega)
      have HRG := Hid.out (p := Hid _) hrg2
      have HI1 := Hid.out (p := Hid _) hI1
      have hsz1 := HN1.out.2
      have hbV : Below w1.heap.size w1 (w1.alloc (.cells #[.int .i64 x0, .int .i64 x1, .int .i64 x2, .int .i64 x3, .int .i64 x4] 97)) := (Below.refl _ _).alloc (Nat.le_refl _) _
      obtain ⟨g, cap, w3, hrun, HP⟩ := HI1.out.push (w0 := w1) hbV hsz1 (by omega) x0 x1 x2 x3 x4 (hbV.mono hsz1)
      rw [World.size_alloc] at hrun
      have hl1 : (l ++ [[x0, x1, x2, x3, x4]]).length = len + 1 := by rw [List.length_append, HLN.out]; rfl
      have HLN2 := Hid.out (p := Hid _) hl1
      clear hrg2 hrg1 hI1 hB1 hg1 hs1 hr1 hrg hbV hl1
      go_wp2
      go_roundw
      case rel => exact ⟨_, cnt1, some ⟨g, 0, none⟩, cap, l ++ [[x0, x1, x2, x3, x4]], by rw [HLN2.out], HRG.out _ HP.out.2, by rw [HLN2.out]; exact HP.out.1, HND.out, HMEM.out, HLF.out, by rw [HLN2.out]; exact HCT.out, HN1.out.1.trans ((HP.out.2.mono (Nat.le_succ _))), Nat.le_trans HN1.out.2 HP.out.2.size⟩
      case measure =>
        rw [(HRG.out _ HP.out.2).left_eq, HLT.out.2]
        exact HLT.out.1
end

end Go.Proofs.YtgofbkgfonlceacGreatDoor
