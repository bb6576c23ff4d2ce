/-
  A clash, into its place, once, by the document.
  Which of two clashes comes first, by the program; clashes are sorted.
  Clashes as keys of a map.
  Whether two lists of outcomes are the same, by the program: slices.EqualFunc.
-/
import Derived.Test.YtipdnfpomdcenacGreatDoorRcP
import Derived.Test.YtipdnfpomdcenacGreatDoorRDoP
import Derived.Test.YtipdnfpomdcenacGreatDoorOcCmp
import Derived.Test.YtipdnfpomdcenacGreatDoorRcTp
import Derived.Test.YtipdnfpomdcenacGreatDoorWCome2
import Derived.DeepKeys4
import Derived.Maps.OwnSet
import Derived.Test.YtipdnfpomdcenacGreatDoorRcTd
namespace Go.Proofs.YtipdnfpomdcenacGreatDoor
section
open Go.RowKit

/-- A clash, as it is handed on. -/
abbrev clV (x0 x1 x2 x3 x4 : Int) : Value := .agg #[.int .i64 x0, .int .i64 x1, .int .i64 x2, .int .i64 x3, .int .i64 x4]
/-- A list of clashes that is being made. -/
structure IsC (w : World) (B : Nat) (a : Option Addr) (len c : Nat) (l : List (List Int)) : Prop where
  is : l.length = len
  five : ∀ x, x ∈ l → x.length = 5
  own : w.ownsRow B 78 5 (.slice a len c) len (intsV l.flatten)
theorem IsC.nil (w : World) (B : Nat) : IsC w B none 0 0 [] := ⟨rfl, fun x hx => (by cases hx), World.ownsRow_nil _ _ _ _⟩
theorem len5 : ∀ {x : List Int}, x.length = 5 → ∃ x0 x1 x2 x3 x4, x = [x0, x1, x2, x3, x4]
  | [a, b, c, d, e], _ => ⟨a, b, c, d, e, rfl⟩
theorem flat_at : ∀ {l : List (List Int)} {i j : Nat}, (∀ x, x ∈ l → x.length = 5) → i < l.length → j < 5 → (intsV l.flatten)[i * 5 + j]? = some (.int .i64 ((l.getD i []).getD j 0))
  | [], i, j, _, h, _ => absurd h (Nat.not_lt_zero _)
  | x :: l, 0, j, h5, _, hj => by
    obtain ⟨x0, x1, x2, x3, x4, rfl⟩ := len5 (h5 x (by simp))
    match j, hj with
    | 0, _ => rfl
    | 1, _ => rfl
    | 2, _ => rfl
    | 3, _ => rfl
    | 4, _ => rfl
  | x :: l, i + 1, j, h5, hi, hj => by
    have ih := flat_at (l := l) (i := i) (j := j) (fun y hy => h5 y (by simp [hy])) (by simpa using hi) hj
    obtain ⟨x0, x1, x2, x3, x4, rfl⟩ := len5 (h5 x (by simp))
    rw [show (i + 1) * 5 + j = i * 5 + j + 1 + 1 + 1 + 1 + 1 by omega]
    exact ih
theorem infoClash : (Tryz.prog.info? 78).map (fun i => (i.zero, i.size, i.bytes)) = some (some (.agg #[.int .i64 0, .int .i64 0, .int .i64 0, .int .i64 0, .int .i64 0]), 5, 40) := by kernel_rfl
theorem IsC.push {w0 w W : World} {B : Nat} {a : Option Addr} {len c : Nat} {l : List (List Int)} (h : IsC w B a len c l) (hb : Below w.heap.size w W) (hB : B ≤ w.heap.size) (hlen : len ≤ 100000) (x0 x1 x2 x3 x4 : Int) (h0 : Below B w0 W) :
    ∃ g cap w3, (AppS #[27, 27] 27 #[.slice a len c, .slice (some ⟨W.heap.size, 0, none⟩) 1 1]).run Tryz.prog (W.alloc (.cells #[.int .i64 x0, .int .i64 x1, .int .i64 x2, .int .i64 x3, .int .i64 x4] 78)) = .ok (.slice (some ⟨g, 0, none⟩) (len + 1) cap) w3 ∧ Hid (IsC w3 B (some ⟨g, 0, none⟩) (len + 1) cap (l ++ [[x0, x1, x2, x3, x4]]) ∧ Below B w0 w3) := by
  obtain ⟨g, cap, w3, r1, r2, r3, _⟩ := app_row (T := 27) Tryz.underlying27 infoClash rfl (by omega) h.own hb hB 1 #[.int .i64 x0, .int .i64 x1, .int .i64 x2, .int .i64 x3, .int .i64 x4] rfl (by simp [Value.oneCell']) (by omega) (by omega) (by omega)
  have hBW := Nat.le_trans hB hb.size
  have e : intsV l.flatten ++ #[Value.int .i64 x0, .int .i64 x1, .int .i64 x2, .int .i64 x3, .int .i64 x4].toList = intsV (l ++ [[x0, x1, x2, x3, x4]]).flatten := by simp [intsV]
  exact ⟨g, cap, w3, r1, ⟨by simp [h.is], fun x hx => by
    rcases List.mem_append.mp hx with hx | hx
    · exact h.five x hx
    · rw [List.mem_singleton.mp hx]; rfl, by rw [← e]; exact r2⟩, (h0.alloc hBW _).grown r3 (by simp; omega) (fun k hk => (h.own.lt k hk).1)⟩
attribute [local go_sem ↓] appS_eq
end

section
open Go.RowKit Go.Sort Go.Shelf

/-- The first that is not nought. -/
def orL : List Int → Int
  | [] => 0
  | a :: l => if a ≠ 0 then a else orL l
theorem orL_zero : ∀ {l : List Int}, (∀ j, j < l.length → l.getD j 0 = 0) → orL l = 0
  | [], _ => rfl
  | a :: l, h => by
    have h0 : a = 0 := h 0 (by simp)
    unfold orL
    rw [if_neg (by simpa using h0)]
    exact orL_zero fun j hj => h (j + 1) (by simpa using hj)
theorem orL_at : ∀ {l : List Int} {k : Nat}, k < l.length → (∀ j, j < k → l.getD j 0 = 0) → l.getD k 0 ≠ 0 → orL l = l.getD k 0
  | [], k, h, _, _ => absurd h (Nat.not_lt_zero _)
  | a :: l, 0, _, _, h => by
    have h' : a ≠ 0 := h
    unfold orL
    rw [if_pos h']
    rfl
  | a :: l, k + 1, hk, hz, h => by
    have h0 : a = 0 := hz 0 (by omega)
    unfold orL
    rw [if_neg (by simpa using h0)]
    exact orL_at (by simpa using hk) (fun j hj => hz (j + 1) (by omega)) h
set_option maxRecDepth 100000 in
set_option maxHeartbeats 1600000 in
theorem orL_any (g c : Nat) (l : List Int) (w : World) (hl : l.length ≤ 100) (h : ∀ k, k < l.length → w.cell? ⟨g, k, none⟩ = some (.int .i64 (l.getD k 0))) :
    Calls Tryz.prog 40 #[.slice (some ⟨g, 0, none⟩) l.length c] w fun e w' => e = .returned (.int .i64 (orL l)) ∧ w' = w := by
  have HV := Hid.out (p := Hid _) h
  obtain ⟨R, hR⟩ : ∃ R, orL l = R := ⟨_, rfl⟩
  have HR : Hid (orL l = R) := hR
  obtain ⟨n, hn⟩ : ∃ n, l.length = n := ⟨_, rfl⟩
  have HN : Hid (l.length = n) := hn
  rw [hR, hn]
  rw [hn] at HV hl
  clear hR h hn
  go_enter Tryz.func40, Tryz.ntmps40
  go_wp2
  go_loop [8] (fun i => ∃ k : Nat, k ≤ n ∧ i = .int .i64 k ∧ Hid (∀ j, j < k → l.getD j 0 = 0)) (fun i => n - (intOf i).toNat)
  case atStart => exact ⟨0, by omega, rfl, fun j hj => absurd hj (Nat.not_lt_zero _)⟩
  case round =>
    obtain ⟨k, hk, rfl, HZ⟩ := hrel
    by_cases hlt : k < n
    · have hc := HV.out k hlt
      obtain ⟨u, hu⟩ : ∃ u, l.getD k 0 = u := ⟨_, rfl⟩
      have HU : Hid (l.getD k 0 = u) := hu
      rw [hu] at hc
      clear hu
      by_cases hz : u = 0
      · subst hz
        have HZ2 : Hid (∀ j, j < k + 1 → l.getD j 0 = 0) := fun j hj => by
          rcases Nat.lt_or_ge j k with h | h
          · exact HZ.out j h
          · obtain rfl : j = k := by omega
            exact HU.out
        clear HZ HU
        go_wp2
        go_round
        case rel => exact ⟨k + 1, by omega, by go_num, HZ2⟩
        case measure => simp [intOf]; omega
      · have hz' : (u != 0) = true := by simpa using hz
        have HE : Hid (u = R) := by
          show _ = _
          have := orL_at (by rw [HN.out]; exact hlt) HZ.out (by rw [HU.out]; exact hz)
          rw [HR.out, HU.out] at this
          exact this.symm
        go_wp2
        go_ret
        exact ⟨by rw [← HE.out]; rfl, rfl⟩
    · have HE : Hid (0 = R) := by
        show _ = _
        rw [← HR.out]
        exact (orL_zero fun j hj => HZ.out j (by rw [HN.out] at hj; omega)).symm
      go_wp2
      go_ret
      exact ⟨by rw [← HE.out]; rfl, rfl⟩
theorem cmpL_or {x0 x1 x2 x3 x4 y0 y1 y2 y3 y4 : Int} : cmpL [x0, x1, x2, x3, x4] [y0, y1, y2, y3, y4] = orL [cmpI x0 y0, cmpI x1 y1, cmpI x2 y2, cmpI x3 y3, cmpI x4 y4] := rfl
set_option maxRecDepth 100000 in
set_option maxHeartbeats 3200000 in
theorem rcmp_any (w : World) (x0 x1 x2 x3 x4 y0 y1 y2 y3 y4 : Int) :
    Calls Tryz.prog 39 #[clV x0 x1 x2 x3 x4, clV y0 y1 y2 y3 y4] w fun e w' => e = .returned (.int .i64 (cmpL [x0, x1, x2, x3, x4] [y0, y1, y2, y3, y4])) ∧ ∃ q os', w' = grow (w.drewN q) os' := by
  rw [cmpL_or]
  have HC : Hid (∀ a b W, Calls Tryz.prog 41 #[.int .i64 a, .int .i64 b] W fun e w' => e = .returned (.int .i64 (cmpI a b)) ∧ w' = W) := fun a b W => ccmp_any a b W
  obtain ⟨c0, h0⟩ : ∃ c, cmpI x0 y0 = c := ⟨_, rfl⟩
  obtain ⟨c1, h1⟩ : ∃ c, cmpI x1 y1 = c := ⟨_, rfl⟩
  obtain ⟨c2, h2⟩ : ∃ c, cmpI x2 y2 = c := ⟨_, rfl⟩
  obtain ⟨c3, h3⟩ : ∃ c, cmpI x3 y3 = c := ⟨_, rfl⟩
  obtain ⟨c4, h4⟩ : ∃ c, cmpI x4 y4 = c := ⟨_, rfl⟩
  have HC0 : Hid (∀ W, Calls Tryz.prog 41 #[.int .i64 x0, .int .i64 y0] W fun e w' => e = .returned (.int .i64 c0) ∧ w' = W) := fun W => by rw [← h0]; exact ccmp_any _ _ W
  have HC1 : Hid (∀ W, Calls Tryz.prog 41 #[.int .i64 x1, .int .i64 y1] W fun e w' => e = .returned (.int .i64 c1) ∧ w' = W) := fun W => by rw [← h1]; exact ccmp_any _ _ W
  have HC2 : Hid (∀ W, Calls Tryz.prog 41 #[.int .i64 x2, .int .i64 y2] W fun e w' => e = .returned (.int .i64 c2) ∧ w' = W) := fun W => by rw [← h2]; exact ccmp_any _ _ W
  have HC3 : Hid (∀ W, Calls Tryz.prog 41 #[.int .i64 x3, .int .i64 y3] W fun e w' => e = .returned (.int .i64 c3) ∧ w' = W) := fun W => by rw [← h3]; exact ccmp_any _ _ W
  have HC4 : Hid (∀ W, Calls Tryz.prog 41 #[.int .i64 x4, .int .i64 y4] W fun e w' => e = .returned (.int .i64 c4) ∧ w' = W) := fun W => by rw [← h4]; exact ccmp_any _ _ W
  rw [h0, h1, h2, h3, h4]
  obtain ⟨R, hR⟩ : ∃ R, orL [c0, c1, c2, c3, c4] = R := ⟨_, rfl⟩
  have HOR : Hid (∀ g W, W.cell? ⟨g, 0, none⟩ = some (.int .i64 c0) → W.cell? ⟨g, 1, none⟩ = some (.int .i64 c1) → W.cell? ⟨g, 2, none⟩ = some (.int .i64 c2) → W.cell? ⟨g, 3, none⟩ = some (.int .i64 c3) → W.cell? ⟨g, 4, none⟩ = some (.int .i64 c4) → Calls Tryz.prog 40 #[.slice (some ⟨g, 0, none⟩) 5 5] W fun e w' => e = .returned (.int .i64 R) ∧ w' = W) := fun g W k0 k1 k2 k3 k4 => by
    rw [← hR]
    exact orL_any g 5 [c0, c1, c2, c3, c4] W (by simp) fun k hk => by
      match k, hk with
      | 0, _ => exact k0
      | 1, _ => exact k1
      | 2, _ => exact k2
      | 3, _ => exact k3
      | 4, _ => exact k4
  rw [hR]
  clear h0 h1 h2 h3 h4 hR HC
  go_enter Tryz.func39, Tryz.ntmps39
  go_wp2_with fail
  refine region_tail 25 (by kernel_rfl) (by kernel_rfl) ?_
  simp only [List.take_succ_cons, List.take_zero, List.drop_succ_cons, List.drop_zero]
  repeat still_step
  still_call (HC0.out _)
  repeat still_step
  still_call (HC1.out _)
  repeat still_step
  still_call (HC2.out _)
  repeat still_step
  still_call (HC3.out _)
  repeat still_step
  still_call (HC4.out _)
  repeat still_step
  refine wpStill_nil ?_
  go_wp2_with fail
  refine Calls.mono (HOR.out _ _ (by go_simp) (by go_simp) (by go_simp) (by go_simp) (by go_simp)) ?_
  rintro e w1 ⟨rfl, rfl⟩
  go_wp2_with fail
  go_ret
  exact ⟨rfl, 1, #[.cells #[.int .i64 x0, .int .i64 x1, .int .i64 x2, .int .i64 x3, .int .i64 x4] 78, .cells #[.int .i64 y0, .int .i64 y1, .int .i64 y2, .int .i64 y3, .int .i64 y4] 78, .cells #[.int .i64 c0, .int .i64 c1, .int .i64 c2, .int .i64 c3, .int .i64 c4] 3], by rw [alloc_eq_grow, alloc_eq_grow, alloc_eq_grow, grow_grow, grow_grow]; rfl⟩
/-- A clash: five numbers. -/
abbrev C5 : Type := {l : List Int // l.length = 5}
instance : Inhabited C5 := ⟨⟨[0, 0, 0, 0, 0], rfl⟩⟩
abbrev encC (x : C5) : List Value := intsV x.1
abbrev cmpC (x y : C5) : Int := cmpL x.1 y.1
theorem cmpLays_cl (w : World) (blk n : Nat) : CmpLays Tryz.prog 39 #[] encC 5 cmpC blk 0 n w := fun m os dk _ x y => by
  obtain ⟨x, hx⟩ := x
  obtain ⟨y, hy⟩ := y
  obtain ⟨x0, x1, x2, x3, x4, rfl⟩ := len5 hx
  obtain ⟨y0, y1, y2, y3, y4, rfl⟩ := len5 hy
  exact rcmp_any (sortWorldK encC 5 w blk 0 m dk os) x0 x1 x2 x3 x4 y0 y1 y2 y3 y4
theorem ltC (x y : C5) : ltOf cmpC x y = lexL x.1 y.1 := by
  unfold ltOf
  rw [Bool.eq_iff_iff, decide_eq_true_iff]
  exact cmpL_lex.1
theorem swo_cl : SWO (ltOf cmpC) where
  irrefl x := by rw [ltC]; exact lex_irr _
  trans x y z h1 h2 := by rw [ltC] at *; exact lex_trans h1 h2
  ntrans x y z h1 h2 := by
    rw [ltC] at *
    cases h3 : lexL x.1 z.1 with
    | false => rfl
    | true =>
      cases h4 : lexL y.1 x.1 with
      | false =>
        have e := lex_tri h1 h4
        rw [e] at h3
        rw [h3] at h2; cases h2
      | true =>
        have := lex_trans h4 h3
        rw [this] at h2; cases h2
theorem flat_cls (d : Array C5) : (flatK encC 5 d).toList = intsV (d.toList.map Subtype.val).flatten := by
  refine List.ext_getElem? fun k => ?_
  have h5 : ∀ x, x ∈ d.toList.map Subtype.val → x.length = 5 := fun x hx => by
    obtain ⟨y, _, rfl⟩ := List.mem_map.mp hx
    exact y.2
  by_cases hk : k < d.size * 5
  · have hq : k / 5 < d.size := by omega
    rw [Array.getElem?_toList, Array.getElem?_eq_getElem (by rw [size_flatK]; exact hk)]
    have h1 := get_flatK encC 5 d k hk
    rw [getElem!_pos _ k (by rw [size_flatK]; exact hk)] at h1
    rw [h1]
    have h2 := flat_at (l := d.toList.map Subtype.val) (i := k / 5) (j := k % 5) h5 (by simpa using hq) (by omega)
    rw [show k / 5 * 5 + k % 5 = k by omega] at h2
    rw [h2, getElem!_pos d (k / 5) hq]
    have e : (d.toList.map Subtype.val).getD (k / 5) [] = d[k / 5].1 := by
      rw [List.getD_eq_getElem?_getD, List.getElem?_map, Array.getElem?_toList, Array.getElem?_eq_getElem hq]
      rfl
    rw [e]
    have h3 : k % 5 < (intsV d[k / 5].1).length := by
      have := d[k / 5].2
      simp [intsV]; omega
    rw [show (encC d[k / 5])[k % 5]! = (intsV d[k / 5].1)[k % 5] from getElem!_pos (intsV d[k / 5].1) (k % 5) h3]
    have h4 := intsV_at (l := d[k / 5].1) (i := k % 5) (by have := d[k / 5].2; omega)
    rw [List.getElem?_eq_getElem h3] at h4
    exact h4
  · have hl : (intsV (d.toList.map Subtype.val).flatten).length ≤ k := by
      have : ∀ l : List (List Int), (∀ x, x ∈ l → x.length = 5) → (intsV l.flatten).length = l.length * 5 := fun l => by
        induction l with
        | nil => intro _; rfl
        | cons a r ih =>
          intro h
          have h1 := ih fun x hx => h x (by simp [hx])
          have h2 := h a (by simp)
          simp [intsV] at h1 ⊢
          omega
      rw [this _ h5]
      simp
      omega
    rw [Array.getElem?_toList, Array.getElem?_eq_none (by rw [size_flatK]; omega), List.getElem?_eq_none hl]
set_option maxRecDepth 100000 in
/-- slices.SortFunc of clashes. -/
theorem sortC_any (w : World) (B : Nat) (a : Option Addr) (c : Nat) (l : List (List Int)) (h : IsC w B a l.length c l) (hB : B ≤ w.heap.size) (hl : l.length ≤ 100000) (h0 : 0 < l.length) :
    Calls Tryz.prog 38 #[.slice a l.length c, .func (.func 39) #[] #[]] w fun e w' => e = .returned (.tuple #[]) ∧ ∃ l', l'.Perm l ∧ l'.Pairwise (fun x y => lexL y x = false) ∧ IsC w' B a l.length c l' ∧ Srt B w w' a := by
  obtain ⟨g, cap, h1, h2, h3, h4⟩ := fam_block h.own h0
  simp only [Value.slice.injEq, true_and] at h1
  obtain ⟨rfl, h5⟩ := h1
  obtain ⟨d, hd⟩ : ∃ d : Array C5, d.toList.map Subtype.val = l := ⟨(l.pmap Subtype.mk h.five).toArray, by simp [List.map_pmap]⟩
  have hds : d.size = l.length := by rw [← hd]; simp
  have hH : HoldsK encC 5 w g 0 d := fun j hj => by
    have hf := flat_cls d
    rw [hd] at hf
    have e1 : (intsV l.flatten)[j]? = some (flatK encC 5 d)[j]! := by
      rw [← hf, Array.getElem?_toList, Array.getElem?_eq_getElem hj, getElem!_pos _ j hj]
    rw [Nat.zero_add]
    refine ⟨fam_cell h.own h2 e1, ?_⟩
    exact fam_frozen h.own h2 j
  have hcon := AnyQ.slices_SortFunc (P := Tryz.prog) Tryz.sortCl 5 Tryz.isAgg78 Tryz.sizeOf78 encC (fun x => by simp [encC, intsV, x.2]) (fun x v hv => by
    simp only [encC, intsV, List.mem_map] at hv
    obtain ⟨z, _, rfl⟩ := hv
    rfl) cmpC swo_cl 39 #[] g 0 c d w (enters_of Tryz.func39 (by kernel_rfl) rfl) (cmpLays_cl w g d.size) hH h4 (by omega)
  rw [hds] at hcon
  refine Calls.mono hcon ?_
  rintro e w' ⟨rfl, d', n, os, hp, hs, rfl⟩
  have hsz : d'.size = l.length := by rw [hp.1, hds]
  refine ⟨rfl, d'.toList.map Subtype.val, ?_, ?_, ⟨by simp [hsz], fun x hx => ?_, ?_⟩, ⟨?_, ?_⟩⟩
  · have := hp.2.2
    rw [← hds, Array.extract_size] at this
    rw [← hd]
    have e2 : d'.extract 0 d.size = d' := by rw [← hp.1, Array.extract_size]
    rw [e2] at this
    exact this.map _
  · rw [List.pairwise_map, List.pairwise_iff_getElem]
    intro i j hi hj hij
    have h7 := hs i j (Nat.zero_le _) hij (by simpa [hsz] using hj)
    rw [ltC, getElem!_pos d' i (by simpa using hi), getElem!_pos d' j (by simpa using hj)] at h7
    simpa using h7
  · obtain ⟨y, _, rfl⟩ := List.mem_map.mp hx
    exact y.2
  · have h6 := own_put h.own (flatK encC 5 d') (by rw [size_flatK, hsz]) n os
    rw [flat_cls] at h6
    exact h6
  · refine ⟨rfl, rfl, rfl, ?_, fun k hk => ?_⟩
    · unfold sortWorldK
      rw [size_grow, size_putRowK]
      exact Nat.le_add_right _ _
    · unfold sortWorldK putRowK
      rw [heap_grow_old _ _ (by rw [Go.Sort.size_putRow]; exact Nat.lt_of_lt_of_le hk hB)]
      unfold putRow mapBlock
      simp only [Array.getElem?_modify, if_neg (show g ≠ k by omega)]
      rfl
  · intro k hk hne
    have hne' : g ≠ k := hne _ rfl
    unfold sortWorldK putRowK
    rw [heap_grow_old _ _ (by rw [Go.Sort.size_putRow]; exact hk)]
    unfold putRow mapBlock
    simp only [Array.getElem?_modify, if_neg hne']
    rfl
end

section
open Go.RowKit

theorem rcLaid : laidOutB Tryz.prog = true := by kernel_rfl
theorem cellsCl : Tryz.prog.cellsOf 78 = 5 := by kernel_rfl
theorem cellsIn : Tryz.prog.cellsOf 3 = 1 := by kernel_rfl
theorem clKeyT : Tryz.prog.keyType 78 = true := by kernel_rfl
theorem typesS : ∃ m, Tryz.prog.types.size = m + 1 := ⟨Tryz.prog.types.size - 1, by kernel_rfl⟩
/-- Clashes are keys. -/
theorem clKeyed : Maps.Keyed Tryz.prog 78 := Maps.Keyed.of_law (deep_law_laid rcLaid (m := 3) (by decide) (of_decide_eq_true (by kernel_rfl)) (by kernel_rfl) (by kernel_rfl))
/-- What a clash reads as, as a key. -/
def clL (c : List Int) : Lit := .string (keyBytes (c.map fun x => .int .i64 x))
theorem keyLits_one {d : Nat} {x : Int} (hx : (Lit.int .i64 x).wf = true) : Tryz.prog.keyLits (d + 1) 3 [.int .i64 x] = some [.int .i64 x] := by
  unfold Program.keyLits
  rw [Tryz.underlying3]
  simp [hx]
theorem clKey {x0 x1 x2 x3 x4 : Int} (h0 : (Lit.int .i64 x0).wf = true) (h1 : (Lit.int .i64 x1).wf = true) (h2 : (Lit.int .i64 x2).wf = true) (h3 : (Lit.int .i64 x3).wf = true) (h4 : (Lit.int .i64 x4).wf = true) : keyOf Tryz.prog 78 (clV x0 x1 x2 x3 x4) = some (clL [x0, x1, x2, x3, x4]) := by
  obtain ⟨m, hm⟩ := typesS
  unfold keyOf
  have hu := Tryz.underlying78
  have hf : (clV x0 x1 x2 x3 x4).formed Tryz.prog 78 = true := by
    unfold Value.formed
    rw [hu, cellsCl]
    rfl
  rw [hu]
  simp only [clKeyT, hf, Bool.and_self, if_true]
  rw [hm]
  have hl : Tryz.prog.keyLits (m + 1 + 1) 78 (clV x0 x1 x2 x3 x4).cells.toList = some [.int .i64 x0, .int .i64 x1, .int .i64 x2, .int .i64 x3, .int .i64 x4] := by
    show Tryz.prog.keyLits (m + 1 + 1) 78 [.int .i64 x0, .int .i64 x1, .int .i64 x2, .int .i64 x3, .int .i64 x4] = _
    unfold Program.keyLits
    rw [hu]
    simp only [cellsCl]
    rw [if_pos ⟨rfl, by kernel_rfl⟩]
    simp [cellsIn, keyLits_one h0, keyLits_one h1, keyLits_one h2, keyLits_one h3, keyLits_one h4]
  rw [hl]
  rfl
/-- Two clashes that read alike as keys are the same. -/
theorem clL_inj {a b : List Int} (ha : a.length = 5) (hb : b.length = 5) (wa : ∀ x, x ∈ a → (Lit.int .i64 x).wf = true) (wb : ∀ x, x ∈ b → (Lit.int .i64 x).wf = true) (h : clL a = clL b) : a = b := by
  obtain ⟨a0, a1, a2, a3, a4, rfl⟩ := len5 ha
  obtain ⟨b0, b1, b2, b3, b4, rfl⟩ := len5 hb
  have h1 := clKey (wa a0 (by simp)) (wa a1 (by simp)) (wa a2 (by simp)) (wa a3 (by simp)) (wa a4 (by simp))
  have h2 := clKey (wb b0 (by simp)) (wb b1 (by simp)) (wb b2 (by simp)) (wb b3 (by simp)) (wb b4 (by simp))
  rw [← h] at h2
  have := clKeyed.inj h1 h2
  simp only [Value.agg.injEq, Array.mk.injEq, List.cons.injEq, Value.int.injEq, true_and, and_true] at this
  obtain ⟨rfl, rfl, rfl, rfl, rfl⟩ := this
  rfl
/-- A set of clashes lies in block fm. -/
structure SetC (w : World) (fm : Nat) (k : Nat) (P : List Int → Prop) : Prop where
  own : ∃ n D, n ≤ k ∧ w.ownsMap Tryz.prog 78 (unitElem (H := Unit)) fm n D ∧ ∀ l, Maps.has D l = true ↔ ∃ c, P c ∧ clL c = l
  five : ∀ c, P c → c.length = 5
  wf : ∀ c, P c → ∀ x, x ∈ c → (Lit.int .i64 x).wf = true
end

section
open Go.RowKit Go.Sort Go.Shelf

theorem take_eq_next {x y : List Oc} {k : Nat} (h : x.take k = y.take k) (h1 : k < x.length) (h2 : k < y.length) (e : x.getD k default = y.getD k default) : x.take (k + 1) = y.take (k + 1) := otake_ext h h1 h2 e
set_option maxRecDepth 100000 in
set_option maxHeartbeats 1600000 in
theorem equal_any (w : World) (a b : Option Addr) (es fs : List En) (c d : Nat) (hE : EIn w a es) (hF : EIn w b fs) (hok : ∀ x, x ∈ es → EnOk w x) (hok' : ∀ x, x ∈ fs → EnOk w x) (hn : es.length ≤ 100000) (_hm : fs.length ≤ 100000) :
    Calls Tryz.prog 24 #[.slice a es.length c, .slice b fs.length d, .func (.func 25) #[] #[]] w fun e w' => e = .returned (.bool (decide (es.map En.o = fs.map En.o))) ∧ Below w.heap.size w w' := by
  by_cases hl : es.length = fs.length
  · obtain ⟨R, hR⟩ : ∃ R, decide (es.map En.o = fs.map En.o) = R := ⟨_, rfl⟩
    have HR : Hid (decide (es.map En.o = fs.map En.o) = R) := hR
    rw [hR]
    have HS : Hid (∀ W i, Below w.heap.size w W → i < es.length → Calls Tryz.prog 25 #[enV (es.getD i default), enV (fs.getD i default)] W fun e w' => e = .returned (.bool (decide ((es.getD i default).o = (fs.getD i default).o))) ∧ Below w.heap.size w w') := fun W i hb hi => by
      refine Calls.mono (same_any W _ _ ((hok _ (getD_in hi)).below hb) ((hok' _ (getD_in (by omega))).below hb)) ?_
      rintro e w' ⟨he, h2⟩
      exact ⟨he, hb.trans (h2.mono hb.size)⟩
    have HE : Hid (EIn w a es ∧ EIn w b fs) := ⟨hE, hF⟩
    obtain ⟨n, hnn⟩ : ∃ n, es.length = n := ⟨_, rfl⟩
    have HN : Hid (es.length = n ∧ fs.length = n) := ⟨hnn, by rw [← hl]; exact hnn⟩
    rw [← hl, hnn]
    rw [hnn] at hn HS
    clear hE hF hok hok' hl hnn hR
    go_enter Tryz.func24, Tryz.ntmps24
    go_wp2_with fail
    go_loopw [17] (fun i wr => ∃ k : Nat, k ≤ n ∧ i = .int .i64 k ∧ Hid (Below w.heap.size w wr ∧ (es.map En.o).take k = (fs.map En.o).take k)) (fun i _ => n - (intOf i).toNat)
    case atStart => exact ⟨0, Nat.zero_le _, rfl, Below.refl _ _, rfl⟩
    case round =>
      obtain ⟨k, hk, rfl, HI⟩ := hrel
      by_cases hlt : k < n
      · have hbr := HI.out.1
        obtain ⟨p, o, rfl, a0, a1, a2⟩ := (HE.out.1.below hbr) k (by rw [HN.out.1]; exact hlt)
        obtain ⟨p2, o2, rfl, b0, b1, b2⟩ := (HE.out.2.below hbr) k (by rw [HN.out.2]; exact hlt)
        have hp := lt_of_cell a0
        have hp2 := lt_of_cell b0
        have hsz := hbr.size
        have hT := HI.out.2
        obtain ⟨R2, hR2⟩ : ∃ R, decide ((es.getD k default).o = (fs.getD k default).o) = R := ⟨_, rfl⟩
        have HNX : Hid (R2 = true → (es.map En.o).take (k + 1) = (fs.map En.o).take (k + 1)) := fun h => by
          rw [h] at hR2
          refine take_eq_next hT (by rw [List.length_map, HN.out.1]; exact hlt) (by rw [List.length_map, HN.out.2]; exact hlt) ?_
          rw [map_getD (by rw [HN.out.1]; exact hlt), map_getD (by rw [HN.out.2]; exact hlt)]
          exact of_decide_eq_true hR2
        have HNO : Hid (R2 = false → R = false) := fun h => by
          rw [h] at hR2
          rw [← HR.out]
          refine decide_eq_false (fun e => of_decide_eq_false hR2 ?_)
          have : (es.map En.o).getD k default = (fs.map En.o).getD k default := by rw [e]
          rw [map_getD (by rw [HN.out.1]; exact hlt), map_getD (by rw [HN.out.2]; exact hlt)] at this
          exact this
        have HC : Hid (∀ W, Below w.heap.size w W → Calls Tryz.prog 25 #[enV (es.getD k default), enV (fs.getD k default)] W fun e w' => e = .returned (.bool R2) ∧ Below w.heap.size w w') := fun W hb => by
          have := HS.out W k hb hlt
          rw [hR2] at this
          exact this
        obtain ⟨⟨⟨s1, l1, m1⟩, wa1, wc1, pa1, pc1⟩, hx1⟩ : ∃ x, es.getD k default = x := ⟨_, rfl⟩
        obtain ⟨⟨⟨s2, l2, m2⟩, wa2, wc2, pa2, pc2⟩, hx2⟩ : ∃ x, fs.getD k default = x := ⟨_, rfl⟩
        rw [hx1] at a0 a1 a2
        rw [hx2] at b0 b1 b2
        have HC2 : Hid (∀ W, Below w.heap.size w W → Calls Tryz.prog 25 #[.agg #[.int .i64 s1, .slice wa1 l1.length wc1, .slice pa1 m1.length pc1], .agg #[.int .i64 s2, .slice wa2 l2.length wc2, .slice pa2 m2.length pc2]] W fun e w' => e = .returned (.bool R2) ∧ Below w.heap.size w w') := fun W hb => by
          have := HC.out W hb
          rw [hx1, hx2] at this
          exact this
        have HBR := Hid.out (p := Hid _) hbr
        dsimp only at a0 a1 a2 b0 b1 b2
        clear HC hT hR2 hx1 hx2 HI hbr
        go_wp2_with fail
        refine Calls.mono (HC2.out _ ((HBR.out.alloc hsz _).alloc (by simp; omega) _)) ?_
        rintro e w1 ⟨rfl, hb1⟩
        have HB1 := Hid.out (p := Hid _) hb1
        clear HC2 hb1 a0 a1 a2 b0 b1 b2 hp hp2 hsz HBR
        cases R2 with
        | true =>
          go_wp2_with fail
          go_roundw
          case rel => exact ⟨k + 1, by omega, by go_num, HB1.out, HNX.out (by trivial)⟩
          case measure => simp [intOf]; omega
        | false =>
          obtain rfl : R = false := HNO.out rfl
          go_wp2_with fail
          go_ret
          exact ⟨rfl, HB1.out⟩
      · obtain rfl : k = n := by omega
        have hv : R = true := by
          rw [← HR.out]
          refine decide_eq_true ?_
          have := HI.out.2
          rw [List.take_of_length_le (by rw [List.length_map, HN.out.1]; exact Nat.le_refl _), List.take_of_length_le (by rw [List.length_map, HN.out.2]; exact Nat.le_refl _)] at this
          exact this
        subst hv
        have HB := HI.out.1
        have HBR := Hid.out (p := Hid _) HB
        clear HI HB
        go_wp2_with fail
        go_ret
        exact ⟨rfl, HBR.out⟩
  · have hd : decide (es.map En.o = fs.map En.o) = false := decide_eq_false (fun h => hl (by have := congrArg List.length h; simpa using this))
    rw [hd]
    obtain ⟨n, hnn⟩ : ∃ n, es.length = n := ⟨_, rfl⟩
    obtain ⟨m, hmm⟩ : ∃ n, fs.length = n := ⟨_, rfl⟩
    rw [hnn, hmm] at hl ⊢
    have hl' : ¬ (n : Int) = (m : Int) := by omega
    clear hE hF hok hok' hn hd hnn hmm
    go_enter Tryz.func24, Tryz.ntmps24
    go_wp2_with fail
    go_ret
    exact ⟨rfl, Below.refl _ _⟩
end

end Go.Proofs.YtipdnfpomdcenacGreatDoor
