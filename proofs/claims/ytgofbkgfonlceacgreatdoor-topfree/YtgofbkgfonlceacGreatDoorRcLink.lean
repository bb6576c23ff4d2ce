/-
  The clashes of a state's touches are the clashes of the state.
  Clashes are noted down while the program goes through states.
  What the program's Check does.
-/
import Derived.Test.YtgofbkgfonlceacGreatDoorRcAdd
import Derived.Test.YtgofbkgfonlceacGreatDoorWFollow
import Derived.Test.YtgofbkgfonlceacGreatDoorOcComp2
import Derived.Test.YtgofbkgfonlceacGreatDoorOrder
namespace Go.Proofs.YtgofbkgfonlceacGreatDoor
section
open Go.RowKit

section
variable {L : Nat → Nat} {X : Nat → Nat → Nat → Int} {s : Sx}
theorem tw_st {t : Nat} {x : Int} {p : Bool} (h : twX X s t = some (x, p)) : stOp (opT X s t 0) = p := by
  unfold twX at h
  unfold stOp
  repeat' split at h
  all_goals
    first
      | cases h
      | skip
  · rename_i e; rw [e]; rfl
  · rename_i e; rw [e]; rfl
  · rename_i e; rw [e]; rfl
  · rename_i e; rw [e]; rfl
  · rename_i e; rw [e]; rfl
theorem touR_some {t : Nat} {x : Int} {p : Bool} (h : okT L X s t = some (x, p)) : touR L X s t = [[(t : Int), ((thOf s t).pc : Int), opT X s t 0, x]] := by
  unfold touR; rw [h]
theorem touR_none {t : Nat} (h : okT L X s t = none) : touR L X s t = [] := by
  unfold touR; rw [h]
theorem cl2_clP {a b : Nat} {x y : Int} {p q : Bool} (h1 : okT L X s a = some (x, p)) (h2 : okT L X s b = some (y, q)) : cl2 [(a : Int), ((thOf s a).pc : Int), opT X s a 0, x] [(b : Int), ((thOf s b).pc : Int), opT X s b 0, y] = clP L X s a b := by
  rw [clP_two h1 h2]
  have e1 := tw_st (okT_some.mp h1).2.1
  have e2 := tw_st (okT_some.mp h2).2.1
  show (if x = y ∧ (stOp (opT X s a 0) || stOp (opT X s b 0)) = true then _ else none) = _
  rw [e1, e2]
  rfl
theorem mem_touL {k : Nat} {r : List Int} : r ∈ touL L X s k ↔ ∃ t, t < k ∧ r ∈ touR L X s t := by
  unfold touL
  rw [List.mem_flatMap]
  exact ⟨fun ⟨t, h1, h2⟩ => ⟨t, by simpa using h1, h2⟩, fun ⟨t, h1, h2⟩ => ⟨t, by simpa using h1, h2⟩⟩
theorem getD_app_left {l r : List (List Int)} {i : Nat} (h : i < l.length) : (l ++ r).getD i [] = l.getD i [] := by
  rw [List.getD_eq_getElem?_getD, List.getD_eq_getElem?_getD, List.getElem?_append_left h]
/-- The clashes of touches, by their threads. -/
theorem pairs_cls (k : Nat) (c : List Int) : pcA (touL L X s k) (touL L X s k).length c ↔ ∃ a b, a < b ∧ b < k ∧ clP L X s a b = some c := by
  induction k with
  | zero =>
    constructor
    · rintro ⟨i, j, _, _, h, _⟩
      simp [touL] at h
    · rintro ⟨a, b, _, h, _⟩
      omega
  | succ k ih =>
    have hE : (∃ a b, a < b ∧ b < k + 1 ∧ clP L X s a b = some c) ↔ (∃ a b, a < b ∧ b < k ∧ clP L X s a b = some c) ∨ ∃ a, a < k ∧ clP L X s a k = some c := by
      constructor
      · rintro ⟨a, b, h1, h2, h3⟩
        by_cases e : b = k
        · subst e; exact Or.inr ⟨a, h1, h3⟩
        · exact Or.inl ⟨a, b, h1, by omega, h3⟩
      · rintro (⟨a, b, h1, h2, h3⟩ | ⟨a, h1, h3⟩)
        · exact ⟨a, b, h1, by omega, h3⟩
        · exact ⟨a, k, h1, by omega, h3⟩
    rw [hE, ← ih]
    cases hk : okT L X s k with
    | none =>
      rw [touL_next, touR_none hk, List.append_nil]
      exact ⟨Or.inl, fun h => h.elim id fun ⟨a, _, h2⟩ => by rw [clP_no (Or.inr hk)] at h2; cases h2⟩
    | some z =>
      obtain ⟨y, q⟩ := z
      rw [touL_next, touR_some hk]
      obtain ⟨l, hl⟩ : ∃ l, touL L X s k = l := ⟨_, rfl⟩
      have hmem : ∀ r, r ∈ l → ∃ a x p, a < k ∧ okT L X s a = some (x, p) ∧ r = [(a : Int), ((thOf s a).pc : Int), opT X s a 0, x] := fun r hr => by
        rw [← hl] at hr
        obtain ⟨a, h1, h2⟩ := mem_touL.mp hr
        cases ha : okT L X s a with
        | none => rw [touR_none ha] at h2; cases h2
        | some z =>
          obtain ⟨x, p⟩ := z
          rw [touR_some ha] at h2
          exact ⟨a, x, p, h1, ha, List.mem_singleton.mp h2⟩
      have hback : ∀ a x p, a < k → okT L X s a = some (x, p) → [(a : Int), ((thOf s a).pc : Int), opT X s a 0, x] ∈ l := fun a x p h1 h2 => by
        rw [← hl]
        exact mem_touL.mpr ⟨a, h1, by rw [touR_some h2]; simp⟩
      rw [hl]
      constructor
      · rintro ⟨i, j, _, h2, h3, h4⟩
        simp only [List.length_append, List.length_cons, List.length_nil] at h3
        by_cases e : j = l.length
        · subst e
          rw [getD_app_left h2, List.getD_eq_getElem?_getD, List.getD_eq_getElem?_getD, List.getElem?_append_right (Nat.le_refl _)] at h4
          simp only [Nat.sub_self, List.getElem?_cons_zero, Option.getD_some] at h4
          have hm : l[i]?.getD [] ∈ l := by rw [List.getElem?_eq_getElem h2]; exact List.getElem_mem _
          obtain ⟨a, x, p, g1, g2, g3⟩ := hmem _ hm
          rw [g3, cl2_clP g2 hk] at h4
          exact Or.inr ⟨a, g1, h4⟩
        · have hj : j < l.length := by omega
          rw [getD_app_left (by omega), getD_app_left hj] at h4
          exact Or.inl ⟨i, j, by omega, h2, hj, h4⟩
      · rintro (⟨i, j, _, h2, h3, h4⟩ | ⟨a, h1, h2⟩)
        · exact ⟨i, j, by simp; omega, h2, by simp; omega, by rw [getD_app_left (by omega), getD_app_left h3]; exact h4⟩
        · cases ha : okT L X s a with
          | none => rw [clP_no (Or.inl ha)] at h2; cases h2
          | some z =>
            obtain ⟨x, p⟩ := z
            obtain ⟨i, hi, e⟩ := List.getElem_of_mem (hback a x p h1 ha)
            refine ⟨i, l.length, by simp; omega, hi, by simp, ?_⟩
            rw [getD_app_left hi, List.getD_eq_getElem?_getD, List.getD_eq_getElem?_getD, List.getElem?_append_right (Nat.le_refl _), List.getElem?_eq_getElem hi]
            simp only [Nat.sub_self, List.getElem?_cons_zero, Option.getD_some]
            rw [e, cl2_clP ha hk]
            exact h2
theorem touches_cls {n : Nat} (h : s.ths.length = n) (c : List Int) : pcA (touL L X s n) (touL L X s n).length c ↔ ClsX L X s c := by
  rw [pairs_cls]
  unfold ClsX
  rw [h]
end
theorem wf_small {x : Int} (h0 : 0 ≤ x) (h1 : x ≤ 1000) : (Lit.int .i64 x).wf = true := by
  have h : I64n x := ⟨by omega, by omega⟩
  have e : IntKind.i64.min = -9223372036854775808 := rfl
  simpa [Lit.wf, I64n, e] using h
theorem touL_wf {n m lk rg : Nat} {L : Nat → Nat} {X : Nat → Nat → Nat → Int} {mode : Int} {s : Sx} (ho : SOk n L m lk rg mode s) (hc : COk n L X m lk rg) : ∀ r, r ∈ touL L X s n → ∀ x, x ∈ r → (Lit.int .i64 x).wf = true := fun r hr x hx => by
  obtain ⟨t, h1, h2⟩ := mem_touL.mp hr
  cases ha : okT L X s t with
  | none => rw [touR_none ha] at h2; cases h2
  | some z =>
    obtain ⟨y, p⟩ := z
    rw [touR_some ha] at h2
    rw [List.mem_singleton.mp h2] at hx
    obtain ⟨g1, g2, g3, g4⟩ := okT_some.mp ha
    have h18 := ok_op (ok_lt hc h1 g1)
    have hpc := ho.pc t h1
    have hL := hc.L4 t h1
    have hn := hc.n4
    have hm := hc.m64
    rw [ho.words] at g4
    simp only [List.mem_cons, List.not_mem_nil, or_false] at hx
    rcases hx with rfl | rfl | rfl | rfl
    · exact wf_small (by omega) (by omega)
    · exact wf_small (by omega) (by omega)
    · exact wf_small (by omega) (by omega)
    · exact wf_small (by omega) (by omega)
end

section
open Go.RowKit

/-- What was noted down of those that were seen. -/
def ObC (c : Wc) (fb fm : Nat) (W : World) (Z _F : List Sx) : Prop := W.heap[fb]? = some (.cells #[.map (some fm)] 53) ∧ SetC W fm (16 * Z.length) (fun x => ∃ s, s ∈ Z ∧ ClsX c.Q.L c.X s x)
set_option maxRecDepth 100000 in
set_option maxHeartbeats 3200000 in
theorem rsee_any (c : Wc) (hc : WcOk c) (fb fm : Nat) (hfm : fm ≠ c.km) (hBf : c.B ≤ fm) (W : World) (Z F : List Sx) (sb mb bb : Nat) (v : Rp → Value) (s : Sx) (k : Nat) (hO : ObC c fb fm W Z F) (hZ : Z.length ≤ 4500) (hq : QSt W 0 (c.Q.at bb) sb mb v s) (hs : StP c k s) (hlow : Below c.B c.w0 W) :
    Calls Tryz.prog 16 #[.pointer (some ⟨sb, 0, none⟩), .pointer (some ⟨fb, 0, none⟩)] W fun e W' => e = .returned (.tuple #[]) ∧ ObC c fb fm W' (Z ++ [s]) F ∧ Fr c.B (NF fm c.km) W W' := by
  have hB : c.B ≤ W.heap.size := by rw [hc.Bw]; exact hlow.size
  have HT : Hid (∀ V, Below W.heap.size W V → Calls Tryz.prog 18 #[.pointer (some ⟨sb, 0, none⟩)] V fun e w' => ∃ a len cp, e = .returned (.slice a len cp) ∧ IsU w' W.heap.size a len cp (touL c.Q.L c.X s c.n) ∧ Below W.heap.size W w') := fun V hV => by
    refine Calls.mono (tous_any V 0 (c.Q.at bb) sb mb v s c.ca c.X c.n c.m c.lk c.rg hc.n0 (hq.below hV) hc.hM (Nat.zero_le _) hc.nt hs.ok hc.cok ((hc.prog.below (by have := hlow; rw [hc.Bw] at this; exact this)).below hV)) ?_
    rintro e w' ⟨a, len, cp, he, hu, hb⟩
    exact ⟨a, len, cp, he, ⟨hu.is, hu.four, own_low hu.own hV.size⟩, hV.trans (hb.mono hV.size)⟩
  have f0 : W.cell? ⟨fb, 0, none⟩ = some (.map (some fm)) := box_cell hO.1 rfl
  have HA : Hid (∀ w1 a len cp, Below W.heap.size W w1 → IsU w1 W.heap.size a len cp (touL c.Q.L c.X s c.n) → Calls Tryz.prog 17 #[.map (some fm), .slice a len cp] w1 fun e W' => e = .returned (.tuple #[]) ∧ ObC c fb fm W' (Z ++ [s]) F ∧ Fr c.B (NF fm c.km) W W') := fun w1 a len cp hb hu => by
    have hmap : w1.heap[fm]? = W.heap[fm]? := by
      obtain ⟨n, D, _, ⟨es, ck, hh, _⟩, _⟩ := hO.2.own
      exact hb.block _ (box_lt hh)
    have h4 : (touL c.Q.L c.X s c.n).length ≤ 4 := by
      have h1 := touL_len (L := c.Q.L) (X := c.X) (s := s) c.n
      have h2 := hc.cok.n4
      omega
    refine Calls.mono (addCl_any w1 c.B W.heap.size fm c.km (16 * Z.length) _ a len cp _ (hO.2.fr hmap) hu h4 (touL_wf hs.ok hc.cok) hBf (Nat.le_trans hB hb.size) (by omega) hfm) ?_
    rintro e W' ⟨he, hS, hf⟩
    refine ⟨he, ⟨?_, hS.more (by rw [List.length_append, List.length_singleton]; omega) (fun x => ?_)⟩, (Fr.of_below hB hb).trans hf⟩
    · exact hf.kept _ _ ((hb.block _ (box_lt hO.1)).trans hO.1) nf_cells
    · rw [touches_cls hs.ok.ths]
      constructor
      · rintro (⟨z, h1, h2⟩ | h)
        · exact ⟨z, by simp [h1], h2⟩
        · exact ⟨s, by simp, h⟩
      · rintro ⟨z, h1, h2⟩
        rcases List.mem_append.mp h1 with h1 | h1
        · exact Or.inl ⟨z, h1, h2⟩
        · rw [List.mem_singleton.mp h1] at h2; exact Or.inr h2
  clear hO hq hs hlow
  go_enter Tryz.func16, Tryz.ntmps16
  go_wp2_with fail
  go_region_held3 (fun w' => w'.cell? ⟨fb, 0, none⟩ = some (.map (some fm))) (repeat (first | assumption | refine cell_drw ?_ | refine cell_up ?_ _)) (first | (go_at_call 18; refine Calls.mono (HT.out _ (by first | exact Below.refl _ _ | exact (Below.refl _ _).drew)) ?_; rintro e w1 ⟨a, len, cp, rfl, hu, hb1⟩; have j0 : w1.cell? ⟨fb, 0, none⟩ = some (.map (some fm)) := (hb1.cell (lt_of_cell f0)).trans f0; have HU := Hid.out (p := Hid _) (And.intro hb1 hu); clear hb1 hu) | (go_at_call 17; refine Calls.mono (HA.out _ _ _ _ (by first | exact HU.out.1 | exact HU.out.1.drew) (by first | exact HU.out.2 | exact HU.out.2.below (Below.refl _ _).drew)) ?_; rintro e w2 ⟨rfl, HO2⟩; have j2 : w2.cell? ⟨fb, 0, none⟩ = some (.map (some fm)) := box_cell HO2.1.1 rfl; have HR := Hid.out (p := Hid _) HO2; clear HO2))
  all_goals go_wp2
  all_goals go_end0
  all_goals exact ⟨rfl, HR.out.1, HR.out.2⟩
set_option maxRecDepth 100000 in
theorem rfell_any (W : World) (p : Value) : Calls Tryz.prog 19 #[p] W fun e W' => e = .returned (.tuple #[]) ∧ W' = W := by
  go_enter Tryz.func19, Tryz.ntmps19
  go_wp2
  go_end0
  exact ⟨rfl, rfl⟩
/-- Find's see and fell. -/
theorem obs_race (c : Wc) (hc : WcOk c) (fb fm : Nat) (hfm : fm ≠ c.km) (hBf : c.B ≤ fm) : Obs c 16 19 #[.pointer (some ⟨fb, 0, none⟩)] #[] (NF fm c.km) (ObC c fb fm) where
  fnS := enters_of Tryz.func16 (by kernel_rfl) rfl
  fnF := enters_of Tryz.func19 (by kernel_rfl) rfl
  n1 k cs t ht := nf_cells
  n2 o h := h.2.1 rfl
  n3 r k cs := nf_cells
  keep W W' Z F h hf := by
    refine ⟨hf.kept _ _ h.1 (nw_cells (by unfold wTy; decide)), h.2.fr ?_⟩
    obtain ⟨n, D, _, ⟨es, ck, hh, _⟩, _⟩ := h.2.own
    rw [hh]
    refine hf.kept _ _ hh fun h => ?_
    rcases h with ⟨e, _⟩ | ⟨c', t, fz, e, _⟩
    · exact hfm e
    · cases e
  see W Z F sb mb bb v s k h hq hs hk hZ hF hlow := rsee_any c hc fb fm hfm hBf W Z F sb mb bb v s k h hZ hq hs hlow
  fell W Z F sb mb bb v s h hq hp hZ hF hlow := by
    refine Calls.mono (rfell_any W _) ?_
    rintro e W' ⟨he, rfl⟩
    exact ⟨he, h, Fr.refl _ _ _⟩
end

section
open Go.RowKit

theorem ret3 {a b c x y z : Int} (h : (x, y, z) = (a, b, c)) : Ending.returned (ints3 a b c) = .returned (ints3 x y z) := by
  simp only [Prod.mk.injEq] at h
  obtain ⟨rfl, rfl, rfl⟩ := h
  rfl

set_option maxHeartbeats 1000000 in
theorem check_sizes (ca : Option Addr) (n cc : Nat) (wa : Option Addr) (m wc : Nat) (lk rg : Int) (s : Int) (HS : Hid (s = sizesE n m lk rg)) (h0 : (s != 0) = true) (w : World) :
    Calls Tryz.prog 15 #[prgV ca n cc wa m wc lk rg] w fun e w' => e = .returned (ints3 s 0 0) ∧ Below w.heap.size w w' := by
  go_enter Tryz.func15, Tryz.ntmps15
  go_wp2_with (first | (go_at_call 40; refine (checkSizes_any _ _ _ _ _ _ _ _ _).mono ?_; rintro e w1 ⟨rfl, hb1⟩; rw [← HS.out]; have hbx := (boxes_made w ca n cc wa m wc lk rg 25 30).below hb1; obtain ⟨hsz, p0, p1, p2, p3, r0, r1, r2, f0, f1, f2⟩ := hbx))
  exact bodyPost_ret (v := ints3 s 0 0) (by simp [results, Tryz.results15, go_sem, r0, r1, r2]) rfl
    ⟨rfl, ((((((Below.refl _ _).alloc (Nat.le_refl _) _).alloc (by simp) _).trans (hb1.mono (by simp; omega))).setCell (by simp) _).setCell (by simp) _).setCell (by simp) _⟩

theorem shapes_some (w : World) :
    Calls Tryz.prog 41 #[] w fun e w' => e = .returned (.map (some (w.heap.size + 1))) ∧ w'.heap[w.heap.size + 1]? = some (.map shapesArr 18) ∧ Below w.heap.size w w' := by
  refine (shapes_any w).mono ?_
  rintro e w' ⟨rfl, rfl⟩
  exact ⟨rfl, by simpa using (MapKept.heap_alloc (w.alloc (.cells #[.int .i64 1, .int .i64 1, .int .i64 1] 146)) (.map shapesArr 18)).1, ((Below.refl _ _).alloc (Nat.le_refl _) _).alloc (by simp) _⟩

set_option maxHeartbeats 1000000 in
theorem check_go (ca : Option Addr) (n cc : Nat) (wa : Option Addr) (m wc : Nat) (lk rg : Int) (A : Nat → Option Addr) (L C : Nat → Nat) (X : Nat → Nat → Nat → Int) (s x y z : Int) (HS : Hid (s = sizesE n m lk rg)) (h0 : (s != 0) = false)
    (HR : Hid (firstThread (thr rg m lk L X) n 0 = (x, y, z))) (w : World) (hp : PIn w ca n A L C X) :
    Calls Tryz.prog 15 #[prgV ca n cc wa m wc lk rg] w fun e w' => e = .returned (ints3 x y z) ∧ Below w.heap.size w w' := by
  go_enter Tryz.func15, Tryz.ntmps15
  go_wp2_with (first | (go_at_call 40; refine (checkSizes_any _ _ _ _ _ _ _ _ _).mono ?_; rintro e w1 ⟨rfl, hb1⟩; rw [← HS.out]; have hbx := (boxes_made w ca n cc wa m wc lk rg 25 30).below hb1) | (go_at_call 41; refine (shapes_some _).mono ?_; rintro e w2 ⟨rfl, hmap, hb2⟩; have hby := hbx.below hb2; obtain ⟨hsz, p0, p1, p2, p3, r0, r1, r2, f0, f1, f2⟩ := hby))
  have hp2 : PIn w2 ca n A L C X := hp.below ((((Below.refl _ _).alloc (Nat.le_refl _) _).alloc (by simp) _).trans ((hb1.mono (by simp; omega)).trans (hb2.mono (Nat.le_trans (by omega) hbx.size))))
  have HB2 : Below w.heap.size w w2 := ((((Below.refl _ _).alloc (Nat.le_refl _) _).alloc (by simp) _).trans ((hb1.mono (by simp; omega)).trans (hb2.mono (Nat.le_trans (by omega) hbx.size))))
  have hmb : w1.heap.size + 1 < w2.heap.size := by
    rcases Nat.lt_or_ge (w1.heap.size + 1) w2.heap.size with h1 | h1
    · exact h1
    · rw [Array.getElem?_eq_none h1] at hmap; cases hmap
  have hby := hbx.below hb2
  have hn := hp.num
  clear hp hb1 hb2 hbx hsz p0 p1 p2 p3 r0 r1 r2 f0 f1 f2
  have HM : Hid (w2.heap[w1.heap.size + 1]? = some (.map shapesArr 18)) := hmap
  clear hmap
  go_loopw [21] (fun i wr => ∃ k : Nat, k ≤ n ∧ i = .int .i64 k ∧ Below w2.heap.size w2 wr ∧ firstThread (thr rg m lk L X) (n - k) k = (x, y, z)) (fun i _ => n - (intOf i).toNat)
  case atStart => exact ⟨0, Nat.zero_le _, rfl, Below.refl _ _, HR.out⟩
  case round =>
    obtain ⟨k, hk, rfl, hbr, hr⟩ := hrel
    have HK : Hid (firstThread (thr rg m lk L X) (n - k) k = (x, y, z)) := hr
    clear hr
    by_cases hlt : k < n
    · obtain ⟨cb, co, rfl, hcell⟩ := (hp2.below hbr).code k hlt
      by_cases h400 : 400 < L k
      · have hend : (x, y, z) = (1, (k : Int), 0) := by rw [← HK.out, firstThread_hit hlt (by unfold thr; rw [if_pos h400])]
        obtain ⟨hsz, p0, p1, p2, p3, r0, r1, r2, f0, f1, f2⟩ := hby.below hbr
        have HE : Hid ((x, y, z) = (1, (k : Int), 0)) := hend
        clear hend
        go_wp2
        exact bodyPost_ret (v := ints3 1 k 0) (by simp [results, Tryz.results15, go_sem, r0, r1, r2]) rfl
          ⟨ret3 HE.out, (((HB2.trans (hbr.mono HB2.size)).setCell (by simp) _).setCell (by simp) _).setCell (by simp) _⟩
      · have hl : L k ≤ 400 := by omega
        rcases Nat.eq_zero_or_pos (L k) with hz | hpos
        · have HZ : Hid (L k = 0) := hz
          clear hz
          obtain ⟨hsz, p0, p1, p2, p3, r0, r1, r2, f0, f1, f2⟩ := hby.below hbr
          go_wp2_with (first | (go_at_call 42; refine (limitsOf_any _ _ _ _ _ _ _ _ _ _ _ hl _).mono ?_; rintro e w3 ⟨rfl, hb3⟩))
          have hb4 : Below wr.heap.size wr (w3.alloc (.cells #[.int .i64 1, .int .i64 rg, .int .i64 m, .int .i64 lk, .int .i64 (L k + 1), .int .i64 0] 90)) := hb3.alloc hb3.size _
          have hs3 := hb3.size
          clear hsz p0 p1 p2 p3 r0 r1 r2 f0 f1 f2 hcell
          go_loopw [36] (fun i wi => ∃ j : Nat, j ≤ L k ∧ i = .int .i64 j ∧ Below (w3.heap.size + 1) (w3.alloc (.cells #[.int .i64 1, .int .i64 rg, .int .i64 m, .int .i64 lk, .int .i64 (L k + 1), .int .i64 0] 90)) wi ∧ firstBad (fun i => ordE rg m lk (L k) (X k i 0) (X k i 1) (X k i 2) (X k i 3)) (L k - j) j = thr rg m lk L X k) (fun i _ => L k - (intOf i).toNat)
          case atStart => exact ⟨0, Nat.zero_le _, rfl, Below.refl _ _, by unfold thr; rw [if_neg h400]; rfl⟩
          case round =>
            obtain ⟨j, hj, rfl, hbi, hfj⟩ := hrel
            have HF : Hid (firstBad (fun i => ordE rg m lk (L k) (X k i 0) (X k i 1) (X k i 2) (X k i 3)) (L k - j) j = thr rg m lk L X k) := hfj
            clear hfj
            have hsi : w3.heap.size + 1 ≤ wr.heap.size := by have := hbi.size; simpa using this
            have hbri := hb4.trans (hbi.mono (by omega))
            have hb2i : Below w2.heap.size w2 wr := hbr.trans (hbri.mono hbr.size)
            by_cases hjl : j < L k
            · exact absurd hjl (by have := HZ.out; omega)
            · have hth : thr rg m lk L X k = none := by rw [← HF.out, firstBad_end (by omega)]
              have HK2 : Hid (firstThread (thr rg m lk L X) (n - (k + 1)) (k + 1) = (x, y, z)) := by rw [← firstThread_step hlt hth]; exact HK.out
              clear hth HK HF
              go_wp2
              go_roundw
              case rel => exact ⟨k + 1, by omega, by go_num, hb2i, HK2.out⟩
              case measure => simp [intOf]; omega
        · obtain ⟨ab, ao, hA⟩ : ∃ ab ao, A k = some ⟨ab, ao, none⟩ := let ⟨ab, ao, h, _⟩ := hp2.ord k 0 hlt hpos; ⟨ab, ao, h⟩
          rw [hA] at hcell
          obtain ⟨hsz, p0, p1, p2, p3, r0, r1, r2, f0, f1, f2⟩ := hby.below hbr
          go_wp2_with (first | (go_at_call 42; refine (limitsOf_any _ _ _ _ _ _ _ _ _ _ _ hl _).mono ?_; rintro e w3 ⟨rfl, hb3⟩))
          have hb4 : Below wr.heap.size wr (w3.alloc (.cells #[.int .i64 1, .int .i64 rg, .int .i64 m, .int .i64 lk, .int .i64 (L k + 1), .int .i64 0] 90)) := hb3.alloc hb3.size _
          have hs3 := hb3.size
          clear hsz p0 p1 p2 p3 r0 r1 r2 f0 f1 f2 hcell
          go_loopw [36] (fun i wi => ∃ j : Nat, j ≤ L k ∧ i = .int .i64 j ∧ Below (w3.heap.size + 1) (w3.alloc (.cells #[.int .i64 1, .int .i64 rg, .int .i64 m, .int .i64 lk, .int .i64 (L k + 1), .int .i64 0] 90)) wi ∧ firstBad (fun i => ordE rg m lk (L k) (X k i 0) (X k i 1) (X k i 2) (X k i 3)) (L k - j) j = thr rg m lk L X k) (fun i _ => L k - (intOf i).toNat)
          case atStart => exact ⟨0, Nat.zero_le _, rfl, Below.refl _ _, by unfold thr; rw [if_neg h400]; rfl⟩
          case round =>
            obtain ⟨j, hj, rfl, hbi, hfj⟩ := hrel
            have HF : Hid (firstBad (fun i => ordE rg m lk (L k) (X k i 0) (X k i 1) (X k i 2) (X k i 3)) (L k - j) j = thr rg m lk L X k) := hfj
            clear hfj
            have hsi : w3.heap.size + 1 ≤ wr.heap.size := by have := hbi.size; simpa using this
            have hbri := hb4.trans (hbi.mono (by omega))
            have hb2i : Below w2.heap.size w2 wr := hbr.trans (hbri.mono hbr.size)
            by_cases hjl : j < L k
            · obtain ⟨b', o', hA', c0, c1, c2, c3⟩ := (hp2.below hb2i).ord k j hlt hjl
              obtain ⟨rfl, rfl⟩ : b' = ab ∧ o' = ao := by rw [hA] at hA'; simpa [eq_comm] using hA'
              clear hA'
              have l0 : ∀ o, (wr.alloc o).cell? ⟨w3.heap.size, 0, none⟩ = some (.int .i64 1) := fun o => (World.cell?_alloc_lt wr o _ (by show w3.heap.size < _; omega)).trans ((hbi.cell (p := ⟨w3.heap.size, 0, none⟩) (by simp)).trans (by go_simp))
              have l1 : ∀ o, (wr.alloc o).cell? ⟨w3.heap.size, 1, none⟩ = some (.int .i64 rg) := fun o => (World.cell?_alloc_lt wr o _ (by show w3.heap.size < _; omega)).trans ((hbi.cell (p := ⟨w3.heap.size, 1, none⟩) (by simp)).trans (by go_simp))
              have l2 : ∀ o, (wr.alloc o).cell? ⟨w3.heap.size, 2, none⟩ = some (.int .i64 m) := fun o => (World.cell?_alloc_lt wr o _ (by show w3.heap.size < _; omega)).trans ((hbi.cell (p := ⟨w3.heap.size, 2, none⟩) (by simp)).trans (by go_simp))
              have l3 : ∀ o, (wr.alloc o).cell? ⟨w3.heap.size, 3, none⟩ = some (.int .i64 lk) := fun o => (World.cell?_alloc_lt wr o _ (by show w3.heap.size < _; omega)).trans ((hbi.cell (p := ⟨w3.heap.size, 3, none⟩) (by simp)).trans (by go_simp))
              have l4 : ∀ o, (wr.alloc o).cell? ⟨w3.heap.size, 4, none⟩ = some (.int .i64 (L k + 1)) := fun o => (World.cell?_alloc_lt wr o _ (by show w3.heap.size < _; omega)).trans ((hbi.cell (p := ⟨w3.heap.size, 4, none⟩) (by simp)).trans (by go_simp))
              have l5 : ∀ o, (wr.alloc o).cell? ⟨w3.heap.size, 5, none⟩ = some (.int .i64 0) := fun o => (World.cell?_alloc_lt wr o _ (by show w3.heap.size < _; omega)).trans ((hbi.cell (p := ⟨w3.heap.size, 5, none⟩) (by simp)).trans (by go_simp))
              have hmi : ∀ o, (wr.alloc o).heap[w1.heap.size + 1]? = some (.map shapesArr 18) := fun o => by
                rw [Below.heap_alloc _ _ _ (Nat.lt_of_lt_of_le hmb hb2i.size), hb2i.block _ hmb]; exact HM.out
              obtain ⟨ev, hev⟩ : ∃ ev, ordE rg m lk (L k) (X k j 0) (X k j 1) (X k j 2) (X k j 3) = ev := ⟨_, rfl⟩
              have HE : Hid (ordE rg m lk (L k) (X k j 0) (X k j 1) (X k j 2) (X k j 3) = ev) := hev
              clear hev
              by_cases hE : ev = 0
              · have hne : (ev != 0) = false := by simpa using hE
                have HF2 : Hid (firstBad (fun i => ordE rg m lk (L k) (X k i 0) (X k i 1) (X k i 2) (X k i 3)) (L k - (j + 1)) (j + 1) = thr rg m lk L X k) := by rw [← firstBad_step hjl (HE.out.trans hE)]; exact HF.out
                clear hE HF
                go_wp2_with (first | (go_at_call 43; refine (checkOrder_any _ _ _ _ _ _ _ _ _ _ (hmi _)).mono ?_; rintro e w5 ⟨rfl, hb5⟩; rw [HE.out]))
                go_roundw
                case rel => exact ⟨j + 1, by omega, by go_num, hbi.trans (((Below.refl _ _).alloc hsi _).trans (hb5.mono (by simp; omega))), HF2.out⟩
                case measure => simp [intOf]; omega
              · have hne : (ev != 0) = true := by simpa using hE
                have HE2 : Hid ((x, y, z) = (ev, (k : Int), (j : Int))) := by
                  have := firstBad_hit (E := fun i => ordE rg m lk (L k) (X k i 0) (X k i 1) (X k i 2) (X k i 3)) hjl (by rw [HE.out]; exact hE)
                  rw [HF.out, HE.out] at this
                  show (x, y, z) = _
                  rw [← HK.out, firstThread_hit hlt this]
                clear hE HF HK
                go_wp2_with (first | (go_at_call 43; refine (checkOrder_any _ _ _ _ _ _ _ _ _ _ (hmi _)).mono ?_; rintro e w5 ⟨rfl, hb5⟩; rw [HE.out]; have hbx6 := ((hby.below hb2i).below ((Below.refl _ _).alloc (Nat.le_refl _) _)).below hb5; obtain ⟨hsz, p0, p1, p2, p3, r0, r1, r2, f0, f1, f2⟩ := hbx6))
                exact bodyPost_ret (v := ints3 ev k j) (by simp [results, Tryz.results15, go_sem, r0, r1, r2]) rfl
                  ⟨ret3 HE2.out, ((((HB2.trans (hb2i.mono HB2.size)).trans (((Below.refl _ _).alloc (by have := HB2.size; have := hb2i.size; omega) _).trans (hb5.mono (by have := HB2.size; have := hb2i.size; simp; omega)))).setCell (by simp) _).setCell (by simp) _).setCell (by simp) _⟩
            · have hth : thr rg m lk L X k = none := by rw [← HF.out, firstBad_end (by omega)]
              have HK2 : Hid (firstThread (thr rg m lk L X) (n - (k + 1)) (k + 1) = (x, y, z)) := by rw [← firstThread_step hlt hth]; exact HK.out
              clear hth HK HF
              go_wp2
              go_roundw
              case rel => exact ⟨k + 1, by omega, by go_num, hb2i, HK2.out⟩
              case measure => simp [intOf]; omega
    · have hend : (x, y, z) = (0, 0, 0) := by rw [← HK.out, firstThread_end (by omega)]
      obtain ⟨hsz, p0, p1, p2, p3, r0, r1, r2, f0, f1, f2⟩ := hby.below hbr
      have HE : Hid ((x, y, z) = (0, 0, 0)) := hend
      clear hend
      go_wp2
      exact bodyPost_ret (v := ints3 0 0 0) (by simp [results, Tryz.results15, go_sem, r0, r1, r2]) rfl
        ⟨ret3 HE.out, (((HB2.trans (hbr.mono HB2.size)).setCell (by simp) _).setCell (by simp) _).setCell (by simp) _⟩

/-- Check, of every program that lies in memory: it answers the first thing that is wrong, and nothing that was there has changed. -/
theorem check_any (ca : Option Addr) (n cc : Nat) (wa : Option Addr) (m wc : Nat) (lk rg : Int) (A : Nat → Option Addr) (L C : Nat → Nat) (X : Nat → Nat → Nat → Int) (x y z : Int) (HR : Hid (chk n L X m lk rg = (x, y, z))) (w : World) (hp : PIn w ca n A L C X) :
    Calls Tryz.prog 15 #[prgV ca n cc wa m wc lk rg] w fun e w' => e = .returned (ints3 x y z) ∧ Below w.heap.size w w' := by
  have h := HR.out
  unfold chk at h
  by_cases h0 : sizesE n m lk rg = 0
  · rw [if_neg (by simpa using h0)] at h
    exact check_go ca n cc wa m wc lk rg A L C X _ x y z rfl (by simpa using h0) h w hp
  · rw [if_pos h0] at h
    simp only [Prod.mk.injEq] at h
    obtain ⟨h1, rfl, rfl⟩ := h
    exact check_sizes ca n cc wa m wc lk rg x h1.symm (by rw [← h1]; simpa using h0) w
end

end Go.Proofs.YtgofbkgfonlceacGreatDoor
