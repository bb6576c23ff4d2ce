/-
  The words of what is spilt: newBrush.
  Where an order finds a register, and what is fetched and kept: the program's small functions.
-/
import Derived.Test.YtocfocjnnjdcgaaDoorAlcA
import Derived.Test.YtocfocjnnjdcgaaDoorRMay
import Derived.Test.YtocfocjnnjdcgaaDoorBox
import Derived.Test.YtocfocjnnjdcgaaDoorCOkP
import Derived.BigQuiet
import Derived.Deep.RegionHeld3
namespace Go.Proofs.YtocfocjnnjdcgaaDoor
section
open Go.RowKit

/-- How many of the first registers are spilt. -/
def spN (k : List Int) : Nat → Nat
  | 0 => 0
  | r + 1 => spN k r + if k.getD r 0 < 0 then 1 else 0
/-- How many of the first threads' are. -/
def spT (K : List (List Int)) (rg : Nat) : Nat → Nat
  | 0 => 0
  | t + 1 => spT K rg t + spN (K.getD t []) rg
/-- The word of a register that is spilt. -/
def wdT (m : Nat) (K : List (List Int)) (rg t r : Nat) : Nat := m + (spT K rg t + spN (K.getD t []) r)
/-- The table when the threads ahead of t, and the registers ahead of r of it, are in it. -/
def fwT (m : Nat) (K : List (List Int)) (rg t r : Nat) : Nat → Nat → Option Nat := fun a b => if ((a < t ∧ b < rg) ∨ (a = t ∧ b < r)) ∧ (K.getD a []).getD b 0 < 0 then some (wdT m K rg a b) else none
theorem spN_le (k : List Int) : ∀ r, spN k r ≤ r
  | 0 => Nat.le_refl _
  | r + 1 => by
    have := spN_le k r
    simp only [spN]
    split <;> omega
theorem spT_le (K : List (List Int)) (rg : Nat) : ∀ t, spT K rg t ≤ t * rg
  | 0 => by simp [spT]
  | t + 1 => by
    have := spT_le K rg t
    have := spN_le (K.getD t []) rg
    rw [spT, Nat.succ_mul]
    omega
theorem fwT_new (m : Nat) (K : List (List Int)) (rg : Nat) : fwT m K rg 0 0 = fun _ _ => none := by
  funext a b
  exact if_neg (by omega)
theorem fwT_row (m : Nat) (K : List (List Int)) (rg t : Nat) : fwT m K rg t rg = fwT m K rg (t + 1) 0 := by
  funext a b
  have e : ((a < t ∧ b < rg) ∨ (a = t ∧ b < rg)) ↔ ((a < t + 1 ∧ b < rg) ∨ (a = t + 1 ∧ b < 0)) := by omega
  simp only [fwT, e]
theorem fwT_none (m : Nat) (K : List (List Int)) (rg t r : Nat) : fwT m K rg t r t r = none := if_neg (by omega)
theorem fwT_skip {m : Nat} {K : List (List Int)} {rg t r : Nat} (h : ¬ (K.getD t []).getD r 0 < 0) : fwT m K rg t (r + 1) = fwT m K rg t r := by
  funext a b
  by_cases hab : a = t ∧ b = r
  · obtain ⟨rfl, rfl⟩ := hab
    rw [fwT_none]
    exact if_neg fun hh => h hh.2
  · have e : ((a < t ∧ b < rg) ∨ (a = t ∧ b < r + 1)) ↔ ((a < t ∧ b < rg) ∨ (a = t ∧ b < r)) := by omega
    simp only [fwT, e]
theorem fwT_put {m : Nat} {K : List (List Int)} {rg t r : Nat} (h : (K.getD t []).getD r 0 < 0) : (fun a b => if a = t ∧ b = r then some (wdT m K rg t r) else fwT m K rg t r a b) = fwT m K rg t (r + 1) := by
  funext a b
  by_cases hab : a = t ∧ b = r
  · obtain ⟨rfl, rfl⟩ := hab
    have h1 : ((a < a ∧ b < rg) ∨ (a = a ∧ b < b + 1)) ∧ (K.getD a []).getD b 0 < 0 := ⟨Or.inr ⟨rfl, by omega⟩, h⟩
    show (if a = a ∧ b = b then some (wdT m K rg a b) else fwT m K rg a b a b) = if ((a < a ∧ b < rg) ∨ (a = a ∧ b < b + 1)) ∧ (K.getD a []).getD b 0 < 0 then some (wdT m K rg a b) else none
    rw [if_pos h1, if_pos ⟨rfl, rfl⟩]
  · have e : ((a < t ∧ b < rg) ∨ (a = t ∧ b < r + 1)) ↔ ((a < t ∧ b < rg) ∨ (a = t ∧ b < r)) := by omega
    simp only [fwT, e, if_neg hab]
theorem spN_put {k : List Int} {r : Nat} (h : k.getD r 0 < 0) : spN k (r + 1) = spN k r + 1 := by rw [spN, if_pos h]
theorem spN_skip {k : List Int} {r : Nat} (h : ¬ k.getD r 0 < 0) : spN k (r + 1) = spN k r := by rw [spN, if_neg h]; rfl

/-- What a brush is. -/
def brV (ca : Option Addr) (n cc : Nat) (ka : Option Addr) (kn kc mb : Nat) : Value := .agg #[.slice ca n cc, .slice ka kn kc, .map (some mb)]

/-- While the words are given out. -/
structure BrI (w W : World) (PO : Obj) (mb k : Nat) (F : Nat → Nat → Option Nat) : Prop where
  low : Below w.heap.size w W
  prg : W.heap[w.heap.size]? = some PO
  bru : W.heap[w.heap.size + 1]? = some (.cells #[nilV, nilV, .map none] 75)
  map : WMap W mb k F
theorem br_done {W : World} {g : Nat} (h : W.heap[g]? = some (.cells #[nilV, nilV, .map none] 75)) (x y z : Value) : (((W.setCell ⟨g, 0, none⟩ x).setCell ⟨g, 1, none⟩ y).setCell ⟨g, 2, none⟩ z).heap[g]? = some (.cells #[x, y, z] 75) :=
  heap_set_same (i := 2) (u := z) (heap_set_same (i := 1) (u := y) (heap_set_same (i := 0) (u := x) h))

set_option maxRecDepth 100000 in
set_option maxHeartbeats 3200000 in
theorem brush_any (w : World) (ca : Option Addr) (n cc : Nat) (wa : Option Addr) (m wc : Nat) (lk rg : Int) (ka : Option Addr) (kn kc g : Nat) (K : List (List Int)) (hK : CIn w ka K) (hkn : K.length = kn) (hk4 : kn ≤ 4) (hlen : ∀ t, t < kn → (K.getD t []).length = g) (hg : g ≤ 200) (hlo : ∀ t r, t < kn → r < g → -1 ≤ (K.getD t []).getD r 0) (hm : m ≤ 64) :
    Calls Tryd.prog 38 #[prgV ca n cc wa m wc lk rg, .slice ka kn kc] w fun e w' => ∃ mb, e = .returned (brV ca n cc ka kn kc mb) ∧ WMap w' mb (spT K g kn) (fwT m K g kn 0) ∧ w.heap.size ≤ mb ∧ Below w.heap.size w w' := by
  have HK : Hid (CIn w ka K) := hK
  have HKN := Hid.out (p := Hid _) hkn
  have HL := Hid.out (p := Hid _) hlen
  have HLO := Hid.out (p := Hid _) hlo
  have h3 : Below w.heap.size w (((w.alloc (.cells #[.slice ca n cc, .slice wa m wc, .int .i64 lk, .int .i64 rg] 25)).alloc (.cells #[nilV, nilV, .map none] 75)).alloc (.map #[] 0)) := (below_two w _ _).alloc (below_two w _ _).size _
  have hp : (((w.alloc (.cells #[.slice ca n cc, .slice wa m wc, .int .i64 lk, .int .i64 rg] 25)).alloc (.cells #[nilV, nilV, .map none] 75)).alloc (.map #[] 0)).heap[w.heap.size]? = some (.cells #[.slice ca n cc, .slice wa m wc, .int .i64 lk, .int .i64 rg] 25) := box_later (two_at w _ _).2.1 _
  have hq : (((w.alloc (.cells #[.slice ca n cc, .slice wa m wc, .int .i64 lk, .int .i64 rg] 25)).alloc (.cells #[nilV, nilV, .map none] 75)).alloc (.map #[] 0)).heap[w.heap.size + 1]? = some (.cells #[nilV, nilV, .map none] 75) := box_later (two_at w _ _).2.2 _
  have hM := wmap_new ((w.alloc (.cells #[.slice ca n cc, .slice wa m wc, .int .i64 lk, .int .i64 rg] 25)).alloc (.cells #[nilV, nilV, .map none] 75))
  have hs : ((w.alloc (.cells #[.slice ca n cc, .slice wa m wc, .int .i64 lk, .int .i64 rg] 25)).alloc (.cells #[nilV, nilV, .map none] 75)).heap.size = w.heap.size + 1 + 1 := by simp
  rw [hs] at hM
  obtain ⟨W0, hW0⟩ : ∃ V, ((w.alloc (.cells #[.slice ca n cc, .slice wa m wc, .int .i64 lk, .int .i64 rg] 25)).alloc (.cells #[nilV, nilV, .map none] 75)).alloc (.map #[] 0) = V := ⟨_, rfl⟩
  rw [hW0] at h3 hp hq hM
  have HW0 := Hid.out (p := Hid _) hW0
  have hmm := @run_makeMap Tryd.prog
  clear hK hkn hlen hlo hs hW0
  go_enter Tryd.func38, Tryd.ntmps38
  go_wp2
  rw [HW0.out]
  have HST : Hid (BrI w W0 (.cells #[.slice ca n cc, .slice wa m wc, .int .i64 lk, .int .i64 rg] 25) (w.heap.size + 1 + 1) 0 (fun _ _ => none)) := ⟨h3, hp, hq, hM⟩
  clear h3 hp hq hM HW0 hmm
  go_loopw [13] (fun iv wr => ∃ t : Nat, t ≤ kn ∧ iv = .int .i64 t ∧ Hid (BrI w wr (.cells #[.slice ca n cc, .slice wa m wc, .int .i64 lk, .int .i64 rg] 25) (w.heap.size + 1 + 1) (spT K g t) (fwT m K g t 0))) (fun iv _ => kn - (intOf iv).toNat)
  case atStart => exact ⟨0, Nat.zero_le _, rfl, by rw [fwT_new]; exact HST.out⟩
  case round =>
    clear HST
    obtain ⟨t, ht, rfl, HI⟩ := hrel
    by_cases htn : t < kn
    · obtain ⟨kb, ko, ra, rc, rfl, hkc, hks⟩ := HK.out t (by rw [HKN.out]; exact htn)
      obtain ⟨k, hk⟩ : ∃ k, K.getD t [] = k := ⟨_, rfl⟩
      have hkl : k.length = g := by rw [← hk]; exact HL.out t htn
      rw [hk, hkl] at hkc
      rw [hk] at hks
      have hkc := (HI.out.low.cell (lt_of_cell hkc)).trans hkc
      have HKT := Hid.out (p := Hid _) hk
      have HKL := Hid.out (p := Hid _) hkl
      have HKS : Hid (∀ V, Below w.heap.size w V → SIs V ra k) := fun V hV => hks.below hV
      have htI : (t : Int) < (kn : Int) := by omega
      clear hk hkl hks
      go_wp2
      clear hkc
      go_loopw [20] (fun iv wi => ∃ r : Nat, r ≤ g ∧ iv = .int .i64 r ∧ Hid (BrI w wi (.cells #[.slice ca n cc, .slice wa m wc, .int .i64 lk, .int .i64 rg] 25) (w.heap.size + 1 + 1) (spT K g t + spN k r) (fwT m K g t r))) (fun iv _ => g - (intOf iv).toNat)
      case atStart => exact ⟨0, Nat.zero_le _, rfl, HI.out⟩
      case round =>
        clear HI
        obtain ⟨r, hr, rfl, HI⟩ := hrel
        by_cases hrg : r < g
        · have hrI : (r : Int) < (g : Int) := by omega
          obtain ⟨vb, vo, rfl, hc⟩ := HKS.out wr HI.out.low r (by rw [HKL.out]; exact hrg)
          obtain ⟨v, hv⟩ : ∃ v, k.getD r 0 = v := ⟨_, rfl⟩
          rw [hv] at hc
          have HVV := Hid.out (p := Hid _) hv
          have hv1 : -1 ≤ v := by rw [← hv, ← HKT.out]; exact HLO.out t r htn hrg
          have p1 := box_cell (i := 1) HI.out.prg rfl
          clear hv
          by_cases hneg : v < 0
          · obtain rfl : v = -1 := by omega
            obtain ⟨cn, hcn⟩ : ∃ q, spT K g t + spN k r = q := ⟨_, rfl⟩
            have hcb : cn ≤ 1000 := by
              have h1 := spT_le K g t
              have h2 := spN_le k r
              have h4 : t * g ≤ 3 * 200 := Nat.mul_le_mul (by omega) hg
              omega
            obtain ⟨W', hrun, hM', hs', hfar', hlow'⟩ := wmap_put HI.out.map (t := t) (r := r) (by omega) (by omega) (fwT_none m K g t r) (m + cn)
            have HN : Hid (BrI w W' (.cells #[.slice ca n cc, .slice wa m wc, .int .i64 lk, .int .i64 rg] 25) (w.heap.size + 1 + 1) (spT K g t + spN k (r + 1)) (fwT m K g t (r + 1))) := by
              refine ⟨hlow' _ _ (by omega) HI.out.low, (hfar' _ (by omega)).trans HI.out.prg, (hfar' _ (by omega)).trans HI.out.bru, ?_⟩
              have e1 : wdT m K g t r = m + cn := by rw [wdT, HKT.out, hcn]
              rw [← e1, fwT_put (by rw [HKT.out, HVV.out]; omega), hcn] at hM'
              rw [spN_put (by rw [HVV.out]; omega), ← Nat.add_assoc, hcn]
              exact hM'
            have hcast : ((m + cn : Nat) : Int) = (m : Int) + (cn : Int) := by omega
            rw [ownKV, hcast] at hrun
            have hln := wmap_len HI.out.map
            rw [hcn] at hln
            clear hM' hs' hfar' hlow'
            go_wp2
            go_roundw
            case rel => exact ⟨r + 1, by omega, by go_num, HN.out⟩
            case measure => simp [intOf]; omega
          · have hne : (v == -1) = false := by simp; omega
            have HN : Hid (BrI w wr (.cells #[.slice ca n cc, .slice wa m wc, .int .i64 lk, .int .i64 rg] 25) (w.heap.size + 1 + 1) (spT K g t + spN k (r + 1)) (fwT m K g t (r + 1))) := by
              rw [spN_skip (by rw [HVV.out]; exact hneg), fwT_skip (by rw [HKT.out, HVV.out]; exact hneg)]
              exact HI.out
            clear hneg
            go_wp2
            go_roundw
            case rel => exact ⟨r + 1, by omega, by go_num, HN.out⟩
            case measure => simp [intOf]; omega
        · obtain rfl : g = r := by omega
          go_wp2
          go_roundw
          case rel =>
            refine ⟨t + 1, by omega, by go_num, ?_⟩
            have := HI.out
            rw [fwT_row, ← HKT.out] at this
            exact this
          case measure => simp [intOf]; omega
    · obtain rfl : kn = t := by omega
      have HBR := Hid.out (p := Hid _) (br_done HI.out.bru (.slice ca n cc) (.slice ka kn kc) (.map (some (w.heap.size + 1 + 1))))
      have p0 := box_cell (i := 0) HI.out.prg rfl
      have q0 := box_cell (i := 0) HI.out.bru rfl
      have q1 := box_cell (i := 1) HI.out.bru rfl
      have q2 := box_cell (i := 2) HI.out.bru rfl
      have qf : ∀ i, wr.frozen? ⟨w.heap.size + 1, i, none⟩ = false := fun i => box_free HI.out.bru
      go_wp2
      refine bodyPost_ret (v := brV ca n cc ka kn kc (w.heap.size + 1 + 1)) (by simp [results, brV, Tryd.results38, go_sem, box_cell (i := 0) HBR.out rfl, box_cell (i := 1) HBR.out rfl, box_cell (i := 2) HBR.out rfl]) rfl ⟨w.heap.size + 1 + 1, rfl, ?_, by omega, set3_low HI.out.low (by omega) _ _ _⟩
      have hM := HI.out.map
      obtain ⟨es, c, h1, h2⟩ := hM
      exact ⟨es, c, (set3_far (by omega) _ _ _).trans h1, h2⟩
end

section
open Go.RowKit

/-- Where an order finds a register: its colour, or the one at hand. -/
def seT (k : List Int) (h : Int) (r : Int) : Int := if k.getD r.toNat 0 < 0 then h else k.getD r.toNat 0
/-- What is fetched. -/
def feT (k : List Int) (wd : Nat → Nat) (h : Int) (r : Int) : List I4 := if k.getD r.toNat 0 < 0 then [(8, h, (wd r.toNat : Nat), 0)] else []
/-- What is kept. -/
def keT (k : List Int) (wd : Nat → Nat) (r : Int) : List I4 := if k.getD r.toNat 0 < 0 then [(9, (wd r.toNat : Nat), 6, 0)] else []

theorem three_at (W : World) (O P Q : Obj) : (((W.alloc O).alloc P).alloc Q).heap[W.heap.size + 1 + 1]? = some Q := by
  have := heap_alloc_new ((W.alloc O).alloc P) Q
  rwa [World.size_alloc, World.size_alloc] at this
/-- A brush in memory. -/
structure BrM (W : World) (ka : Option Addr) (kn mb : Nat) (K : List (List Int)) (m g : Nat) : Prop where
  col : CIn W ka K
  len : K.length = kn
  row : ∀ t, t < kn → (K.getD t []).length = g
  low : ∀ t r, t < kn → r < g → -1 ≤ (K.getD t []).getD r 0 ∧ (K.getD t []).getD r 0 < 6
  num : kn ≤ 4 ∧ g ≤ 200 ∧ m ≤ 64
  map : WMap W mb (spT K g kn) (fwT m K g kn 0)
theorem BrM.below {W V : World} {ka : Option Addr} {kn mb : Nat} {K : List (List Int)} {m g : Nat} (h : BrM W ka kn mb K m g) (hb : Below W.heap.size W V) : BrM V ka kn mb K m g := ⟨h.col.below hb, h.len, h.row, h.low, h.num, h.map.below hb⟩
theorem BrM.word {W : World} {ka : Option Addr} {kn mb : Nat} {K : List (List Int)} {m g : Nat} (h : BrM W ka kn mb K m g) {t r : Nat} (ht : t < kn) (hr : r < g) :
    (Instr.lookup 73 (.map (some mb)) (.agg #[.int .i64 (t : Int), .int .i64 (r : Int)]) true).run Tryd.prog W = .ok (.tuple #[.int .i64 (if (K.getD t []).getD r 0 < 0 then (wdT m K g t r : Nat) else 0), .bool (decide ((K.getD t []).getD r 0 < 0))]) W := by
  have h1 := wmap_look h.map (t := t) (r := r) (by have := h.num; omega) (by have := h.num; omega)
  have e : fwT m K g kn 0 t r = if (K.getD t []).getD r 0 < 0 then some (wdT m K g t r) else none := by
    unfold fwT
    by_cases hs : (K.getD t []).getD r 0 < 0
    · rw [if_pos ⟨Or.inl ⟨ht, hr⟩, hs⟩, if_pos hs]
    · rw [if_neg fun hh => hs hh.2, if_neg hs]
  rw [e] at h1
  rw [ownKV] at h1
  rw [h1]
  by_cases hs : (K.getD t []).getD r 0 < 0
  · rw [if_pos hs, if_pos hs]
    simp only [hs, decide_true]
    rfl
  · rw [if_neg hs, if_neg hs]
    simp only [hs, decide_false]
    rfl

set_option maxRecDepth 100000 in
set_option maxHeartbeats 3200000 in
theorem seat_any (w : World) (ca : Option Addr) (n cc : Nat) (ka : Option Addr) (kn kc mb : Nat) (K : List (List Int)) (m g : Nat) (h : BrM w ka kn mb K m g) (t r : Nat) (ht : t < kn) (hr : r < g) (hd : Int) :
    Calls Tryd.prog 62 #[.agg #[.slice ca n cc, .slice ka kn kc, .map (some mb)], .agg #[.int .i64 (t : Int), .int .i64 (r : Int)], .int .i64 hd] w fun e w' => e = .returned (.int .i64 (seT (K.getD t []) hd r)) ∧ Below w.heap.size w w' := by
  obtain ⟨kb, ko, ra, rc, rfl, hkc, hks⟩ := h.col t (by rw [h.len]; exact ht)
  rw [h.row t ht] at hkc
  obtain ⟨vb, vo, rfl, hc⟩ := hks r (by rw [h.row t ht]; exact hr)
  have hlo := (h.low t r ht hr).1
  have hse : seT (K.getD t []) hd r = if (K.getD t []).getD r 0 < 0 then hd else (K.getD t []).getD r 0 := rfl
  obtain ⟨v, hv⟩ : ∃ v, (K.getD t []).getD r 0 = v := ⟨_, rfl⟩
  rw [hv] at hc hlo hse
  obtain ⟨k, hk⟩ : ∃ k, K.getD t [] = k := ⟨_, rfl⟩
  rw [hk] at hse ⊢
  have HSE := Hid.out (p := Hid _) hse
  have htI : (t : Int) < (kn : Int) := by omega
  have hrI : (r : Int) < (g : Int) := by omega
  have u1 := fun o o' => cell_drw (cell_up (cell_up hkc o) o')
  have u2 := fun o o' => cell_drw (cell_up (cell_up hc o) o')
  clear hks hv hse h hc hkc hk
  go_enter Tryd.func62, Tryd.ntmps62
  go_wp2
  by_cases hneg : v < 0
  · obtain rfl : v = -1 := by omega
    go_region
    all_goals go_wp2
    all_goals go_ret
    all_goals exact ⟨by rw [HSE.out]; rfl, by first | exact below_two _ _ _ | exact (below_two _ _ _).drew | exact below_drewN (below_two _ _ _)⟩
  · have hne : (v != -1) = true := by simp; omega
    go_region
    all_goals go_wp2
    all_goals go_ret
    all_goals exact ⟨by rw [HSE.out, if_neg (by omega)]; rfl, by first | exact below_two _ _ _ | exact (below_two _ _ _).drew | exact below_drewN (below_two _ _ _)⟩

set_option maxRecDepth 100000 in
set_option maxHeartbeats 3200000 in
theorem fetch_any (w : World) (ca : Option Addr) (n cc : Nat) (ka : Option Addr) (kn kc mb : Nat) (K : List (List Int)) (m g : Nat) (h : BrM w ka kn mb K m g) (t r : Nat) (ht : t < kn) (hr : r < g) (hd : Int) :
    Calls Tryd.prog 63 #[.agg #[.slice ca n cc, .slice ka kn kc, .map (some mb)], .agg #[.int .i64 (t : Int), .int .i64 (r : Int)], .int .i64 hd] w fun e w' => ∃ sa c, e = .returned (.slice sa (feT (K.getD t []) (wdT m K g t) hd r).length c) ∧ SrcL w' sa (cellsT (feT (K.getD t []) (wdT m K g t) hd r)) ∧ Below w.heap.size w w' := by
  have hb := below_two w (.cells #[.slice ca n cc, .slice ka kn kc, .map (some mb)] 75) (.cells #[.int .i64 (t : Int), .int .i64 (r : Int)] 101)
  have hlk := (h.below hb).word ht hr
  have hfe : feT (K.getD t []) (wdT m K g t) hd r = if (K.getD t []).getD r 0 < 0 then ([(8, hd, ((wdT m K g t r : Nat) : Int), 0)] : List I4) else [] := rfl
  have HB := Hid.out (p := Hid _) hb
  obtain ⟨fl, hfl⟩ : ∃ l, feT (K.getD t []) (wdT m K g t) hd r = l := ⟨_, rfl⟩
  rw [hfl] at hfe ⊢
  by_cases hneg : (K.getD t []).getD r 0 < 0
  · rw [if_pos hneg] at hfe
    simp only [hneg, if_true, decide_true] at hlk
    subst hfe
    clear h hb hfl
    go_enter Tryd.func63, Tryd.ntmps63
    go_wp2
    go_ret
    first
    | exact ⟨_, _, rfl, srcL_block (three_at _ _ _ _), HB.out.alloc HB.out.size _⟩
    | exact ⟨_, ⟨_, rfl⟩, srcL_block (three_at _ _ _ _), HB.out.alloc HB.out.size _⟩
  · rw [if_neg hneg] at hfe
    simp only [hneg, if_false, decide_false] at hlk
    subst hfe
    clear h hb hfl
    go_enter Tryd.func63, Tryd.ntmps63
    go_wp2
    go_ret
    first
    | exact ⟨none, 0, rfl, srcL_nil _ _, HB.out⟩
    | exact ⟨none, ⟨0, rfl⟩, srcL_nil _ _, HB.out⟩

set_option maxRecDepth 100000 in
set_option maxHeartbeats 3200000 in
theorem keep_any (w : World) (ca : Option Addr) (n cc : Nat) (ka : Option Addr) (kn kc mb : Nat) (K : List (List Int)) (m g : Nat) (h : BrM w ka kn mb K m g) (t r : Nat) (ht : t < kn) (hr : r < g) :
    Calls Tryd.prog 64 #[.agg #[.slice ca n cc, .slice ka kn kc, .map (some mb)], .agg #[.int .i64 (t : Int), .int .i64 (r : Int)]] w fun e w' => ∃ sa c, e = .returned (.slice sa (keT (K.getD t []) (wdT m K g t) r).length c) ∧ SrcL w' sa (cellsT (keT (K.getD t []) (wdT m K g t) r)) ∧ (∀ b o, sa = some ⟨b, o, none⟩ → w.heap.size ≤ b) ∧ Below w.heap.size w w' := by
  have hb := below_two w (.cells #[.slice ca n cc, .slice ka kn kc, .map (some mb)] 75) (.cells #[.int .i64 (t : Int), .int .i64 (r : Int)] 101)
  have hlk := (h.below hb).word ht hr
  have hfe : keT (K.getD t []) (wdT m K g t) r = if (K.getD t []).getD r 0 < 0 then ([(9, ((wdT m K g t r : Nat) : Int), 6, 0)] : List I4) else [] := rfl
  have HB := Hid.out (p := Hid _) hb
  obtain ⟨fl, hfl⟩ : ∃ l, keT (K.getD t []) (wdT m K g t) r = l := ⟨_, rfl⟩
  rw [hfl] at hfe ⊢
  by_cases hneg : (K.getD t []).getD r 0 < 0
  · rw [if_pos hneg] at hfe
    simp only [hneg, if_true, decide_true] at hlk
    subst hfe
    clear h hb hfl
    go_enter Tryd.func64, Tryd.ntmps64
    go_wp2
    go_ret
    first
    | exact ⟨_, _, rfl, srcL_block (three_at _ _ _ _), fun b o e => (by simp only [Option.some.injEq, Addr.mk.injEq] at e; omega), HB.out.alloc HB.out.size _⟩
    | exact ⟨_, ⟨_, rfl⟩, srcL_block (three_at _ _ _ _), fun b o e => (by simp only [Option.some.injEq, Addr.mk.injEq] at e; omega), HB.out.alloc HB.out.size _⟩
  · rw [if_neg hneg] at hfe
    simp only [hneg, if_false, decide_false] at hlk
    subst hfe
    clear h hb hfl
    go_enter Tryd.func64, Tryd.ntmps64
    go_wp2
    go_ret
    first
    | exact ⟨none, 0, rfl, srcL_nil _ _, fun b o e => (by cases e), HB.out⟩
    | exact ⟨none, ⟨0, rfl⟩, srcL_nil _ _, fun b o e => (by cases e), HB.out⟩
end

end Go.Proofs.YtocfocjnnjdcgaaDoor
