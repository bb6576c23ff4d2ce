/-
  Where an order finds a register, and what is fetched and kept: the program's small functions.
-/
import Derived.Test.YtocfocjnnjdcgaaDoorAlpB
import Derived.Test.YtocfocjnnjdcgaaDoorFApp
import Derived.BigQuiet
import Derived.Deep.RegionHeld3
namespace Go.Proofs.YtocfocjnnjdcgaaDoor
open Go.RowKit

/-- Where an order finds a register: its colour, or the one at hand. -/
def seT (k : List Int) (h : Int) (r : Int) : Int := if k.getD r.toNat 0 < 0 then h else k.getD r.toNat 0
/-- What is fetched. -/
def feT (k : List Int) (wd : Nat → Nat) (h : Int) (r : Int) : List I4 := if k.getD r.toNat 0 < 0 then [(8, h, (wd r.toNat : Nat), 0)] else []
/-- What is kept. -/
def keT (k : List Int) (wd : Nat → Nat) (r : Int) : List I4 := if k.getD r.toNat 0 < 0 then [(9, (wd r.toNat : Nat), 6, 0)] else []

theorem three_at (W : World) (O P Q : Obj) : (((W.alloc O).alloc P).alloc Q).heap[W.heap.size + 1 + 1]? = some Q := by
  have := heap_alloc_new ((W.alloc O).alloc P) Q
  rwa [World.size_alloc, World.size_alloc] at this
/-- A brush in memory. -/
structure BrM (W : World) (ka : Option Addr) (kn mb : Nat) (K : List (List Int)) (m g : Nat) : Prop where
  col : CIn W ka K
  len : K.length = kn
  row : ∀ t, t < kn → (K.getD t []).length = g
  low : ∀ t r, t < kn → r < g → -1 ≤ (K.getD t []).getD r 0 ∧ (K.getD t []).getD r 0 < 6
  num : kn ≤ 4 ∧ g ≤ 200 ∧ m ≤ 64
  map : WMap W mb (spT K g kn) (fwT m K g kn 0)
theorem BrM.below {W V : World} {ka : Option Addr} {kn mb : Nat} {K : List (List Int)} {m g : Nat} (h : BrM W ka kn mb K m g) (hb : Below W.heap.size W V) : BrM V ka kn mb K m g := ⟨h.col.below hb, h.len, h.row, h.low, h.num, h.map.below hb⟩
theorem BrM.word {W : World} {ka : Option Addr} {kn mb : Nat} {K : List (List Int)} {m g : Nat} (h : BrM W ka kn mb K m g) {t r : Nat} (ht : t < kn) (hr : r < g) :
    (Instr.lookup 73 (.map (some mb)) (.agg #[.int .i64 (t : Int), .int .i64 (r : Int)]) true).run Tryd.prog W = .ok (.tuple #[.int .i64 (if (K.getD t []).getD r 0 < 0 then (wdT m K g t r : Nat) else 0), .bool (decide ((K.getD t []).getD r 0 < 0))]) W := by
  have h1 := wmap_look h.map (t := t) (r := r) (by have := h.num; omega) (by have := h.num; omega)
  have e : fwT m K g kn 0 t r = if (K.getD t []).getD r 0 < 0 then some (wdT m K g t r) else none := by
    unfold fwT
    by_cases hs : (K.getD t []).getD r 0 < 0
    · rw [if_pos ⟨Or.inl ⟨ht, hr⟩, hs⟩, if_pos hs]
    · rw [if_neg fun hh => hs hh.2, if_neg hs]
  rw [e] at h1
  rw [ownKV] at h1
  rw [h1]
  by_cases hs : (K.getD t []).getD r 0 < 0
  · rw [if_pos hs, if_pos hs]
    simp only [hs, decide_true]
    rfl
  · rw [if_neg hs, if_neg hs]
    simp only [hs, decide_false]
    rfl

set_option maxRecDepth 100000 in
set_option maxHeartbeats 3200000 in
theorem seat_any (w : World) (ca : Option Addr) (n cc : Nat) (ka : Option Addr) (kn kc mb : Nat) (K : List (List Int)) (m g : Nat) (h : BrM w ka kn mb K m g) (t r : Nat) (ht : t < kn) (hr : r < g) (hd : Int) :
    Calls Tryd.prog 62 #[.agg #[.slice ca n cc, .slice ka kn kc, .map (some mb)], .agg #[.int .i64 (t : Int), .int .i64 (r : Int)], .int .i64 hd] w fun e w' => e = .returned (.int .i64 (seT (K.getD t []) hd r)) ∧ Below w.heap.size w w' := by
  obtain ⟨kb, ko, ra, rc, rfl, hkc, hks⟩ := h.col t (by rw [h.len]; exact ht)
  rw [h.row t ht] at hkc
  obtain ⟨vb, vo, rfl, hc⟩ := hks r (by rw [h.row t ht]; exact hr)
  have hlo := (h.low t r ht hr).1
  have hse : seT (K.getD t []) hd r = if (K.getD t []).getD r 0 < 0 then hd else (K.getD t []).getD r 0 := rfl
  obtain ⟨v, hv⟩ : ∃ v, (K.getD t []).getD r 0 = v := ⟨_, rfl⟩
  rw [hv] at hc hlo hse
  obtain ⟨k, hk⟩ : ∃ k, K.getD t [] = k := ⟨_, rfl⟩
  rw [hk] at hse ⊢
  have HSE := Hid.out (p := Hid _) hse
  have htI : (t : Int) < (kn : Int) := by omega
  have hrI : (r : Int) < (g : Int) := by omega
  have u1 := fun o o' => cell_drw (cell_up (cell_up hkc o) o')
  have u2 := fun o o' => cell_drw (cell_up (cell_up hc o) o')
  clear hks hv hse h hc hkc hk
  go_enter Tryd.func62, Tryd.ntmps62
  go_wp2
  by_cases hneg : v < 0
  · obtain rfl : v = -1 := by omega
    go_region
    all_goals go_wp2
    all_goals go_ret
    all_goals exact ⟨by rw [HSE.out]; rfl, by first | exact below_two _ _ _ | exact (below_two _ _ _).drew | exact below_drewN (below_two _ _ _)⟩
  · have hne : (v != -1) = true := by simp; omega
    go_region
    all_goals go_wp2
    all_goals go_ret
    all_goals exact ⟨by rw [HSE.out, if_neg (by omega)]; rfl, by first | exact below_two _ _ _ | exact (below_two _ _ _).drew | exact below_drewN (below_two _ _ _)⟩

set_option maxRecDepth 100000 in
set_option maxHeartbeats 3200000 in
theorem fetch_any (w : World) (ca : Option Addr) (n cc : Nat) (ka : Option Addr) (kn kc mb : Nat) (K : List (List Int)) (m g : Nat) (h : BrM w ka kn mb K m g) (t r : Nat) (ht : t < kn) (hr : r < g) (hd : Int) :
    Calls Tryd.prog 63 #[.agg #[.slice ca n cc, .slice ka kn kc, .map (some mb)], .agg #[.int .i64 (t : Int), .int .i64 (r : Int)], .int .i64 hd] w fun e w' => ∃ sa c, e = .returned (.slice sa (feT (K.getD t []) (wdT m K g t) hd r).length c) ∧ SrcL w' sa (cellsT (feT (K.getD t []) (wdT m K g t) hd r)) ∧ Below w.heap.size w w' := by
  have hb := below_two w (.cells #[.slice ca n cc, .slice ka kn kc, .map (some mb)] 75) (.cells #[.int .i64 (t : Int), .int .i64 (r : Int)] 101)
  have hlk := (h.below hb).word ht hr
  have hfe : feT (K.getD t []) (wdT m K g t) hd r = if (K.getD t []).getD r 0 < 0 then ([(8, hd, ((wdT m K g t r : Nat) : Int), 0)] : List I4) else [] := rfl
  have HB := Hid.out (p := Hid _) hb
  obtain ⟨fl, hfl⟩ : ∃ l, feT (K.getD t []) (wdT m K g t) hd r = l := ⟨_, rfl⟩
  rw [hfl] at hfe ⊢
  by_cases hneg : (K.getD t []).getD r 0 < 0
  · rw [if_pos hneg] at hfe
    simp only [hneg, if_true, decide_true] at hlk
    subst hfe
    clear h hb hfl
    go_enter Tryd.func63, Tryd.ntmps63
    go_wp2
    go_ret
    first
    | exact ⟨_, _, rfl, srcL_block (three_at _ _ _ _), HB.out.alloc HB.out.size _⟩
    | exact ⟨_, ⟨_, rfl⟩, srcL_block (three_at _ _ _ _), HB.out.alloc HB.out.size _⟩
  · rw [if_neg hneg] at hfe
    simp only [hneg, if_false, decide_false] at hlk
    subst hfe
    clear h hb hfl
    go_enter Tryd.func63, Tryd.ntmps63
    go_wp2
    go_ret
    first
    | exact ⟨none, 0, rfl, srcL_nil _ _, HB.out⟩
    | exact ⟨none, ⟨0, rfl⟩, srcL_nil _ _, HB.out⟩

set_option maxRecDepth 100000 in
set_option maxHeartbeats 3200000 in
theorem keep_any (w : World) (ca : Option Addr) (n cc : Nat) (ka : Option Addr) (kn kc mb : Nat) (K : List (List Int)) (m g : Nat) (h : BrM w ka kn mb K m g) (t r : Nat) (ht : t < kn) (hr : r < g) :
    Calls Tryd.prog 64 #[.agg #[.slice ca n cc, .slice ka kn kc, .map (some mb)], .agg #[.int .i64 (t : Int), .int .i64 (r : Int)]] w fun e w' => ∃ sa c, e = .returned (.slice sa (keT (K.getD t []) (wdT m K g t) r).length c) ∧ SrcL w' sa (cellsT (keT (K.getD t []) (wdT m K g t) r)) ∧ (∀ b o, sa = some ⟨b, o, none⟩ → w.heap.size ≤ b) ∧ Below w.heap.size w w' := by
  have hb := below_two w (.cells #[.slice ca n cc, .slice ka kn kc, .map (some mb)] 75) (.cells #[.int .i64 (t : Int), .int .i64 (r : Int)] 101)
  have hlk := (h.below hb).word ht hr
  have hfe : keT (K.getD t []) (wdT m K g t) r = if (K.getD t []).getD r 0 < 0 then ([(9, ((wdT m K g t r : Nat) : Int), 6, 0)] : List I4) else [] := rfl
  have HB := Hid.out (p := Hid _) hb
  obtain ⟨fl, hfl⟩ : ∃ l, keT (K.getD t []) (wdT m K g t) r = l := ⟨_, rfl⟩
  rw [hfl] at hfe ⊢
  by_cases hneg : (K.getD t []).getD r 0 < 0
  · rw [if_pos hneg] at hfe
    simp only [hneg, if_true, decide_true] at hlk
    subst hfe
    clear h hb hfl
    go_enter Tryd.func64, Tryd.ntmps64
    go_wp2
    go_ret
    first
    | exact ⟨_, _, rfl, srcL_block (three_at _ _ _ _), fun b o e => (by simp only [Option.some.injEq, Addr.mk.injEq] at e; omega), HB.out.alloc HB.out.size _⟩
    | exact ⟨_, ⟨_, rfl⟩, srcL_block (three_at _ _ _ _), fun b o e => (by simp only [Option.some.injEq, Addr.mk.injEq] at e; omega), HB.out.alloc HB.out.size _⟩
  · rw [if_neg hneg] at hfe
    simp only [hneg, if_false, decide_false] at hlk
    subst hfe
    clear h hb hfl
    go_enter Tryd.func64, Tryd.ntmps64
    go_wp2
    go_ret
    first
    | exact ⟨none, 0, rfl, srcL_nil _ _, fun b o e => (by cases e), HB.out⟩
    | exact ⟨none, ⟨0, rfl⟩, srcL_nil _ _, fun b o e => (by cases e), HB.out⟩

end Go.Proofs.YtocfocjnnjdcgaaDoor
