/-
  Colours, as plain numbers; what the program says of one thread's.
  A table of words by thread and register.
  The least colour that none of the others has.
-/
import Derived.Test.YtocfocjnnjdcgaaDoorLivK
import Derived.Test.YtocfocjnnjdcgaaDoorLivP
import Derived.Deep.LoopGhost
import Derived.Test.YtocfocjnnjdcgaaDoorBox
import Derived.DeepKeys4
import Derived.WideKeyMaps
import Derived.MapKept
import Derived.Test.YtocfocjnnjdcgaaDoorRMay
namespace Go.Proofs.YtocfocjnnjdcgaaDoor
section
open Go.RowKit

/-- Lists of numbers that came in, in memory. -/
def CIn (W : World) (ka : Option Addr) (K : List (List Int)) : Prop := ∀ t, t < K.length → ∃ g o a c, ka = some ⟨g, o, none⟩ ∧ W.cell? ⟨g, o + t, none⟩ = some (.slice a (K.getD t []).length c) ∧ SIs W a (K.getD t [])
theorem CIn.below {W V : World} {ka : Option Addr} {K : List (List Int)} (h : CIn W ka K) (hb : Below W.heap.size W V) : CIn V ka K := fun t ht => by
  obtain ⟨g, o, a, c, e, h1, h2⟩ := h t ht
  exact ⟨g, o, a, c, e, (hb.cell (lt_of_cell h1)).trans h1, h2.below hb⟩
/-- The colour of a register is one, and none that clashes has it. -/
def ColR (k : List Int) (cl : Nat → Nat → Prop) (r : Nat) : Prop := -1 ≤ k.getD r 0 ∧ k.getD r 0 < 6 ∧ ∀ s, s < k.length → cl r s → k.getD r 0 ≠ -1 → k.getD r 0 ≠ k.getD s 0
def ColT (k : List Int) (cl : Nat → Nat → Prop) (rg : Nat) : Prop := k.length = rg ∧ ∀ r, r < rg → ColR k cl r
/-- These are some of the program. -/
def ColP (K : List (List Int)) (n : Nat) (L : Nat → Nat) (X : Nat → Nat → Nat → Int) (rg : Nat) : Prop := K.length = n ∧ ∀ t, t < n → ColT (K.getD t []) (Cl (X t) (L t)) rg

/-- A truth is told. -/
def BoolQ (w : World) (P : Prop) (e : Ending) (w' : World) : Prop := ∃ b, e = .returned (.bool b) ∧ (b = true ↔ P) ∧ Below w.heap.size w w'

set_option maxRecDepth 100000 in
set_option maxHeartbeats 3200000 in
theorem maybe_any (w : World) (ka : Option Addr) (kc n : Nat) (k : List Int) (a : Option Addr) (m c B : Nat) (yss : List (List Int)) (cl : Nat → Nat → Prop) (hk : SIs w ka k) (hn : k.length = n) (hn1 : n ≤ 200) (hO : O2 w B (.slice a m c) yss) (hl : n ≤ yss.length)
    (hy : ∀ r, r < n → (∀ x, x ∈ yss.getD r [] → ∃ s : Nat, x = (s : Int) ∧ s < n) ∧ ∀ s : Nat, s < n → ((s : Int) ∈ yss.getD r [] ↔ cl r s)) (hy2 : ∀ r, r < n → (yss.getD r []).length ≤ 256) :
    Calls Tryd.prog 57 #[.slice ka n kc, .slice a m c] w (BoolQ w (∀ r, r < n → ColR k cl r)) := by
  have HK : Hid (SIs w ka k) := hk
  have HN := Hid.out (p := Hid _) hn
  have HO : Hid (O2 w B (.slice a m c) yss) := hO
  have HL := Hid.out (p := Hid _) hl
  have HY := Hid.out (p := Hid _) hy
  have HY2 := Hid.out (p := Hid _) hy2
  clear hk hn hO hl hy hy2
  go_enter Tryd.func57, Tryd.ntmps57
  go_wp2_with fail
  go_loopw [11] (fun i wr => ∃ r : Nat, r ≤ n ∧ i = .int .i64 r ∧ Hid (∀ q, q < r → ColR k cl q) ∧ wr = w) (fun i _ => n - (intOf i).toNat)
  case atStart => exact ⟨0, Nat.zero_le _, rfl, fun q hq => absurd hq (Nat.not_lt_zero _), rfl⟩
  case round =>
    obtain ⟨r, hr, rfl, HI, rfl⟩ := hrel
    by_cases hrn : r < n
    · have hrI : (r : Int) < (n : Int) := by omega
      obtain ⟨gb, go, rfl, hc⟩ := HK.out r (by rw [HN.out]; exact hrn)
      obtain ⟨g, x, rfl, rfl, hx, hxs⟩ := HO.out.at (k := r) (by have := HL.out; omega)
      obtain ⟨xa, xc, rfl⟩ := hxs.form
      have hrm : (r : Int) < ((yss.length : Nat) : Int) := by have := HL.out; omega
      obtain ⟨v, hv⟩ : ∃ v, k.getD r 0 = v := ⟨_, rfl⟩
      rw [hv] at hc
      have HV := Hid.out (p := Hid _) hv
      obtain ⟨ys, hys⟩ : ∃ ys, yss.getD r [] = ys := ⟨_, rfl⟩
      rw [hys] at hx hxs
      have HYS : Hid ((∀ x, x ∈ ys → ∃ s : Nat, x = (s : Int) ∧ s < n) ∧ ∀ s : Nat, s < n → ((s : Int) ∈ ys ↔ cl r s)) := by rw [← hys]; exact HY.out r hrn
      have hyl : ys.length ≤ 256 := by rw [← hys]; exact HY2.out r hrn
      have HXS : Hid (OwL wr B (.slice xa ys.length xc) ys) := hxs
      obtain ⟨yl, hyy⟩ : ∃ q, ys.length = q := ⟨_, rfl⟩
      have HYL := Hid.out (p := Hid _) hyy
      obtain ⟨ym, hym⟩ : ∃ q, yss.length = q := ⟨_, rfl⟩
      rw [hyy] at hx hyl
      rw [hym] at hrm
      rw [hym]
      have HYM := Hid.out (p := Hid _) hym
      clear hxs hys hv hyy hym
      by_cases hlo : v < -1
      · have hno : ¬ ∀ r, r < n → ColR k cl r := fun h => by
          have := (h r hrn).1
          rw [HV.out] at this
          omega
        have HNO := Hid.out (p := Hid _) hno
        clear hno
        go_wp2_with fail
        go_ret
        exact ⟨false, rfl, ⟨fun h => (by cases h), fun h => absurd h HNO.out⟩, Below.refl _ _⟩
      · by_cases hhi : 6 ≤ v
        · have hno : ¬ ∀ r, r < n → ColR k cl r := fun h => by
            have := (h r hrn).2.1
            rw [HV.out] at this
            omega
          have HNO := Hid.out (p := Hid _) hno
          clear hno
          go_wp2_with fail
          go_ret
          exact ⟨false, rfl, ⟨fun h => (by cases h), fun h => absurd h HNO.out⟩, Below.refl _ _⟩
        · have HVV : Hid (-1 ≤ v ∧ v < 6) := ⟨by omega, by omega⟩
          go_wp2_with fail
          go_loopw [27] (fun i wi => ∃ q : Nat, q ≤ yl ∧ i = .int .i64 q ∧ Hid (∀ j, j < q → v ≠ -1 → v ≠ k.getD (ys.getD j 0).toNat 0) ∧ wi = wr) (fun i _ => yl - (intOf i).toNat)
          case atStart => exact ⟨0, Nat.zero_le _, rfl, fun q hq => absurd hq (Nat.not_lt_zero _), rfl⟩
          case round =>
            obtain ⟨q, hq, rfl, HJ, rfl⟩ := hrel
            by_cases hqy : q < yl
            · have hqI : (q : Int) < (yl : Int) := by omega
              obtain ⟨yb, yo, rfl, hyc⟩ := HXS.out.sis q (by rw [HYL.out]; exact hqy)
              obtain ⟨s, hs1, hs2⟩ := HYS.out.1 (ys.getD q 0) (by
                rw [List.getD_eq_getElem?_getD, List.getElem?_eq_getElem (by rw [HYL.out]; exact hqy)]
                exact List.getElem_mem _)
              rw [hs1] at hyc
              obtain ⟨sb, so, hse, hsc⟩ := HK.out s (by rw [HN.out]; exact hs2)
              simp only [Option.some.injEq, Addr.mk.injEq, and_true] at hse
              obtain ⟨rfl, rfl⟩ := hse
              have hsI : (s : Int) < (n : Int) := by omega
              obtain ⟨u, hu⟩ : ∃ u, k.getD s 0 = u := ⟨_, rfl⟩
              rw [hu] at hsc
              have HU := Hid.out (p := Hid _) (And.intro hu hs1)
              have HS2 := Hid.out (p := Hid _) hs2
              clear hu hs1 hs2
              by_cases hv1 : v = -1
              · have hvb : (v != -1) = false := by simp [hv1]
                have HNX : Hid (∀ j, j < q + 1 → v ≠ -1 → v ≠ k.getD (ys.getD j 0).toNat 0) := fun j _ h => absurd hv1 h
                clear hv1
                go_wp2_with fail
                go_roundw
                case rel => exact ⟨q + 1, by omega, by go_num, HNX.out, by first | rfl | trivial⟩
                case measure => simp [intOf]; omega
              · have hvb : (v != -1) = true := by simpa using hv1
                by_cases hvu : v = u
                · have hvub : (v == u) = true := by simpa using hvu
                  have hno : ¬ ∀ r, r < n → ColR k cl r := fun h => by
                    have h1 := (h r hrn).2.2 s (by rw [HN.out]; exact HS2.out) ((HYS.out.2 s HS2.out).1 (by
                      rw [← HU.out.2, List.getD_eq_getElem?_getD, List.getElem?_eq_getElem (by rw [HYL.out]; exact hqy)]
                      exact List.getElem_mem _)) (by rw [HV.out]; exact hv1)
                    rw [HV.out, HU.out.1] at h1
                    exact h1 hvu
                  have HNO := Hid.out (p := Hid _) hno
                  clear hno hvu hv1
                  go_wp2_with fail
                  go_ret
                  exact ⟨false, rfl, ⟨fun h => (by cases h), fun h => absurd h HNO.out⟩, Below.refl _ _⟩
                · have hvub : (v == u) = false := by simpa using hvu
                  have HNX : Hid (∀ j, j < q + 1 → v ≠ -1 → v ≠ k.getD (ys.getD j 0).toNat 0) := fun j hj h => by
                    by_cases e : j = q
                    · rw [e, HU.out.2, Int.toNat_natCast, HU.out.1]
                      exact hvu
                    · exact HJ.out j (by omega) h
                  clear hvu hv1
                  go_wp2_with fail
                  go_roundw
                  case rel => exact ⟨q + 1, by omega, by go_num, HNX.out, by first | rfl | trivial⟩
                  case measure => simp [intOf]; omega
            · obtain rfl : q = yl := by omega
              have HNX : Hid (∀ p, p < r + 1 → ColR k cl p) := fun p hp => by
                by_cases e : p = r
                · subst e
                  refine ⟨by rw [HV.out]; exact HVV.out.1, by rw [HV.out]; exact HVV.out.2, fun s hs hcl hne => ?_⟩
                  rw [HN.out] at hs
                  have hm := (HYS.out.2 s hs).2 hcl
                  obtain ⟨j, hj, hje⟩ := List.getElem_of_mem hm
                  have h1 := HJ.out j (by rw [← HYL.out]; exact hj) (by rw [← HV.out]; exact hne)
                  have e2 : ys.getD j 0 = (s : Int) := by rw [List.getD_eq_getElem?_getD, List.getElem?_eq_getElem hj, Option.getD_some, hje]
                  rw [e2, Int.toNat_natCast] at h1
                  rw [HV.out]
                  exact h1
                · exact HI.out p (by omega)
              go_wp2_with fail
              go_roundw
              case rel => exact ⟨r + 1, by omega, by go_num, HNX.out, by first | rfl | trivial⟩
              case measure => simp [intOf]; omega
    · obtain rfl : r = n := by omega
      go_wp2_with fail
      go_ret
      exact ⟨true, rfl, ⟨fun _ => HI.out, fun _ => rfl⟩, Below.refl _ _⟩
end

section
open Go.RowKit

/-- A register of a thread. -/
def ownKV (t r : Nat) : Value := .agg #[.int .i64 t, .int .i64 r]
theorem ownKV_inj {t r t' r' : Nat} (h : ownKV t r = ownKV t' r') : t = t' ∧ r = r' := by
  simp only [ownKV, Value.agg.injEq] at h
  have h1 := congrArg Array.toList h
  simp only [List.cons.injEq, Value.int.injEq, true_and, and_true] at h1
  exact ⟨by omega, by omega⟩
theorem own_law : WideMaps.KeyLaw Tryd.prog 101 := deep_law_laid Tryd.laidOut (m := 2) (by omega) (of_decide_eq_true (by kernel_rfl)) (by kernel_rfl) (by kernel_rfl)
theorem cells101 : Tryd.prog.cellsOf 101 = 2 := by kernel_rfl
theorem own_key (t r : Nat) (ht : t ≤ 1000000) (hr : r ≤ 1000000) : ∃ l, keyOf Tryd.prog 101 (ownKV t r) = some l := by
  have hk : Tryd.prog.keyType 101 = true := by kernel_rfl
  have h1 : (Lit.int .i64 (t : Int)).wf = true := WalkArith.wf_i64 (by omega)
  have h2 : (Lit.int .i64 (r : Int)).wf = true := WalkArith.wf_i64 (by omega)
  unfold keyOf
  simp only [Tryd.underlying101]
  rw [if_pos (by simp [hk, ownKV, Value.formed, Tryd.underlying101, cells101])]
  obtain ⟨m, hm⟩ : ∃ m, Tryd.prog.types.size = m + 1 := ⟨Tryd.prog.types.size - 1, by have : 0 < Tryd.prog.types.size := of_decide_eq_true (by kernel_rfl); omega⟩
  rw [hm]
  unfold Program.keyLits
  simp only [Tryd.underlying101]
  simp [ownKV, Value.cells, cells101, cells3, Program.keyLits, Tryd.underlying3, h1, h2]

/-- The entries tell the table F. -/
def WEs (es : Array MapEntry) (F : Nat → Nat → Option Nat) : Prop := (∀ e, e ∈ es.toList → ∃ t r v, t ≤ 1000000 ∧ r ≤ 1000000 ∧ e.key = ownKV t r ∧ e.val = .int .i64 (v : Nat) ∧ F t r = some v) ∧ ∀ t r v, F t r = some v → ∃ e, e ∈ es.toList ∧ e.key = ownKV t r
/-- A table of words in memory: k of them. -/
def WMap (W : World) (mb k : Nat) (F : Nat → Nat → Option Nat) : Prop := ∃ es c, W.heap[mb]? = some (.map es c) ∧ es.size = k ∧ WEs es F
theorem WMap.below {W V : World} {mb k : Nat} {F : Nat → Nat → Option Nat} (h : WMap W mb k F) (hb : Below W.heap.size W V) : WMap V mb k F := by
  obtain ⟨es, c, h1, h2, h3⟩ := h
  exact ⟨es, c, (hb.block _ (Array.getElem?_eq_some_iff.1 h1).1).trans h1, h2, h3⟩
theorem wmap_new (W : World) : WMap (W.alloc (.map #[] 0)) W.heap.size 0 fun _ _ => none := ⟨#[], 0, (MapKept.heap_alloc W _).1, rfl, fun e he => by simp at he, fun t r v h => by cases h⟩
theorem wmap_find {es : Array MapEntry} {F : Nat → Nat → Option Nat} (h : WEs es F) (W : World) {t r : Nat} (ht : t ≤ 1000000) (hr : r ≤ 1000000) :
    (Instr.checkKey es.isEmpty 10000 101 (ownKV t r)).run Tryd.prog W = .ok () W ∧ (Instr.checkKey false 10000 101 (ownKV t r)).run Tryd.prog W = .ok () W ∧ ((F t r = none ∧ (Instr.findKey 101 (ownKV t r) es.toList).run Tryd.prog W = .ok none W) ∨ ∃ v j, F t r = some v ∧ (Instr.findKey 101 (ownKV t r) es.toList).run Tryd.prog W = .ok (some (j, .int .i64 (v : Nat))) W) := by
  obtain ⟨l, hl⟩ := own_key t r ht hr
  refine ⟨own_law.check W _ hl, own_law.check W _ hl, ?_⟩
  have hall : ∀ e ∈ es.toList, ∃ l, keyOf Tryd.prog 101 e.key = some l := fun e he => by
    obtain ⟨t', r', v, h1, h2, h3, -⟩ := h.1 e he
    rw [h3]
    exact own_key t' r' h1 h2
  rcases own_law.find W hl es.toList hall with ⟨h1, h2⟩ | ⟨j, e, h1, h2, h3⟩
  · refine Or.inl ⟨?_, h1⟩
    rcases hF : F t r with _ | v
    · rfl
    · obtain ⟨e, he, hk⟩ := h.2 t r v hF
      exact absurd hk (h2 e he)
  · obtain ⟨t', r', v, -, -, h4, h5, h6⟩ := h.1 e (List.mem_of_getElem? h2)
    rw [h3] at h4
    obtain ⟨rfl, rfl⟩ := ownKV_inj h4
    rw [h5] at h1
    exact Or.inr ⟨v, j, h6, h1⟩
theorem wmap_look {W : World} {mb k : Nat} {F : Nat → Nat → Option Nat} (h : WMap W mb k F) {t r : Nat} (ht : t ≤ 1000000) (hr : r ≤ 1000000) :
    (Instr.lookup 73 (.map (some mb)) (ownKV t r) true).run Tryd.prog W = .ok (.tuple #[.int .i64 (((F t r).getD 0 : Nat) : Int), .bool (F t r).isSome]) W := by
  obtain ⟨es, c, hb, -, hE⟩ := h
  obtain ⟨hc, -, hf⟩ := wmap_find hE W ht hr
  have hz : (zeroValue 3).run Tryd.prog W = .ok (.int .i64 0) W := by kernel_rfl
  rcases hf with ⟨h1, h2⟩ | ⟨v, j, h1, h2⟩
  · simp [Instr.lookup, run_underlying Tryd.underlying73, MapKept.run_getObj_map hb, hc, hz, h2, h1, Result.andThen]
  · simp [Instr.lookup, run_underlying Tryd.underlying73, MapKept.run_getObj_map hb, hc, h2, h1, Result.andThen]
theorem wmap_len {W : World} {mb k : Nat} {F : Nat → Nat → Option Nat} (h : WMap W mb k F) : (Builtin.len_ #[73] 3 #[.map (some mb)]).run Tryd.prog W = .ok (.int .i64 (k : Nat)) W := by
  obtain ⟨es, c, hb, hk, -⟩ := h
  simp [Builtin.len_, run_underlying Tryd.underlying73, MapKept.run_getObj_map hb, hk, Result.andThen, goInt]
/-- One more word. -/
theorem wmap_put {W : World} {mb k : Nat} {F : Nat → Nat → Option Nat} (h : WMap W mb k F) {t r : Nat} (ht : t ≤ 1000000) (hr : r ≤ 1000000) (hn : F t r = none) (v : Nat) :
    ∃ W', (Instr.mapUpdate 73 (.map (some mb)) (ownKV t r) (.int .i64 (v : Nat))).run Tryd.prog W = .ok () W' ∧ WMap W' mb (k + 1) (fun a b => if a = t ∧ b = r then some v else F a b) ∧ W'.heap.size = W.heap.size ∧ (∀ g, g ≠ mb → W'.heap[g]? = W.heap[g]?) ∧ ∀ B S, B ≤ mb → Below B S W → Below B S W' := by
  obtain ⟨es, c, hb, hk, hE⟩ := h
  obtain ⟨-, hc, hf⟩ := wmap_find hE W ht hr
  rcases hf with ⟨h1, h2⟩ | ⟨w, j, h1, h2⟩
  · refine ⟨{ W with heap := W.heap.setIfInBounds mb (.map (es.push { key := ownKV t r, val := .int .i64 (v : Nat), born := c }) (c + 1)) }, ?_, ?_, by simp, fun g hg => (MapKept.heap_set hb).2 g hg, fun B S hB hS => ⟨hS.os, hS.tape, hS.output, by simpa using hS.size, fun g hg => ((MapKept.heap_set hb).2 g (by omega)).trans (hS.block g hg)⟩⟩
    · simp [Instr.mapUpdate, run_underlying Tryd.underlying73, MapKept.run_getObj_map hb, hc, h2, MapKept.run_setObj_map _ hb, Result.andThen]
    · refine ⟨_, _, (MapKept.heap_set hb).1, by simp [hk], fun e he => ?_, fun a b x hx => ?_⟩
      · simp only [Array.toList_push, List.mem_append, List.mem_singleton] at he
        rcases he with he | rfl
        · obtain ⟨t', r', v', g1, g2, g3, g4, g5⟩ := hE.1 e he
          refine ⟨t', r', v', g1, g2, g3, g4, ?_⟩
          show (if t' = t ∧ r' = r then some v else F t' r') = some v'
          rw [if_neg, g5]
          rintro ⟨rfl, rfl⟩
          rw [h1] at g5
          cases g5
        · exact ⟨t, r, v, ht, hr, rfl, rfl, if_pos ⟨rfl, rfl⟩⟩
      · by_cases hab : a = t ∧ b = r
        · obtain ⟨rfl, rfl⟩ := hab
          have hv : v = x := by simpa using hx
          subst hv
          exact ⟨{ key := ownKV a b, val := .int .i64 (v : Nat), born := c }, by simp, rfl⟩
        · have hx : (if a = t ∧ b = r then some v else F a b) = some x := hx
          rw [if_neg hab] at hx
          obtain ⟨e, he, hk'⟩ := hE.2 a b x hx
          exact ⟨e, by simp [he], hk'⟩
  · rw [hn] at h1
    cases h1
end

section
open Go.RowKit

/-- Which colours are taken, in a block. -/
def tkA (t : Nat → Bool) : Array Value := #[.bool (t 0), .bool (t 1), .bool (t 2), .bool (t 3), .bool (t 4), .bool (t 5)]
theorem tkA_set (t : Nat → Bool) (c : Nat) (hc : c < 6) : (tkA t).setIfInBounds c (.bool true) = tkA (fun i => if i = c then true else t i) := by
  match c, hc with
  | 0, _ => rfl
  | 1, _ => rfl
  | 2, _ => rfl
  | 3, _ => rfl
  | 4, _ => rfl
  | 5, _ => rfl
theorem tkA_at (t : Nat → Bool) (c : Nat) (hc : c < 6) : (tkA t)[c]? = some (.bool (t c)) := by
  match c, hc with
  | 0, _ => rfl
  | 1, _ => rfl
  | 2, _ => rfl
  | 3, _ => rfl
  | 4, _ => rfl
  | 5, _ => rfl
/-- What firstFree tells. -/
def FfQ (w : World) (k ys : List Int) (e : Ending) (w' : World) : Prop := ∃ c : Int, e = .returned (.int .i64 c) ∧ (-1 ≤ c ∧ c < 6) ∧ (c ≠ -1 → ∀ s : Nat, (s : Int) ∈ ys → k.getD s 0 ≠ c) ∧ Below w.heap.size w w'

set_option maxRecDepth 100000 in
set_option maxHeartbeats 3200000 in
theorem ffree_any (w : World) (ya : Option Addr) (yl yc : Nat) (ys : List Int) (ka : Option Addr) (n kc : Nat) (k : List Int) (hy : SIs w ya ys) (hyl : ys.length = yl) (hy256 : yl ≤ 256) (hk : SIs w ka k) (hn : k.length = n) (_hn1 : n ≤ 200)
    (hys : ∀ x, x ∈ ys → ∃ s : Nat, x = (s : Int) ∧ s < n) (hkb : ∀ s, s < n → -1 ≤ k.getD s 0 ∧ k.getD s 0 < 6) :
    Calls Tryd.prog 73 #[.slice ya yl yc, .slice ka n kc] w (FfQ w k ys) := by
  have HY : Hid (SIs w ya ys) := hy
  have HK : Hid (SIs w ka k) := hk
  have HYL := Hid.out (p := Hid _) hyl
  have HN := Hid.out (p := Hid _) hn
  have HYS := Hid.out (p := Hid _) hys
  have HKB := Hid.out (p := Hid _) hkb
  clear hy hk hyl hn hys hkb
  go_enter Tryd.func73, Tryd.ntmps73
  go_wp2_with fail
  go_loopw [13] (fun kv wr => ∃ (q : Nat) (t : Nat → Bool), q ≤ yl ∧ kv = .int .i64 q ∧ Hid ((∀ j, j < q → ∀ s : Nat, ys.getD j 0 = (s : Int) → k.getD s 0 ≠ -1 → t (k.getD s 0).toNat = true) ∧ wr.heap[w.heap.size]? = some (.cells (tkA t) 156) ∧ Below w.heap.size w wr)) (fun kv _ => yl - (intOf kv).toNat)
  case atStart => exact ⟨0, fun _ => false, Nat.zero_le _, rfl, fun j hj => absurd hj (Nat.not_lt_zero _), heap_alloc_new _ _, below_one _ _⟩
  case round =>
    obtain ⟨q, t, hq, rfl, HI⟩ := hrel
    by_cases hqy : q < yl
    · have hqI : (q : Int) < (yl : Int) := by omega
      obtain ⟨yb, yo, rfl, hyc⟩ := (HY.out.below HI.out.2.2) q (by rw [HYL.out]; exact hqy)
      obtain ⟨s, hs1, hs2⟩ := HYS.out (ys.getD q 0) (by
        rw [List.getD_eq_getElem?_getD, List.getElem?_eq_getElem (by rw [HYL.out]; exact hqy)]
        exact List.getElem_mem _)
      rw [hs1] at hyc
      have hsI : (s : Int) < (n : Int) := by omega
      obtain ⟨kb, ko, rfl, hkc⟩ := (HK.out.below HI.out.2.2) s (by rw [HN.out]; exact hs2)
      have hb := HKB.out s hs2
      obtain ⟨v, hv⟩ : ∃ v, k.getD s 0 = v := ⟨_, rfl⟩
      rw [hv] at hkc hb
      have HV := Hid.out (p := Hid _) (And.intro hv hs1)
      clear hv hs1
      by_cases hv1 : v = -1
      · have hvb : (v != -1) = false := by simp [hv1]
        have HNX : Hid (∀ j, j < q + 1 → ∀ s : Nat, ys.getD j 0 = (s : Int) → k.getD s 0 ≠ -1 → t (k.getD s 0).toNat = true) := fun j hj s' hs' hne => by
          by_cases e : j = q
          · rw [e, HV.out.2] at hs'
            obtain rfl : s = s' := by omega
            exact absurd (HV.out.1.trans hv1) hne
          · exact HI.out.1 j (by omega) s' hs' hne
        clear hv1 hb
        go_wp2_with fail
        go_roundw
        case rel => exact ⟨q + 1, t, by omega, by go_num, HNX.out, HI.out.2.1, HI.out.2.2⟩
        case measure => simp [intOf]; omega
      · have hvb : (v != -1) = true := by simpa using hv1
        obtain ⟨c, rfl⟩ : ∃ c : Nat, v = c := ⟨v.toNat, by omega⟩
        have hc6 : c < 6 := by omega
        have hcI : (c : Int) < 6 := by omega
        have t0 := box_cell HI.out.2.1 (tkA_at t c hc6)
        have tf : wr.frozen? ⟨w.heap.size, c, none⟩ = false := box_free HI.out.2.1
        have HST : Hid ((wr.setCell ⟨w.heap.size, c, none⟩ (.bool true)).heap[w.heap.size]? = some (.cells (tkA (fun i => if i = c then true else t i)) 156) ∧ Below w.heap.size w (wr.setCell ⟨w.heap.size, c, none⟩ (.bool true))) := by
          have h := heap_set_same (i := c) (u := .bool true) HI.out.2.1
          rw [tkA_set t c hc6] at h
          exact ⟨h, HI.out.2.2.setCell (p := ⟨w.heap.size, c, none⟩) (Nat.le_refl _) _⟩
        have HNX : Hid (∀ j, j < q + 1 → ∀ s : Nat, ys.getD j 0 = (s : Int) → k.getD s 0 ≠ -1 → (fun i => if i = c then true else t i) (k.getD s 0).toNat = true) := fun j hj s' hs' hne => by
          show (if (k.getD s' 0).toNat = c then true else t (k.getD s' 0).toNat) = true
          by_cases e : j = q
          · rw [e, HV.out.2] at hs'
            obtain rfl : s = s' := by omega
            rw [HV.out.1, Int.toNat_natCast, if_pos rfl]
          · rw [HI.out.1 j (by omega) s' hs' hne]
            simp
        obtain ⟨tc, htc⟩ : ∃ x, t c = x := ⟨_, rfl⟩
        rw [htc] at t0
        clear hv1 hb htc
        go_wp2_with fail
        go_roundw
        case rel => exact ⟨q + 1, _, by omega, by go_num, HNX.out, HST.out.1, HST.out.2⟩
        case measure => simp [intOf]; omega
    · obtain rfl : q = yl := by omega
      have HT : Hid (∀ s : Nat, (s : Int) ∈ ys → k.getD s 0 ≠ -1 → t (k.getD s 0).toNat = true) := fun s hs hne => by
        obtain ⟨j, hj, hje⟩ := List.getElem_of_mem hs
        refine HI.out.1 j (by rw [← HYL.out]; exact hj) s ?_ hne
        rw [List.getD_eq_getElem?_getD, List.getElem?_eq_getElem hj, Option.getD_some, hje]
      obtain ⟨b0, h0⟩ : ∃ x, t 0 = x := ⟨_, rfl⟩
      obtain ⟨b1, h1⟩ : ∃ x, t 1 = x := ⟨_, rfl⟩
      obtain ⟨b2, h2⟩ : ∃ x, t 2 = x := ⟨_, rfl⟩
      obtain ⟨b3, h3⟩ : ∃ x, t 3 = x := ⟨_, rfl⟩
      obtain ⟨b4, h4⟩ : ∃ x, t 4 = x := ⟨_, rfl⟩
      obtain ⟨b5, h5⟩ : ∃ x, t 5 = x := ⟨_, rfl⟩
      have t0 : wr.cell? ⟨w.heap.size, 0, none⟩ = some (.bool b0) := by rw [← h0]; exact box_cell HI.out.2.1 (tkA_at t 0 (by omega))
      have t1 : wr.cell? ⟨w.heap.size, 1, none⟩ = some (.bool b1) := by rw [← h1]; exact box_cell HI.out.2.1 (tkA_at t 1 (by omega))
      have t2 : wr.cell? ⟨w.heap.size, 2, none⟩ = some (.bool b2) := by rw [← h2]; exact box_cell HI.out.2.1 (tkA_at t 2 (by omega))
      have t3 : wr.cell? ⟨w.heap.size, 3, none⟩ = some (.bool b3) := by rw [← h3]; exact box_cell HI.out.2.1 (tkA_at t 3 (by omega))
      have t4 : wr.cell? ⟨w.heap.size, 4, none⟩ = some (.bool b4) := by rw [← h4]; exact box_cell HI.out.2.1 (tkA_at t 4 (by omega))
      have t5 : wr.cell? ⟨w.heap.size, 5, none⟩ = some (.bool b5) := by rw [← h5]; exact box_cell HI.out.2.1 (tkA_at t 5 (by omega))
      have HH := Hid.out (p := Hid _) (And.intro h0 (And.intro h1 (And.intro h2 (And.intro h3 (And.intro h4 h5)))))
      clear h0 h1 h2 h3 h4 h5
      go_wp2_with fail
      clear t0 t1 t2 t3 t4 t5
      obtain ⟨W1, hW1⟩ : ∃ V, V = wr := ⟨_, rfl⟩
      go_loopw [27] (fun kv wi => ∃ j : Nat, j ≤ 6 ∧ kv = .int .i64 j ∧ Hid (∀ i, i < j → t i = true) ∧ wi = wr) (fun kv _ => 6 - (intOf kv).toNat)
      case atStart => exact ⟨0, by omega, rfl, fun i hi => absurd hi (Nat.not_lt_zero _), rfl⟩
      case round =>
        obtain ⟨j, hj, rfl, HJ, rfl⟩ := hrel
        clear hW1
        match j, hj, HJ with
        | 0, _, HJ =>
          have hix : ∀ W : World, (Instr.index 156 (.agg #[.bool b0, .bool b1, .bool b2, .bool b3, .bool b4, .bool b5]) (.int .i64 0)).run Tryd.prog W = .ok (.bool b0) W := fun _ => by kernel_rfl
          have HBJ : Hid (t 0 = b0) := HH.out.1
          cases b0 with
          | true =>
            have HNX : Hid (∀ i, i < 0 + 1 → t i = true) := fun i hi => by
              by_cases e : i = 0
              · rw [e]; exact HBJ.out
              · exact HJ.out i (by omega)
            go_wp2_with fail
            go_roundw
            case rel => exact ⟨0 + 1, by omega, by go_num, HNX.out, by first | rfl | trivial⟩
            case measure => simp [intOf]
          | false =>
            have HNO : Hid (∀ s : Nat, (s : Int) ∈ ys → k.getD s 0 ≠ (0 : Int)) := fun s hs e => by
              have := HT.out s hs (by omega)
              rw [e] at this
              have h2 := HBJ.out
              exact absurd (this.symm.trans h2) (by decide)
            go_wp2_with fail
            go_ret
            exact ⟨0, rfl, by omega, fun _ => HNO.out, HI.out.2.2⟩
        | 1, _, HJ =>
          have hix : ∀ W : World, (Instr.index 156 (.agg #[.bool b0, .bool b1, .bool b2, .bool b3, .bool b4, .bool b5]) (.int .i64 1)).run Tryd.prog W = .ok (.bool b1) W := fun _ => by kernel_rfl
          have HBJ : Hid (t 1 = b1) := HH.out.2.1
          cases b1 with
          | true =>
            have HNX : Hid (∀ i, i < 1 + 1 → t i = true) := fun i hi => by
              by_cases e : i = 1
              · rw [e]; exact HBJ.out
              · exact HJ.out i (by omega)
            go_wp2_with fail
            go_roundw
            case rel => exact ⟨1 + 1, by omega, by go_num, HNX.out, by first | rfl | trivial⟩
            case measure => simp [intOf]
          | false =>
            have HNO : Hid (∀ s : Nat, (s : Int) ∈ ys → k.getD s 0 ≠ (1 : Int)) := fun s hs e => by
              have := HT.out s hs (by omega)
              rw [e] at this
              have h2 := HBJ.out
              exact absurd (this.symm.trans h2) (by decide)
            go_wp2_with fail
            go_ret
            exact ⟨1, rfl, by omega, fun _ => HNO.out, HI.out.2.2⟩
        | 2, _, HJ =>
          have hix : ∀ W : World, (Instr.index 156 (.agg #[.bool b0, .bool b1, .bool b2, .bool b3, .bool b4, .bool b5]) (.int .i64 2)).run Tryd.prog W = .ok (.bool b2) W := fun _ => by kernel_rfl
          have HBJ : Hid (t 2 = b2) := HH.out.2.2.1
          cases b2 with
          | true =>
            have HNX : Hid (∀ i, i < 2 + 1 → t i = true) := fun i hi => by
              by_cases e : i = 2
              · rw [e]; exact HBJ.out
              · exact HJ.out i (by omega)
            go_wp2_with fail
            go_roundw
            case rel => exact ⟨2 + 1, by omega, by go_num, HNX.out, by first | rfl | trivial⟩
            case measure => simp [intOf]
          | false =>
            have HNO : Hid (∀ s : Nat, (s : Int) ∈ ys → k.getD s 0 ≠ (2 : Int)) := fun s hs e => by
              have := HT.out s hs (by omega)
              rw [e] at this
              have h2 := HBJ.out
              exact absurd (this.symm.trans h2) (by decide)
            go_wp2_with fail
            go_ret
            exact ⟨2, rfl, by omega, fun _ => HNO.out, HI.out.2.2⟩
        | 3, _, HJ =>
          have hix : ∀ W : World, (Instr.index 156 (.agg #[.bool b0, .bool b1, .bool b2, .bool b3, .bool b4, .bool b5]) (.int .i64 3)).run Tryd.prog W = .ok (.bool b3) W := fun _ => by kernel_rfl
          have HBJ : Hid (t 3 = b3) := HH.out.2.2.2.1
          cases b3 with
          | true =>
            have HNX : Hid (∀ i, i < 3 + 1 → t i = true) := fun i hi => by
              by_cases e : i = 3
              · rw [e]; exact HBJ.out
              · exact HJ.out i (by omega)
            go_wp2_with fail
            go_roundw
            case rel => exact ⟨3 + 1, by omega, by go_num, HNX.out, by first | rfl | trivial⟩
            case measure => simp [intOf]
          | false =>
            have HNO : Hid (∀ s : Nat, (s : Int) ∈ ys → k.getD s 0 ≠ (3 : Int)) := fun s hs e => by
              have := HT.out s hs (by omega)
              rw [e] at this
              have h2 := HBJ.out
              exact absurd (this.symm.trans h2) (by decide)
            go_wp2_with fail
            go_ret
            exact ⟨3, rfl, by omega, fun _ => HNO.out, HI.out.2.2⟩
        | 4, _, HJ =>
          have hix : ∀ W : World, (Instr.index 156 (.agg #[.bool b0, .bool b1, .bool b2, .bool b3, .bool b4, .bool b5]) (.int .i64 4)).run Tryd.prog W = .ok (.bool b4) W := fun _ => by kernel_rfl
          have HBJ : Hid (t 4 = b4) := HH.out.2.2.2.2.1
          cases b4 with
          | true =>
            have HNX : Hid (∀ i, i < 4 + 1 → t i = true) := fun i hi => by
              by_cases e : i = 4
              · rw [e]; exact HBJ.out
              · exact HJ.out i (by omega)
            go_wp2_with fail
            go_roundw
            case rel => exact ⟨4 + 1, by omega, by go_num, HNX.out, by first | rfl | trivial⟩
            case measure => simp [intOf]
          | false =>
            have HNO : Hid (∀ s : Nat, (s : Int) ∈ ys → k.getD s 0 ≠ (4 : Int)) := fun s hs e => by
              have := HT.out s hs (by omega)
              rw [e] at this
              have h2 := HBJ.out
              exact absurd (this.symm.trans h2) (by decide)
            go_wp2_with fail
            go_ret
            exact ⟨4, rfl, by omega, fun _ => HNO.out, HI.out.2.2⟩
        | 5, _, HJ =>
          have hix : ∀ W : World, (Instr.index 156 (.agg #[.bool b0, .bool b1, .bool b2, .bool b3, .bool b4, .bool b5]) (.int .i64 5)).run Tryd.prog W = .ok (.bool b5) W := fun _ => by kernel_rfl
          have HBJ : Hid (t 5 = b5) := HH.out.2.2.2.2.2
          cases b5 with
          | true =>
            have HNX : Hid (∀ i, i < 5 + 1 → t i = true) := fun i hi => by
              by_cases e : i = 5
              · rw [e]; exact HBJ.out
              · exact HJ.out i (by omega)
            go_wp2_with fail
            go_roundw
            case rel => exact ⟨5 + 1, by omega, by go_num, HNX.out, by first | rfl | trivial⟩
            case measure => simp [intOf]
          | false =>
            have HNO : Hid (∀ s : Nat, (s : Int) ∈ ys → k.getD s 0 ≠ (5 : Int)) := fun s hs e => by
              have := HT.out s hs (by omega)
              rw [e] at this
              have h2 := HBJ.out
              exact absurd (this.symm.trans h2) (by decide)
            go_wp2_with fail
            go_ret
            exact ⟨5, rfl, by omega, fun _ => HNO.out, HI.out.2.2⟩
        | 6, _, HJ =>
          go_wp2_with fail
          go_ret
          exact ⟨-1, rfl, by omega, fun h => absurd rfl h, HI.out.2.2⟩
        | j + 7, hj, _ => exact absurd hj (by omega)
end

end Go.Proofs.YtocfocjnnjdcgaaDoor
