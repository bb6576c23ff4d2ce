/-
  The library's iterator that goes through a thread's orders from behind; sets in one row.
-/
import Derived.Test.YtocfocjnnjdcgaaDoorLivD
import Derived.Test.YtocfocjnnjdcgaaDoorBase
import Derived.RangeFuncFrom
import Derived.RangeFuncNested
import Derived.RangeFuncBound
import Derived.RangeFuncCalls
import Derived.RangeFuncLeaves
import Derived.RangeFuncBox
import Derived.Shelf.Abstract
import Derived.Shelf.RegionOpen
import Derived.TacticsInMore
import Derived.LoopNIn
import Derived.LoopIn
namespace Go.Proofs.YtocfocjnnjdcgaaDoor
open Go.RowKit Go.Shelf

attribute [local go_sem] Oper.semAt_some

/-- From A to B nothing below n₀ has turned but blocks x and y. -/
structure KpL (n₀ x y : Nat) (A B : World) : Prop where
  size : A.heap.size ≤ B.heap.size
  block : ∀ k, k < n₀ → k ≠ x → k ≠ y → B.heap[k]? = A.heap[k]?
theorem KpL.refl (n₀ x y : Nat) (A : World) : KpL n₀ x y A A := ⟨Nat.le_refl _, fun _ _ _ _ => rfl⟩
theorem kpL_t {n₀ x y : Nat} {A B C : World} (h : KpL n₀ x y A B) (k : KpL n₀ x y B C) : KpL n₀ x y A C := ⟨Nat.le_trans h.size k.size, fun i h1 h2 h3 => (k.block i h1 h2 h3).trans (h.block i h1 h2 h3)⟩
theorem kpL_b {n₀ x y : Nat} {w : World} (hn : n₀ ≤ w.heap.size) (W : World) (l : Nat) (o o' : Obj) (hl : w.heap.size ≤ l) (h : W.heap[l]? = some o) (h1 : o.isCells = false) (h2 : o.isWalk = false) : KpL n₀ x y W (W.putObj l o') := by
  have hb := belowK_b (n₀ := n₀) hn W l o o' hl h h1 h2
  exact ⟨hb.size, fun k hk _ _ => hb.block k hk⟩
theorem KpL.cell {n₀ x y : Nat} {A B : World} (h : KpL n₀ x y A B) {b o : Nat} {v : Value} (hc : A.cell? ⟨b, o, none⟩ = some v) (h1 : b < n₀) (h2 : b ≠ x) (h3 : b ≠ y) : B.cell? ⟨b, o, none⟩ = some v := by
  rw [World.cell?_of_block (w := A) (h.block b h1 h2 h3)]
  exact hc
theorem KpL.of_below {n₀ x y m : Nat} {A B : World} (h : Below m A B) (hm : n₀ ≤ m) : KpL n₀ x y A B := ⟨h.size, fun k hk _ _ => h.block k (by omega)⟩

/-- A place of a thread, as it is handed on. -/
def orV (X : Nat → Nat → Int) (l : Nat) (p : Fin l) : Array Value := #[.int .i64 (p.1 : Int), ints4 (X p.1 0) (X p.1 1) (X p.1 2) (X p.1 3)]
/-- What has come when k rounds are over, from behind. -/
def bckF (l k : Nat) : List (Fin l) := (List.finRange l).reverse.take k
theorem bckF_succ {l k : Nat} {p : Fin l} (hk : k < l) (hp : p.1 = l - 1 - k) : bckF l (k + 1) = bckF l k ++ [p] := by
  unfold bckF
  have hl : k < (List.finRange l).reverse.length := by simpa using hk
  rw [List.take_add_one, List.getElem?_eq_getElem hl]
  simp only [Option.toList_some, List.append_cancel_left_eq, List.cons.injEq, and_true]
  apply Fin.ext
  rw [hp]
  simp
theorem bckF_length (l k : Nat) (hk : k ≤ l) : (bckF l k).length = k := by
  unfold bckF
  rw [List.length_take]
  simp
  omega
set_option maxRecDepth 100000 in
set_option maxHeartbeats 2000000 in
theorem bckF1_in (F : Fence) (n : Nat) (hF : F.fn 83) (hro : F.round = none) (hn : 1 ≤ n) (lp Bs n₀ x y : Nat) (ca : Option Addr) (cc : Nat) (X : Nat → Nat → Int) (l : Nat) (hl : l ≤ 1000) (J Jx : List (Fin l) → World → Prop)
    (hY : ∀ pre z W, J pre W → pre.length < l → YieldAt F (n - 1) Tryd.prog lp (orV X l z) W fun e W' =>
      (e = .returned (.bool true) ∧ J (pre ++ [z]) W' ∧ KpL n₀ x y W W') ∨ (e = .returned (.bool false) ∧ Jx (pre ++ [z]) W'))
    (W : World) (hBs : W.cell? ⟨Bs, 0, none⟩ = some (.slice ca l cc)) (hBn : Bs < n₀ ∧ Bs ≠ x ∧ Bs ≠ y) (hc : ∀ p, p < l → OrdAt W ca p (X p 0) (X p 1) (X p 2) (X p 3)) (hcn : ∀ b o, ca = some ⟨b, o, none⟩ → 0 < l → b < n₀ ∧ b ≠ x ∧ b ≠ y) (h0 : J [] W) :
    CallsIn F n Tryd.prog 83 #[.func (.yield lp) #[] #[], .pointer (some ⟨Bs, 0, none⟩)] W fun e W' => (∃ v, e = .returned v) ∧
      ((∃ ys, ys = bckF l l ∧ J ys W') ∨ (∃ pre, (∃ k, k ≤ l ∧ pre = bckF l k) ∧ Jx pre W')) := by
  refine callsIn_of_wp Tryd.func83 rfl hF ?_ hro
  simp only [Tryd.ntmps83, List.size_toArray, List.length_cons, List.length_nil, Nat.reduceAdd, Nat.reduceSub, Array.replicate_succ, Array.replicate_zero, List.push_toArray, List.append_toArray, List.nil_append, List.cons_append]
  have HC := Hid.out (p := Hid _) hc
  have HCN := Hid.out (p := Hid _) hcn
  have HY := Hid.out (p := Hid _) hY
  have HBN := Hid.out (p := Hid _) hBn
  clear hc hY hcn hBn
  gi_wp2
  gi_loopw [3] (fun i wr => ∃ k : Nat, k ≤ l ∧ i = .int .i64 ((l : Int) - 1 - (k : Int)) ∧ Hid (J (bckF l k) wr) ∧ KpL n₀ x y W wr) (fun i _ => (intOf i + 1).toNat)
  case atStart => exact ⟨0, Nat.zero_le _, by simp, h0, KpL.refl _ _ _ _⟩
  case round =>
    obtain ⟨k, hk, rfl, hJs, hnx⟩ := hrel
    have hbx : wr.cell? ⟨Bs, 0, none⟩ = some (.slice ca l cc) := hnx.cell hBs HBN.out.1 HBN.out.2.1 HBN.out.2.2
    by_cases hlt : k < l
    · obtain ⟨p, hp⟩ : ∃ p : Nat, (l : Int) - 1 - (k : Int) = (p : Int) := ⟨l - 1 - k, by omega⟩
      have hpl : p < l := by omega
      obtain ⟨b, o, rfl, c0, c1, c2, c3⟩ := HC.out p hpl
      obtain ⟨n1, n2, n3⟩ := HCN.out b o rfl (by omega)
      have d0 := hnx.cell c0 n1 n2 n3
      have d1 := hnx.cell c1 n1 n2 n3
      have d2 := hnx.cell c2 n1 n2 n3
      have d3 := hnx.cell c3 n1 n2 n3
      obtain ⟨fn, tmps, assign, body, hy, hR⟩ := HY.out (bckF l k) ⟨p, hpl⟩ wr hJs.out (by rw [bckF_length _ _ hk]; omega)
      have hbk : bckF l (k + 1) = bckF l k ++ [⟨p, hpl⟩] := bckF_succ hlt (by show p = _; omega)
      simp only [orV] at hy
      rw [hp]
      have HBK := Hid.out (p := Hid _) hbk
      have HP := Hid.out (p := Hid _) hp
      clear hbk c0 c1 c2 c3 n1 n2 n3
      obtain ⟨x0, hx0⟩ : ∃ v, X p 0 = v := ⟨_, rfl⟩
      obtain ⟨x1, hx1⟩ : ∃ v, X p 1 = v := ⟨_, rfl⟩
      obtain ⟨x2, hx2⟩ : ∃ v, X p 2 = v := ⟨_, rfl⟩
      obtain ⟨x3, hx3⟩ : ∃ v, X p 3 = v := ⟨_, rfl⟩
      rw [hx0] at d0 hy
      rw [hx1] at d1 hy
      rw [hx2] at d2 hy
      rw [hx3] at d3 hy
      clear hx0 hx1 hx2 hx3
      gi_wp2
      refine hR.mono ?_
      rintro e W3 (⟨rfl, hJ3, hk3⟩ | ⟨rfl, hJx3⟩)
      · gi_wp2
        go_roundw
        case rel => exact ⟨k + 1, by omega, by rw [← HP.out]; simp <;> omega, (by rw [HBK.out]; exact hJ3 : Hid (J (bckF l (k + 1)) W3)), kpL_t hnx hk3⟩
        case measure => first | (simp [intOf]; done) | (simp [intOf]; omega)
      · gi_wp2
        refine bodyPost_ret (results_none rfl _ _ _) rfl ?_
        exact ⟨⟨_, rfl⟩, .inr ⟨_, ⟨k + 1, by omega, HBK.out.symm⟩, hJx3⟩⟩
    · obtain rfl : k = l := by omega
      have hneg : (k : Int) - 1 - (k : Int) = -1 := by omega
      rw [hneg]
      gi_wp2
      go_end0
      exact ⟨⟨_, rfl⟩, .inl ⟨_, rfl, hJs.out⟩⟩
set_option maxHeartbeats 1000000 in
theorem bckF_in (F : Fence) (n : Nat) (hF : F.fn 49) (hro : F.round = none) (a : Option Addr) (len cap : Nat) (w : World) :
    CallsIn F n Tryd.prog 49 #[.slice a len cap] w fun e w' => e = .returned (.func (.func 83) #[] #[.pointer (some ⟨w.heap.size, 0, none⟩)]) ∧ w' = w.alloc (.cells #[.slice a len cap] 36) := by
  refine callsIn_of_wp Tryd.func49 rfl hF ?_ hro
  simp only [Tryd.ntmps49, List.size_toArray, List.length_cons, List.length_nil, Nat.reduceAdd, Nat.reduceSub, Array.replicate_succ, Array.replicate_zero, List.push_toArray, List.append_toArray, List.nil_append, List.cons_append]
  gi_wp2
  go_ret
  exact ⟨rfl, rfl⟩
theorem bckF_stops (F : Fence) (n : Nat) (hF : F.fn 83) (hro : F.round = none) (hn : 1 ≤ n) (Bs n₀ x y : Nat) (ca : Option Addr) (cc : Nat) (X : Nat → Nat → Int) (l : Nat) (hl : l ≤ 1000) (w : World) (hBs : w.cell? ⟨Bs, 0, none⟩ = some (.slice ca l cc)) (hBn : Bs < n₀ ∧ Bs ≠ x ∧ Bs ≠ y) (hn₀ : n₀ ≤ w.heap.size) (hc : ∀ p, p < l → OrdAt w ca p (X p 0) (X p 1) (X p 2) (X p 3)) (hcn : ∀ b o, ca = some ⟨b, o, none⟩ → 0 < l → b < n₀ ∧ b ≠ x ∧ b ≠ y) :
    SeqStopsK F n Tryd.prog 83 #[.pointer (some ⟨Bs, 0, none⟩)] (orV X l) (KpL n₀ x y) (fun ys => ys = bckF l l) (fun pre => ∃ k, k ≤ l ∧ pre = bckF l k) l w := fun lp J Jx W hW _ _ hY h0 =>
  bckF1_in F n hF hro hn lp Bs n₀ x y ca cc X l hl J Jx hY W ((hW.cell (p := ⟨Bs, 0, none⟩) (by show Bs < _; omega)).trans hBs) hBn (fun p hp => (hc p hp).below hW) hcn h0

/-! Rows of four cells each. -/
def rows4 (n : Nat) (f : Nat → Nat → Value) : List Value := (List.range (n * 4)).map fun i => f (i / 4) (i % 4)
theorem rows4_len (n : Nat) (f : Nat → Nat → Value) : (rows4 n f).length = n * 4 := by simp [rows4]
theorem rows4_at (n : Nat) (f : Nat → Nat → Value) (i : Nat) : (rows4 n f)[i]? = if i < n * 4 then some (f (i / 4) (i % 4)) else none := by
  unfold rows4
  rw [List.getElem?_map]
  by_cases h : i < n * 4
  · rw [if_pos h, List.getElem?_range h]; rfl
  · rw [if_neg h, List.getElem?_eq_none (by simp; omega)]; rfl
theorem rows4_get {n : Nat} {f : Nat → Nat → Value} {t j : Nat} (ht : t < n) (hj : j < 4) : (rows4 n f)[t * 4 + j]? = some (f t j) := by
  rw [rows4_at, if_pos (by omega), show (t * 4 + j) / 4 = t by omega, show (t * 4 + j) % 4 = j by omega]
theorem rows4_put {n t : Nat} {f g : Nat → Nat → Value} (hne : ∀ a, a ≠ t → g a = f a) : rows4 n g = ((((rows4 n f).set (t * 4) (g t 0)).set (t * 4 + 1) (g t 1)).set (t * 4 + 2) (g t 2)).set (t * 4 + 3) (g t 3) := by
  refine List.ext_getElem? fun i => ?_
  simp only [List.getElem?_set, List.length_set, rows4_len, rows4_at]
  by_cases hi : i < n * 4
  · rw [if_pos hi]
    by_cases e3 : t * 4 + 3 = i
    · subst e3
      rw [if_pos rfl, if_pos hi, show (t * 4 + 3) / 4 = t by omega, show (t * 4 + 3) % 4 = 3 by omega]
    · rw [if_neg e3]
      by_cases e2 : t * 4 + 2 = i
      · subst e2
        rw [if_pos rfl, if_pos hi, show (t * 4 + 2) / 4 = t by omega, show (t * 4 + 2) % 4 = 2 by omega]
      · rw [if_neg e2]
        by_cases e1 : t * 4 + 1 = i
        · subst e1
          rw [if_pos rfl, if_pos hi, show (t * 4 + 1) / 4 = t by omega, show (t * 4 + 1) % 4 = 1 by omega]
        · rw [if_neg e1]
          by_cases e0 : t * 4 = i
          · subst e0
            rw [if_pos rfl, if_pos hi, show t * 4 / 4 = t by omega, show t * 4 % 4 = 0 by omega]
          · rw [if_neg e0, if_pos hi, hne (i / 4) (by omega)]
  · rw [if_neg hi]
    have h0 : ¬ t * 4 = i ∨ ¬ t * 4 < n * 4 := by omega
    repeat' split
    all_goals first | rfl | omega
def u4 (S : Nat → Nat → Nat) : Nat → Nat → Value := fun j q => .int .u64 (S j q)
/-- Sets in a row that was made. -/
def RowZ (w : World) (B ab n : Nat) (S : Nat → Nat → Nat) : Prop := w.ownsRow B 88 4 (.slice (some ⟨ab, 0, none⟩) n n) n (rows4 n (u4 S))
section
variable {w w' : World} {B ab n : Nat} {S : Nat → Nat → Nat}
theorem RowZ.below (h : RowZ w B ab n S) (hb : Below w.heap.size w w') : RowZ w' B ab n S := owns_below2 h hb
theorem RowZ.keep (h : RowZ w B ab n S) (hb : w'.heap[ab]? = w.heap[ab]?) : RowZ w' B ab n S := fam_keeps h (fun g hg => by
  have e : ab = g := by simpa [Value.ownBlock] using hg
  rw [← e]; exact hb)
theorem RowZ.lt (h : RowZ w B ab n S) : B ≤ ab ∧ ab < w.heap.size := World.ownsRow.lt h ab rfl
theorem RowZ.sets (h : RowZ w B ab n S) : SetsAt w ab n S := fun j hj =>
  ⟨fam_cell h rfl (rows4_get (f := u4 S) hj (by omega : 0 < 4)), fam_cell h rfl (rows4_get (f := u4 S) hj (by omega : 1 < 4)), fam_cell h rfl (rows4_get (f := u4 S) hj (by omega : 2 < 4)), fam_cell h rfl (rows4_get (f := u4 S) hj (by omega : 3 < 4))⟩
theorem RowZ.free (h : RowZ w B ab n S) (i : Nat) : w.frozen? ⟨ab, i, none⟩ = false := fam_frozen h rfl i
theorem RowZ.put (h : RowZ w B ab n S) (t : Nat) (f : Nat → Nat) : RowZ ((((w.setCell ⟨ab, t * 4, none⟩ (.int .u64 (f 0))).setCell ⟨ab, t * 4 + 1, none⟩ (.int .u64 (f 1))).setCell ⟨ab, t * 4 + 2, none⟩ (.int .u64 (f 2))).setCell ⟨ab, t * 4 + 3, none⟩ (.int .u64 (f 3))) B ab n (putS S t f) := by
  have h1 := fam_put (fam_put (fam_put (fam_put h (g := ab) rfl (t * 4) (.int .u64 (f 0))) rfl (t * 4 + 1) (.int .u64 (f 1))) rfl (t * 4 + 2) (.int .u64 (f 2))) rfl (t * 4 + 3) (.int .u64 (f 3))
  have e := rows4_put (n := n) (t := t) (f := u4 S) (g := u4 (putS S t f)) (fun a ha => by unfold u4; rw [putS_ne _ _ ha])
  unfold RowZ
  rw [e]
  unfold u4
  rw [putS_self]
  exact h1
end
theorem infoSt : (Tryd.prog.info? 88).map (fun i => (i.zero, i.size, i.bytes)) = some (some (setV noS), 4, 32) := by kernel_rfl
theorem made_sets (n : Nat) : (madeCells #[Value.int .u64 0, .int .u64 0, .int .u64 0, .int .u64 0] (n * 4)).toList = rows4 n (u4 fun _ => noS) := by
  apply List.ext_getElem?
  intro i
  rw [rows4_at]
  simp only [madeCells, u4, noS]
  by_cases h : i < n * 4
  · rw [if_pos h]
    have : i % 4 = 0 ∨ i % 4 = 1 ∨ i % 4 = 2 ∨ i % 4 = 3 := by omega
    rcases this with e | e | e | e <;> simp [h, e]
  · rw [if_neg h]
    simp; omega
theorem sets_start (w : World) (n : Nat) (hn : n ≤ 1001) : ∃ w1, (Instr.makeSlice 62 (.int .i64 (n : Int)) (.int .i64 (n : Int))).run Tryd.prog w = .ok (.slice (some ⟨w.heap.size, 0, none⟩) n n) w1 ∧ RowZ w1 w.heap.size w.heap.size n (fun _ => noS) ∧ Below w.heap.size w w1 := by
  obtain ⟨i, hi, hz0, hz1, hz2⟩ := info_is infoSt
  obtain ⟨w1, r1, r2, r3⟩ := run_makeSlice_full (P := Tryd.prog) w w.heap.size 62 88 i (setV noS) 4 Tryd.underlying62 hi hz0 hz1 .i64 .i64 n (by omega) (by rw [hz2]; omega) (by unfold maxLen; omega) (Nat.le_refl _)
  have hlow : Below w.heap.size w w1 := (Below.refl _ _).grown r3 (Nat.le_refl _) (fun k hk => by cases hk)
  refine ⟨w1, by simpa using r1, ?_, hlow⟩
  have e : (setV noS).cells = #[Value.int .u64 0, .int .u64 0, .int .u64 0, .int .u64 0] := rfl
  rw [e, made_sets] at r2
  exact r2

end Go.Proofs.YtocfocjnnjdcgaaDoor
