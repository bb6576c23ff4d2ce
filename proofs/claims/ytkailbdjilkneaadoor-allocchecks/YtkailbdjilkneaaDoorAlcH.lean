/-
  The library's iterator that goes through numbers from behind.
-/
import Derived.Test.YtkailbdjilkneaaDoorLivE
namespace Go.Proofs.YtkailbdjilkneaaDoor
open Go.RowKit Go.Shelf

attribute [local go_sem] Oper.semAt_some

/-- A number of a list. -/
def pth (P : List Int) (i : Nat) : Int := P.getD i 0
/-- A place of a list, as it is handed on. -/
def inV (P : List Int) (l : Nat) (p : Fin l) : Array Value := #[.int .i64 (p.1 : Int), .int .i64 (pth P p.1)]
set_option maxRecDepth 100000 in
set_option maxHeartbeats 2000000 in
theorem bckI1_in (F : Fence) (n : Nat) (hF : F.fn 126) (hro : F.round = none) (hn : 1 ≤ n) (lp Bs n₀ x y : Nat) (ca : Option Addr) (cc : Nat) (P : List Int) (l : Nat) (hpl : P.length = l) (hl : l ≤ 1000) (J Jx : List (Fin l) → World → Prop)
    (hY : ∀ pre z W, J pre W → pre.length < l → YieldAt F (n - 1) Tryd.prog lp (inV P l z) W fun e W' =>
      (e = .returned (.bool true) ∧ J (pre ++ [z]) W' ∧ KpL n₀ x y W W') ∨ (e = .returned (.bool false) ∧ Jx (pre ++ [z]) W'))
    (W : World) (hBs : W.cell? ⟨Bs, 0, none⟩ = some (.slice ca l cc)) (hBn : Bs < n₀ ∧ Bs ≠ x ∧ Bs ≠ y) (hc : SIs W ca P) (hcn : ∀ b o, ca = some ⟨b, o, none⟩ → 0 < l → b < n₀ ∧ b ≠ x ∧ b ≠ y) (h0 : J [] W) :
    CallsIn F n Tryd.prog 126 #[.func (.yield lp) #[] #[], .pointer (some ⟨Bs, 0, none⟩)] W fun e W' => (∃ v, e = .returned v) ∧
      ((∃ ys, ys = bckF l l ∧ J ys W') ∨ (∃ pre, (∃ k, k ≤ l ∧ pre = bckF l k) ∧ Jx pre W')) := by
  refine callsIn_of_wp Tryd.func126 rfl hF ?_ hro
  simp only [Tryd.ntmps126, List.size_toArray, List.length_cons, List.length_nil, Nat.reduceAdd, Nat.reduceSub, Array.replicate_succ, Array.replicate_zero, List.push_toArray, List.append_toArray, List.nil_append, List.cons_append]
  have HC : Hid (SIs W ca P) := hc
  have HPL := Hid.out (p := Hid _) hpl
  have HCN := Hid.out (p := Hid _) hcn
  have HY := Hid.out (p := Hid _) hY
  have HBN := Hid.out (p := Hid _) hBn
  clear hc hY hcn hBn hpl
  gi_wp2
  gi_loopw [3] (fun i wr => ∃ k : Nat, k ≤ l ∧ i = .int .i64 ((l : Int) - 1 - (k : Int)) ∧ Hid (J (bckF l k) wr) ∧ KpL n₀ x y W wr) (fun i _ => (intOf i + 1).toNat)
  case atStart => exact ⟨0, Nat.zero_le _, by simp, h0, KpL.refl _ _ _ _⟩
  case round =>
    obtain ⟨k, hk, rfl, hJs, hnx⟩ := hrel
    have hbx : wr.cell? ⟨Bs, 0, none⟩ = some (.slice ca l cc) := hnx.cell hBs HBN.out.1 HBN.out.2.1 HBN.out.2.2
    by_cases hlt : k < l
    · obtain ⟨p, hp⟩ : ∃ p : Nat, (l : Int) - 1 - (k : Int) = (p : Int) := ⟨l - 1 - k, by omega⟩
      have hpl : p < l := by omega
      obtain ⟨b, o, rfl, c0⟩ := HC.out p (by rw [HPL.out]; exact hpl)
      obtain ⟨n1, n2, n3⟩ := HCN.out b o rfl (by omega)
      have d0 := hnx.cell c0 n1 n2 n3
      obtain ⟨fn, tmps, assign, body, hy, hR⟩ := HY.out (bckF l k) ⟨p, hpl⟩ wr hJs.out (by rw [bckF_length _ _ hk]; omega)
      have hbk : bckF l (k + 1) = bckF l k ++ [⟨p, hpl⟩] := bckF_succ hlt (by show p = _; omega)
      simp only [inV, pth] at hy
      rw [hp]
      have HBK := Hid.out (p := Hid _) hbk
      have HP := Hid.out (p := Hid _) hp
      clear hbk c0 n1 n2 n3
      obtain ⟨x0, hx0⟩ : ∃ v, P.getD p 0 = v := ⟨_, rfl⟩
      rw [hx0] at d0 hy
      clear hx0
      gi_wp2
      refine hR.mono ?_
      rintro e W3 (⟨rfl, hJ3, hk3⟩ | ⟨rfl, hJx3⟩)
      · gi_wp2
        go_roundw
        case rel => exact ⟨k + 1, by omega, by rw [← HP.out]; simp <;> omega, (by rw [HBK.out]; exact hJ3 : Hid (J (bckF l (k + 1)) W3)), kpL_t hnx hk3⟩
        case measure => first | (simp [intOf]; done) | (simp [intOf]; omega)
      · gi_wp2
        refine bodyPost_ret (results_none rfl _ _ _) rfl ?_
        exact ⟨⟨_, rfl⟩, .inr ⟨_, ⟨k + 1, by omega, HBK.out.symm⟩, hJx3⟩⟩
    · obtain rfl : k = l := by omega
      have hneg : (k : Int) - 1 - (k : Int) = -1 := by omega
      rw [hneg]
      gi_wp2
      go_end0
      exact ⟨⟨_, rfl⟩, .inl ⟨_, rfl, hJs.out⟩⟩
set_option maxHeartbeats 1000000 in
theorem bckI_in (F : Fence) (n : Nat) (hF : F.fn 88) (hro : F.round = none) (a : Option Addr) (len cap : Nat) (w : World) :
    CallsIn F n Tryd.prog 88 #[.slice a len cap] w fun e w' => e = .returned (.func (.func 126) #[] #[.pointer (some ⟨w.heap.size, 0, none⟩)]) ∧ w' = w.alloc (.cells #[.slice a len cap] 23) := by
  refine callsIn_of_wp Tryd.func88 rfl hF ?_ hro
  simp only [Tryd.ntmps88, List.size_toArray, List.length_cons, List.length_nil, Nat.reduceAdd, Nat.reduceSub, Array.replicate_succ, Array.replicate_zero, List.push_toArray, List.append_toArray, List.nil_append, List.cons_append]
  gi_wp2
  go_ret
  exact ⟨rfl, rfl⟩
theorem bckI_stops (F : Fence) (n : Nat) (hF : F.fn 126) (hro : F.round = none) (hn : 1 ≤ n) (Bs n₀ x y : Nat) (ca : Option Addr) (cc : Nat) (P : List Int) (l : Nat) (hpl : P.length = l) (hl : l ≤ 1000) (w : World) (hBs : w.cell? ⟨Bs, 0, none⟩ = some (.slice ca l cc)) (hBn : Bs < n₀ ∧ Bs ≠ x ∧ Bs ≠ y) (hn₀ : n₀ ≤ w.heap.size) (hc : SIs w ca P) (hcn : ∀ b o, ca = some ⟨b, o, none⟩ → 0 < l → b < n₀ ∧ b ≠ x ∧ b ≠ y) :
    SeqStopsK F n Tryd.prog 126 #[.pointer (some ⟨Bs, 0, none⟩)] (inV P l) (KpL n₀ x y) (fun ys => ys = bckF l l) (fun pre => ∃ k, k ≤ l ∧ pre = bckF l k) l w := fun lp J Jx W hW _ _ hY h0 =>
  bckI1_in F n hF hro hn lp Bs n₀ x y ca cc P l hpl hl J Jx hY W ((hW.cell (p := ⟨Bs, 0, none⟩) (by show Bs < _; omega)).trans hBs) hBn (hc.below hW) hcn h0

end Go.Proofs.YtkailbdjilkneaaDoor
