/-
  Values that are always the same, by the program: small functions.
  Is a number in a row? And what does no more than to write a register.
-/
import Derived.Test.YtkailbdjilkneaaDoorOptB
import Derived.Test.YtkailbdjilkneaaDoorLivC
import Derived.StillTailTactics
import Derived.BigRegion
import Derived.Test.YtkailbdjilkneaaDoorAppB
namespace Go.Proofs.YtkailbdjilkneaaDoor
section
open Go.RowKit

theorem low1 (w : World) (o : Obj) : Below w.heap.size w (w.alloc o) := (Below.refl _ _).alloc (Nat.le_refl _) _
theorem low3 (w : World) (o1 o2 o3 : Obj) : Below w.heap.size w (((w.alloc o1).alloc o2).alloc o3) := ((low1 w o1).alloc (by simp) _).alloc (by simp; omega) _
theorem always_any (n : Int) (w : World) : Calls Tryd.prog 60 #[.int .i64 n] w fun e w' => e = .returned (.agg #[.int .i64 1, .int .i64 n]) ∧ Below w.heap.size w w' := by
  go_enter Tryd.func60, Tryd.ntmps60
  go_wp2
  refine bodyPost_ret (by simp [results, Tryd.results60, go_sem] <;> rfl) rfl ⟨rfl, low1 _ _⟩
theorem struth_any (b : Bool) (w : World) : Calls Tryd.prog 131 #[.bool b] w fun e w' => e = .returned (.int .i64 (bitI b)) ∧ w' = w := by
  go_enter Tryd.func131, Tryd.ntmps131
  cases b
  · go_wp2
    refine bodyPost_ret (v := .int .i64 0) (by simp [results, Tryd.results131, go_sem]) rfl ⟨rfl, rfl⟩
  · go_wp2
    refine bodyPost_ret (v := .int .i64 1) (by simp [results, Tryd.results131, go_sem]) rfl ⟨rfl, rfl⟩
theorem reckons_any (w : World) (op : Int) : Calls Tryd.prog 63 #[.int .i64 op] w fun e w' => e = .returned (.bool (decide (2 ≤ op) && decide (op ≤ 7))) ∧ w' = w := by
  by_cases h1 : 2 ≤ op
  · by_cases h7 : op ≤ 7
    · go_enter Tryd.func63, Tryd.ntmps63
      go_wp2
      go_ret
      simp [h1, h7]
    · go_enter Tryd.func63, Tryd.ntmps63
      go_wp2
      go_ret
      simp [h7]
  · go_enter Tryd.func63, Tryd.ntmps63
    go_wp2
    go_ret
    simp [show ¬ (2 ≤ op) by omega]
set_option maxHeartbeats 1600000 in
theorem reckonI_any (op b c : Int) (h : 2 ≤ op ∧ op ≤ 7) (w : World) : Calls Tryd.prog 104 #[.int .i64 op, .int .i64 b, .int .i64 c] w fun e w' => e = .returned (.int .i64 (rcI op b c)) ∧ w' = w := by
  have HT : Hid (∀ b V, Calls Tryd.prog 131 #[.bool b] V fun e w' => e = .returned (.int .i64 (bitI b)) ∧ w' = V) := fun b V => struth_any b V
  rcases (by omega : op = 2 ∨ op = 3 ∨ op = 4 ∨ op = 5 ∨ op = 6 ∨ op = 7) with rfl | rfl | rfl | rfl | rfl | rfl
  · go_enter Tryd.func104, Tryd.ntmps104
    go_wp2
    go_ret
    exact ⟨rfl, rfl⟩
  · rw [show rcI 3 b c = wrap64 (b + c) by show IntKind.i64.wrap _ = _; rw [IntKind.wrap_i64]; unfold wrap64; rfl]
    go_enter Tryd.func104, Tryd.ntmps104
    go_wp2
    go_ret
    exact ⟨rfl, rfl⟩
  · rw [show rcI 4 b c = wrap64 (b - c) by show IntKind.i64.wrap _ = _; rw [IntKind.wrap_i64]; unfold wrap64; rfl]
    go_enter Tryd.func104, Tryd.ntmps104
    go_wp2
    go_ret
    exact ⟨rfl, rfl⟩
  · rw [show rcI 5 b c = wrap64 (b * c) by show IntKind.i64.wrap _ = _; rw [IntKind.wrap_i64]; unfold wrap64; rfl]
    go_enter Tryd.func104, Tryd.ntmps104
    go_wp2
    go_ret
    exact ⟨rfl, rfl⟩
  · go_enter Tryd.func104, Tryd.ntmps104
    go_wp2_with fail
    refine Calls.mono (HT.out _ _) ?_
    rintro e w' ⟨rfl, rfl⟩
    go_wp2
    go_ret
    exact ⟨rfl, rfl⟩
  · go_enter Tryd.func104, Tryd.ntmps104
    go_wp2_with fail
    refine Calls.mono (HT.out _ _) ?_
    rintro e w' ⟨rfl, rfl⟩
    go_wp2
    go_ret
    exact ⟨rfl, rfl⟩
set_option maxHeartbeats 1600000 in
theorem joined_any (a b : Vl) (w : World) : Calls Tryd.prog 100 #[vlV a, vlV b] w fun e w' => e = .returned (vlV (a.meet b)) ∧ Below w.heap.size w w' := by
  have num2 : ∀ m n : Int, m = n ∨ (m ≠ n ∧ (m == n) = false) := fun m n => by
    by_cases h : m = n
    · exact Or.inl h
    · exact Or.inr ⟨h, by simpa using h⟩
  cases a with
  | no =>
    cases b
    all_goals unfold vlV Vl.meet Vl.st Vl.nb
    all_goals go_enter Tryd.func100, Tryd.ntmps100
    all_goals go_wp2
    all_goals refine bodyPost_ret (by simp [results, Tryd.results100, go_sem] <;> rfl) rfl ⟨rfl, low3 _ _ _ _⟩
  | num m =>
    cases b with
    | no =>
      unfold vlV Vl.meet Vl.st Vl.nb
      go_enter Tryd.func100, Tryd.ntmps100
      go_wp2
      refine bodyPost_ret (by simp [results, Tryd.results100, go_sem] <;> rfl) rfl ⟨rfl, low3 _ _ _ _⟩
    | num n =>
      rcases num2 m n with rfl | ⟨h, h'⟩
      · unfold vlV Vl.meet Vl.st Vl.nb
        go_enter Tryd.func100, Tryd.ntmps100
        go_wp2
        refine bodyPost_ret (by simp [results, Tryd.results100, go_sem] <;> rfl) rfl ⟨by first | rfl | simp, low3 _ _ _ _⟩
      · unfold vlV Vl.meet Vl.st Vl.nb
        go_enter Tryd.func100, Tryd.ntmps100
        go_wp2
        refine bodyPost_ret (by simp [results, Tryd.results100, go_sem] <;> rfl) rfl ⟨rfl, low3 _ _ _ _⟩
    | any =>
      unfold vlV Vl.meet Vl.st Vl.nb
      go_enter Tryd.func100, Tryd.ntmps100
      go_wp2
      refine bodyPost_ret (by simp [results, Tryd.results100, go_sem] <;> rfl) rfl ⟨rfl, low3 _ _ _ _⟩
  | any =>
    cases b
    all_goals unfold vlV Vl.meet Vl.st Vl.nb
    all_goals go_enter Tryd.func100, Tryd.ntmps100
    all_goals go_wp2
    all_goals refine bodyPost_ret (by simp [results, Tryd.results100, go_sem] <;> rfl) rfl ⟨rfl, low3 _ _ _ _⟩
end

section
open Go.RowKit

set_option maxRecDepth 100000 in
set_option maxHeartbeats 800000 in
theorem iindex_any (w : World) (qa : Option Addr) (qc : Nat) (l : List Int) (x : Int) (hq : SIs w qa l) (hl : l.length ≤ 1000) :
    Calls Tryd.prog 109 #[.slice qa l.length qc, .int .i64 x] w fun e w' => (∃ r : Int, e = .returned (.int .i64 r) ∧ (0 ≤ r ↔ x ∈ l)) ∧ Below w.heap.size w w' := by
  obtain ⟨n, hn⟩ : ∃ n, l.length = n := ⟨_, rfl⟩
  have HN : Hid (l.length = n) := hn
  rw [hn] at hl ⊢
  have HQ : Hid (∀ W, Below w.heap.size w W → SIs W qa l) := fun W h => hq.below h
  clear hn hq
  go_enter Tryd.func109, Tryd.ntmps109
  go_wp2_with fail
  go_loopw [8] (fun i' wr => ∃ k : Nat, k ≤ n ∧ i' = .int .i64 k ∧ Hid (∀ p, p < k → l.getD p 0 ≠ x) ∧ Below w.heap.size w wr) (fun i' _ => n - (intOf i').toNat)
  case atStart => exact ⟨0, Nat.zero_le _, rfl, fun p hp => absurd hp (Nat.not_lt_zero _), Below.refl _ _⟩
  case round =>
    obtain ⟨k, hk, rfl, HJ, hbr⟩ := hrel
    by_cases hlt : k < n
    · have hkI : (k : Int) < (n : Int) := by omega
      obtain ⟨b, o, rfl, c0⟩ := HQ.out _ hbr k (by rw [HN.out]; exact hlt)
      obtain ⟨y, hy⟩ : ∃ y, l.getD k 0 = y := ⟨_, rfl⟩
      have HY : Hid (l.getD k 0 = y) := hy
      rw [hy] at c0
      clear hy
      by_cases he : x = y
      · subst he
        go_wp2_with fail
        all_goals go_ret
        all_goals refine ⟨⟨_, rfl, ?_⟩, by first | exact hbr | exact hbr.drew⟩
        all_goals refine ⟨fun _ => ?_, fun _ => by omega⟩
        all_goals
          have hk2 : k < l.length := by rw [HN.out]; exact hlt
          have : l.getD k 0 = l[k] := by simp [List.getD, hk2]
          rw [← HY.out, this]
          exact List.getElem_mem _
      · have HE : Hid (∀ p, p < k + 1 → l.getD p 0 ≠ x) := fun p hp => by
          rcases (by omega : p < k ∨ p = k) with h | rfl
          · exact HJ.out p h
          · rw [HY.out]; exact fun e => he e.symm
        have e4 : (x == y) = false := beq_false_of_ne he
        go_wp2_with fail
        all_goals go_roundw
        case rel => exact ⟨k + 1, by omega, by go_num, HE, by first | exact hbr | exact hbr.drew⟩
        case measure => simp [intOf]; omega
    · have hkI : ¬ (k : Int) < (n : Int) := by omega
      go_wp2_with fail
      go_ret
      refine ⟨⟨_, rfl, ?_⟩, hbr⟩
      refine ⟨fun h => absurd h (by decide), fun h => ?_⟩
      obtain ⟨p, hp, e⟩ := List.getElem_of_mem h
      have hpk : p < k := by have := HN.out; omega
      exact absurd (by simp [List.getD, List.getElem?_eq_getElem hp, e]) (HJ.out p hpk)

set_option maxRecDepth 100000 in
set_option maxHeartbeats 800000 in
theorem icontains_any (w : World) (qa : Option Addr) (qc : Nat) (l : List Int) (x : Int) (hq : SIs w qa l) (hl : l.length ≤ 1000) :
    Calls Tryd.prog 69 #[.slice qa l.length qc, .int .i64 x] w fun e w' => e = .returned (.bool (decide (x ∈ l))) ∧ Below w.heap.size w w' := by
  have HI := Hid.out (p := Hid _) (iindex_any w qa qc l x hq hl)
  obtain ⟨b, hb⟩ : ∃ b, decide (x ∈ l) = b := ⟨_, rfl⟩
  have HBB : Hid (decide (x ∈ l) = b) := hb
  rw [hb]
  obtain ⟨n, hn⟩ : ∃ n, l.length = n := ⟨_, rfl⟩
  rw [hn] at HI ⊢
  clear hq hl hb hn
  go_enter Tryd.func69, Tryd.ntmps69
  go_wp2_with fail
  refine Calls.mono HI.out ?_
  rintro e w1 ⟨⟨r, rfl, hr⟩, hb1⟩
  have HR := Hid.out (p := Hid _) hr
  clear hr
  go_wp2
  go_ret
  refine ⟨ret_bool ?_, hb1⟩
  rw [← HBB.out]
  exact decide_eq_decide.2 HR.out

theorem doesNoMore_any (w : World) (op : Int) : Calls Tryd.prog 68 #[.int .i64 op] w fun e w' => e = .returned (.bool (decide (op = 1) || decide (op = 8) || (decide (2 ≤ op) && decide (op ≤ 7)))) ∧ w' = w := by
  have HR : Hid (∀ V, Calls Tryd.prog 63 #[.int .i64 op] V fun e w' => e = .returned (.bool (decide (2 ≤ op) && decide (op ≤ 7))) ∧ w' = V) := fun V => reckons_any V op
  by_cases h1 : op = 1
  · subst h1
    clear HR
    go_enter Tryd.func68, Tryd.ntmps68
    go_wp2_with fail
    go_ret
    exact ⟨rfl, rfl⟩
  · by_cases h8 : op = 8
    · subst h8
      clear HR
      go_enter Tryd.func68, Tryd.ntmps68
      go_wp2_with fail
      go_ret
      exact ⟨rfl, rfl⟩
    · have e1 : (op == 1) = false := beq_false_of_ne h1
      have e8 : (op == 8) = false := beq_false_of_ne h8
      obtain ⟨b, hb⟩ : ∃ b, (decide (2 ≤ op) && decide (op ≤ 7)) = b := ⟨_, rfl⟩
      have HE : Hid ((decide (op = 1) || decide (op = 8) || b) = b) := by simp [Hid, h1, h8]
      rw [hb] at HR ⊢
      rw [HE.out]
      clear hb HE
      go_enter Tryd.func68, Tryd.ntmps68
      go_wp2_with fail
      refine Calls.mono (HR.out _) ?_
      rintro e w1 ⟨rfl, rfl⟩
      go_wp2_with fail
      go_ret
      exact ⟨rfl, rfl⟩
end

end Go.Proofs.YtkailbdjilkneaaDoor
