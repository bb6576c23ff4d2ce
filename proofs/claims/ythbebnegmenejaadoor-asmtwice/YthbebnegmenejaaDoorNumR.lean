/-
  What the document's reader of numbers does.
-/
import Derived.Test.YthbebnegmenejaaDoorNumA
namespace Go.Proofs.YthbebnegmenejaaDoor
open Go.RowKit

def numV (l : List UInt8) : Int := (numB l).getD 0
def numO (l : List UInt8) : Bool := (numB l).isSome

theorem numB_pos {l : List UInt8} (hn : isNeg l = false) : numB l = if formed l && !(l.head? == some 48 && !(l == [48])) then (if mag l ≤ 9223372036854775807 then some (mag l : Int) else none) else none := by
  simp [numB, digs, hn]
theorem numB_neg {l : List UInt8} (hn : isNeg l = true) : numB l = if formed l.tail && !(l.tail.head? == some 48) then (if mag l.tail ≤ 9223372036854775808 then some (-(mag l.tail : Int)) else none) else none := by
  have h : (l == [48]) = false := by
    match l, hn with
    | c :: r, hn =>
      have hc : c = 45 := by simpa [isNeg] using hn
      subst hc
      simp
  simp [numB, digs, hn, h]
theorem none_of {l : List UInt8} (h : numB l = none) : numV l = 0 ∧ numO l = false := by simp [numV, numO, h]
theorem some_of {l : List UInt8} {v : Int} (h : numB l = some v) : numV l = v ∧ numO l = true := by simp [numV, numO, h]
theorem ret2n {a v : Int} {b c : Bool} (h : v = a ∧ c = b) : Ending.returned (.tuple #[.int .i64 a, .bool b]) = .returned (.tuple #[.int .i64 v, .bool c]) := by rw [h.1, h.2]

theorem step_num {d : ByteArray} {k q : Nat} (hlt : k < d.size) (h19 : d.size ≤ 19) (ha : (d.data.toList.take k).all isDig = true) (hq : mag (d.data.toList.take k) = q) (hd : 48 ≤ ((d[k]'hlt).toNat : Int) ∧ ((d[k]'hlt).toNat : Int) ≤ 57) :
    ∃ q' : Nat, IntKind.u64.wrap (IntKind.u64.wrap (10 * (q : Int)) + (((d[k]'hlt).toNat : Int) - 48)) = (q' : Int) ∧ mag (d.data.toList.take (k + 1)) = q' ∧ (d.data.toList.take (k + 1)).all isDig = true := by
  have hl : (d.data.toList.take k).length ≤ 18 := by simp; omega
  have h1 := magFrom_lt (d.data.toList.take k) 0 ha
  have h2 : 10 ^ (d.data.toList.take k).length ≤ 10 ^ 18 := Nat.pow_le_pow_right (by omega) hl
  have h3 : magFrom 0 (d.data.toList.take k) = q := hq
  have e : mag (d.data.toList.take (k + 1)) = q * 10 + ((d[k]'hlt).toNat - 48) := by rw [take_snoc d k hlt, mag_snoc, hq]
  refine ⟨_, ?_, e, ?_⟩
  · rw [IntWalk.u64_in (10 * (q : Int)) (by omega), IntWalk.u64_in _ (by omega)]
    omega
  · rw [take_snoc d k hlt]
    simp only [List.all_append, ha, List.all_cons, List.all_nil, Bool.and_true, Bool.true_and, isDig, Bool.and_eq_true, decide_eq_true_eq]
    omega
theorem bad_dig {d : ByteArray} {k : Nat} (hlt : k < d.size) (hd : ((d[k]'hlt).toNat : Int) < 48 ∨ 57 < ((d[k]'hlt).toNat : Int)) : formed d.data.toList = false := by
  have : d.data.toList.all isDig = false := by
    rw [List.all_eq_false]
    refine ⟨d[k]'hlt, by simp [ByteArray.getElem_eq_getElem_data], ?_⟩
    simp only [isDig, Bool.and_eq_true, decide_eq_true_eq]
    omega
  simp [formed, this]
theorem good_end {d : ByteArray} {k q : Nat} (hk : ¬ k < d.size) (hp : 0 < d.size) (h19 : d.size ≤ 19) (ha : (d.data.toList.take k).all isDig = true) (hq : mag (d.data.toList.take k) = q) : formed d.data.toList = true ∧ mag d.data.toList = q := by
  rw [all_take_full d k (by omega)] at ha hq
  refine ⟨?_, hq⟩
  simp only [formed, ha, Bool.true_and, Bool.and_eq_true, decide_eq_true_eq]
  rw [← Lib.size_eq]; omega
theorem head_val {d : ByteArray} (hp : 0 < d.size) (c : UInt8) : (((d[0]'hp).toNat : Int) == (c.toNat : Int)) = (d.data.toList.head? == some c) := by
  obtain ⟨⟨l⟩⟩ := d
  match l, hp with
  | x :: r, _ =>
    show ((x.toNat : Int) == (c.toNat : Int)) = (some x == some c)
    rw [Bool.eq_iff_iff]
    simp [← UInt8.toNat_inj]
    omega

set_option maxRecDepth 20000 in
set_option maxHeartbeats 800000 in
theorem number_pos (s : ByteArray) (hp : 0 < s.size) (h19 : s.size ≤ 19) (h45 : (((s[0]'hp).toNat : Int) == 45) = false) (h48 : (((s[0]'hp).toNat : Int) == 48) = false ∨ (((s[0]'hp).toNat : Int) == 48) = true ∧ (s.size : Int) ≤ 1) (v : Int) (b : Bool) (HV : Hid (numV s.data.toList = v)) (HB : Hid (numO s.data.toList = b)) (w : World) :
    Calls Tryd.prog 42 #[.string s] w fun e w' => e = .returned (.tuple #[.int .i64 v, .bool b]) ∧ w' = w := by
  have HN : Hid (isNeg s.data.toList = false) := by have := head_val hp 45; rw [isNeg, ← this]; exact h45
  have HZ : Hid ((s.data.toList.head? == some 48 && !(s.data.toList == [48])) = false) := by
    show _ = false
    rcases h48 with h | ⟨h, h1⟩
    · have := head_val hp 48; rw [← this]; rw [show ((s[0].toNat : Int) == ((48 : UInt8).toNat : Int)) = false from h]; rfl
    · have := head_val hp 48
      have h2 : s.data.toList.head? = some 48 := by simpa using this.symm.trans h
      have h3 : s.data.toList.length = 1 := by rw [← Lib.size_eq]; omega
      match hl : s.data.toList, h2, h3 with
      | [c], h2, _ => simp at h2; subst h2; rfl
  rcases h48 with h48 | ⟨h48, h1⟩
  all_goals
    go_enter Tryd.func42, Tryd.ntmps42
    go_wp2
    go_loop [5, 6] (fun n i => ∃ k q : Nat, k ≤ s.size ∧ i = .int .i64 k ∧ n = .int .u64 q ∧ mag (s.data.toList.take k) = q ∧ (s.data.toList.take k).all isDig = true) (fun _ i => s.size - (intOf i).toNat)
    case atStart => exact ⟨0, 0, Nat.zero_le _, rfl, rfl, rfl, rfl⟩
    case round =>
      obtain ⟨k, q, hk, rfl, rfl, hq, had⟩ := hrel
      have HA : Hid ((s.data.toList.take k).all isDig = true) := had
      have HQ : Hid (mag (s.data.toList.take k) = q) := hq
      clear had hq
      by_cases hlt : k < s.size
      · go_wp2
        · go_ret2
          have h : numB s.data.toList = none := by rw [numB_pos HN.out, bad_dig hlt (by omega)]; rfl
          exact ⟨ret2n ⟨HV.out.symm.trans (none_of h).1, HB.out.symm.trans (none_of h).2⟩, rfl⟩
        · go_round
          case rel =>
            obtain ⟨q', e1, e2, e3⟩ := step_num hlt h19 HA.out HQ.out (by assumption)
            exact ⟨k + 1, q', by omega, by go_num, by rw [e1], e2, e3⟩
          case measure => simp [intOf]; omega
        · go_ret2
          have h : numB s.data.toList = none := by rw [numB_pos HN.out, bad_dig hlt (by omega)]; rfl
          exact ⟨ret2n ⟨HV.out.symm.trans (none_of h).1, HB.out.symm.trans (none_of h).2⟩, rfl⟩
      · have HG : Hid (formed s.data.toList = true ∧ mag s.data.toList = q) := good_end hlt hp h19 HA.out HQ.out
        go_wp2
        · go_ret2
          have h : numB s.data.toList = none := by rw [numB_pos HN.out, HG.out.1, HZ.out, HG.out.2, Bool.true_and, Bool.not_false, if_pos rfl, if_neg (by omega)]
          exact ⟨ret2n ⟨HV.out.symm.trans (none_of h).1, HB.out.symm.trans (none_of h).2⟩, rfl⟩
        · go_ret2
          have h : numB s.data.toList = some (q : Int) := by rw [numB_pos HN.out, HG.out.1, HZ.out, HG.out.2, Bool.true_and, Bool.not_false, if_pos rfl, if_pos (by omega)]
          exact ⟨ret2n ⟨HV.out.symm.trans (some_of h).1, HB.out.symm.trans (some_of h).2⟩, rfl⟩

theorem neg_back (q : Nat) (h : (q : Int) ≤ 9223372036854775808) : -(q : Int) = wrap64 (IntKind.u64.wrap (-(q : Int))) := by
  have e : IntKind.u64.wrap (-(q : Int)) = (-(q : Int)) % 18446744073709551616 := by simp [IntKind.wrap, IntKind.signed, IntKind.bits]
  rw [e, wrap64]
  omega

theorem tail_of {s d : ByteArray} (hd : s.extract 1 s.size = d) : d.data.toList = s.data.toList.tail := by
  subst hd
  rw [Lib.extract_to_end]
  simp

set_option maxRecDepth 20000 in
set_option maxHeartbeats 800000 in
theorem number_neg (s : ByteArray) (hp : 0 < s.size) (h45 : (((s[0]'hp).toNat : Int) == 45) = true) (d : ByteArray) (hd : s.extract 1 s.size = d) (hp1 : 0 < d.size) (h19 : d.size ≤ 19) (h48 : (((d[0]'hp1).toNat : Int) == 48) = false) (v : Int) (b : Bool) (HV : Hid (numV s.data.toList = v)) (HB : Hid (numO s.data.toList = b)) (w : World) :
    Calls Tryd.prog 42 #[.string s] w fun e w' => e = .returned (.tuple #[.int .i64 v, .bool b]) ∧ w' = w := by
  have HN : Hid (isNeg s.data.toList = true) := by have := head_val hp 45; rw [isNeg, ← this]; exact h45
  have HT : Hid (d.data.toList = s.data.toList.tail) := tail_of hd
  have HZ : Hid ((s.data.toList.tail.head? == some 48) = false) := by
    show _ = false
    have := head_val hp1 48
    rw [← HT.out, ← this]; exact h48
  go_enter Tryd.func42, Tryd.ntmps42
  go_wp2
  go_loop [5, 6] (fun n i => ∃ k q : Nat, k ≤ d.size ∧ i = .int .i64 k ∧ n = .int .u64 q ∧ mag (d.data.toList.take k) = q ∧ (d.data.toList.take k).all isDig = true) (fun _ i => d.size - (intOf i).toNat)
  case atStart => exact ⟨0, 0, Nat.zero_le _, rfl, rfl, rfl, rfl⟩
  case round =>
    obtain ⟨k, q, hk, rfl, rfl, hq, had⟩ := hrel
    have HA : Hid ((d.data.toList.take k).all isDig = true) := had
    have HQ : Hid (mag (d.data.toList.take k) = q) := hq
    clear had hq
    by_cases hlt : k < d.size
    · go_wp2
      · go_ret2
        have h : numB s.data.toList = none := by rw [numB_neg HN.out, ← HT.out, bad_dig hlt (by omega)]; rfl
        exact ⟨ret2n ⟨HV.out.symm.trans (none_of h).1, HB.out.symm.trans (none_of h).2⟩, rfl⟩
      · go_round
        case rel =>
          obtain ⟨q', e1, e2, e3⟩ := step_num hlt h19 HA.out HQ.out (by assumption)
          exact ⟨k + 1, q', by omega, by go_num, by rw [e1], e2, e3⟩
        case measure => simp [intOf]; omega
      · go_ret2
        have h : numB s.data.toList = none := by rw [numB_neg HN.out, ← HT.out, bad_dig hlt (by omega)]; rfl
        exact ⟨ret2n ⟨HV.out.symm.trans (none_of h).1, HB.out.symm.trans (none_of h).2⟩, rfl⟩
    · have HG : Hid (formed d.data.toList = true ∧ mag d.data.toList = q) := good_end hlt hp1 h19 HA.out HQ.out
      go_wp2
      · go_ret2
        have h : numB s.data.toList = none := by rw [numB_neg HN.out, HZ.out, ← HT.out, HG.out.1, HG.out.2, Bool.true_and, Bool.not_false, if_pos rfl, if_neg (by omega)]
        exact ⟨ret2n ⟨HV.out.symm.trans (none_of h).1, HB.out.symm.trans (none_of h).2⟩, rfl⟩
      · go_ret2
        have h : numB s.data.toList = some (-(q : Int)) := by rw [numB_neg HN.out, HZ.out, ← HT.out, HG.out.1, HG.out.2, Bool.true_and, Bool.not_false, if_pos rfl, if_pos (by omega)]
        refine ⟨ret2n ⟨(HV.out.symm.trans (some_of h).1).trans ?_, HB.out.symm.trans (some_of h).2⟩, rfl⟩
        exact neg_back q (by assumption)

set_option maxHeartbeats 800000 in
theorem number_no_pos (s : ByteArray) (h : s.size = 0 ∨ ∃ hp : 0 < s.size, (((s[0]'hp).toNat : Int) == 45) = false ∧ (19 < s.size ∨ s.size ≤ 19 ∧ (((s[0]'hp).toNat : Int) == 48) = true ∧ 1 < s.size)) (w : World) :
    Calls Tryd.prog 42 #[.string s] w fun e w' => e = .returned (.tuple #[.int .i64 0, .bool false]) ∧ w' = w := by
  rcases h with h | ⟨hp, h45, h | ⟨h, h48, h1⟩⟩
  · have h0 : ¬ (0 : Int) < s.size := by omega
    clear h
    go_enter Tryd.func42, Tryd.ntmps42
    go_wp2
    all_goals go_ret2
    all_goals exact ⟨rfl, rfl⟩
  · have hp' : (0 : Int) < s.size := by omega
    have h' : (19 : Int) < s.size := by omega
    go_enter Tryd.func42, Tryd.ntmps42
    go_wp2
    all_goals go_ret2
    all_goals exact ⟨rfl, rfl⟩
  · have hp' : (0 : Int) < s.size := by omega
    have h' : (s.size : Int) ≤ 19 := by omega
    have h1' : (1 : Int) < s.size := by omega
    go_enter Tryd.func42, Tryd.ntmps42
    go_wp2
    all_goals go_ret2
    all_goals exact ⟨rfl, rfl⟩

set_option maxHeartbeats 800000 in
theorem number_no_neg (s : ByteArray) (hp : 0 < s.size) (h45 : (((s[0]'hp).toNat : Int) == 45) = true) (d : ByteArray) (hd : s.extract 1 s.size = d) (h : d.size = 0 ∨ 19 < d.size ∨ d.size ≤ 19 ∧ ∃ hp1 : 0 < d.size, (((d[0]'hp1).toNat : Int) == 48) = true) (w : World) :
    Calls Tryd.prog 42 #[.string s] w fun e w' => e = .returned (.tuple #[.int .i64 0, .bool false]) ∧ w' = w := by
  rcases h with h | h | ⟨h, hp1, h48⟩
  · have h0 : (d.size : Int) < 1 := by omega
    clear h
    go_enter Tryd.func42, Tryd.ntmps42
    go_wp2
    all_goals go_ret2
    all_goals exact ⟨rfl, rfl⟩
  · have h' : (19 : Int) < d.size := by omega
    go_enter Tryd.func42, Tryd.ntmps42
    go_wp2
    all_goals go_ret2
    all_goals exact ⟨rfl, rfl⟩
  · have h' : (d.size : Int) ≤ 19 := by omega
    have hp' : (0 : Int) < d.size := by omega
    go_enter Tryd.func42, Tryd.ntmps42
    go_wp2
    all_goals go_ret2
    all_goals exact ⟨rfl, rfl⟩

theorem formed_no {l : List UInt8} (h : l.length = 0 ∨ 19 < l.length) : formed l = false := by
  rcases h with h | h
  · have : decide (1 ≤ l.length) = false := decide_eq_false (by omega)
    simp only [formed, this, Bool.and_false, Bool.false_and]
  · have : decide (l.length ≤ 19) = false := decide_eq_false (by omega)
    simp only [formed, this, Bool.and_false]

/-- The document's reader of numbers, of every text. -/
theorem number_any (s : ByteArray) (w : World) :
    Calls Tryd.prog 42 #[.string s] w fun e w' => e = .returned (.tuple #[.int .i64 (numV s.data.toList), .bool (numO s.data.toList)]) ∧ w' = w := by
  by_cases hz : s.size = 0
  · have h : numB s.data.toList = none := by
      have : s.data.toList = [] := List.eq_nil_of_length_eq_zero (by rw [← Lib.size_eq]; exact hz)
      rw [this]; rfl
    rw [(none_of h).1, (none_of h).2]
    exact number_no_pos s (Or.inl hz) w
  have hp : 0 < s.size := by omega
  by_cases h45 : (((s[0]'hp).toNat : Int) == 45) = true
  · have hn : isNeg s.data.toList = true := by have := head_val hp 45; rw [isNeg, ← this]; exact h45
    obtain ⟨d, hd⟩ : ∃ d, s.extract 1 s.size = d := ⟨_, rfl⟩
    have ht := tail_of hd
    by_cases hb : d.size = 0 ∨ 19 < d.size ∨ d.size ≤ 19 ∧ ∃ hp1 : 0 < d.size, (((d[0]'hp1).toNat : Int) == 48) = true
    · have h : numB s.data.toList = none := by
        rw [numB_neg hn, ← ht]
        apply if_neg
        rcases hb with hb | hb | ⟨_, hp1, hb⟩
        · rw [formed_no (Or.inl (by rw [← Lib.size_eq]; omega))]; simp
        · rw [formed_no (Or.inr (by rw [← Lib.size_eq]; omega))]; simp
        · have := head_val hp1 48
          rw [← this]
          have e : (((d[0]'hp1).toNat : Int) == ((48 : UInt8).toNat : Int)) = true := hb
          rw [e]; simp
      rw [(none_of h).1, (none_of h).2]
      exact number_no_neg s hp h45 d hd hb w
    · simp only [not_or, not_and, not_exists] at hb
      have hp1 : 0 < d.size := by omega
      exact number_neg s hp h45 d hd hp1 (by omega) (by simpa using hb.2.2 (by omega) hp1) _ _ rfl rfl w
  · have h45' : (((s[0]'hp).toNat : Int) == 45) = false := by simpa using h45
    have hn : isNeg s.data.toList = false := by have := head_val hp 45; rw [isNeg, ← this]; exact h45'
    by_cases hb : 19 < s.size ∨ s.size ≤ 19 ∧ (((s[0]'hp).toNat : Int) == 48) = true ∧ 1 < s.size
    · have h : numB s.data.toList = none := by
        rw [numB_pos hn]
        apply if_neg
        rcases hb with hb | ⟨_, hb, h1⟩
        · rw [formed_no (Or.inr (by rw [← Lib.size_eq]; omega))]; simp
        · have := head_val hp 48
          have e : (((s[0]'hp).toNat : Int) == ((48 : UInt8).toNat : Int)) = true := hb
          rw [e] at this
          have hne : (s.data.toList == [48]) = false := by
            rw [beq_eq_false_iff_ne]
            intro e2
            rw [Lib.size_eq, e2] at h1
            simp at h1
          rw [← this, hne]; simp
      rw [(none_of h).1, (none_of h).2]
      exact number_no_pos s (Or.inr ⟨hp, h45', hb⟩) w
    · refine number_pos s hp (by omega) h45' ?_ _ _ rfl rfl w
      by_cases h48 : (((s[0]'hp).toNat : Int) == 48) = true
      · exact Or.inr ⟨h48, by simp only [not_or, not_and] at hb; have := hb.2 (by omega) h48; omega⟩
      · exact Or.inl (by simpa using h48)

end Go.Proofs.YthbebnegmenejaaDoor
