/-
  What the program's readers of numbers do.
-/
import Derived.Test.YthbebnegmenejaaGreatDoorNum
import Derived.Test.YthbebnegmenejaaGreatDoorShelf
import Derived.Test.YthbebnegmenejaaGreatDoorInProg
import Derived.Lib.SmallJoins
import Derived.Deep.QuietTactic
import Derived.BigQuiet
namespace Go.Proofs.YthbebnegmenejaaGreatDoor
open Go.RowKit

theorem take_snoc (s : ByteArray) (k : Nat) (h : k < s.size) : s.data.toList.take (k + 1) = s.data.toList.take k ++ [s[k]] := by
  rw [List.take_succ_eq_append_getElem (by simpa using h)]; rfl
theorem all_take_full (s : ByteArray) (k : Nat) (h : s.size ≤ k) : s.data.toList.take k = s.data.toList := List.take_of_length_le (by simpa using h)

set_option maxHeartbeats 400000 in
theorem allDigits_any (s : ByteArray) (hs : s.size ≤ 9223372036854775807) (r : Bool) (HR : Hid (r = formed s.data.toList)) (w : World) :
    Calls Tryz.prog 59 #[.string s] w fun e w' => e = .returned (.bool r) ∧ w' = w := by
  have hlen : s.data.toList.length = s.size := by simp
  go_enter Tryz.func59, Tryz.ntmps59
  go_wp2
  go_loop [6] (fun i => ∃ k : Nat, k ≤ s.size ∧ i = .int .i64 k ∧ (s.data.toList.take k).all isDig = true) (fun i => s.size - (intOf i).toNat)
  case atStart => exact ⟨0, Nat.zero_le _, rfl, rfl⟩
  case round =>
    obtain ⟨k, hk, rfl, had⟩ := hrel
    have HA : Hid ((s.data.toList.take k).all isDig = true) := had
    clear had
    have HL : Hid (s.data.toList.length = s.size) := hlen
    clear hlen
    by_cases hlt : k < s.size
    · by_cases hd : isDig s[k] = true
      · have HD : Hid (isDig s[k] = true) := hd
        have hd1 : 48 ≤ (s[k].toNat : Int) := by simp [isDig] at hd; omega
        have hd2 : (s[k].toNat : Int) ≤ 57 := by simp [isDig] at hd; omega
        clear hd
        go_wp2
        go_round
        case rel => exact ⟨k + 1, by omega, by go_num, by rw [take_snoc s k hlt]; simp [HA.out, HD.out]⟩
        case measure => simp [intOf]; omega
      · have HF : Hid (r = false) := by
          show r = false
          rw [HR.out, formed]
          have : s.data.toList.all isDig = false := by
            rw [List.all_eq_false]
            exact ⟨s[k], by simp [ByteArray.getElem_eq_getElem_data], hd⟩
          simp [this]
        have HD : Hid (¬ isDig s[k] = true) := hd
        clear hd
        by_cases h1 : (s[k].toNat : Int) < 48
        · go_wp2
          go_ret
          exact ⟨ret_bool HF.out.symm, rfl⟩
        · have h2 : 57 < (s[k].toNat : Int) := by have := HD.out; simp [isDig] at this; omega
          go_wp2
          go_ret
          exact ⟨ret_bool HF.out.symm, rfl⟩
    · have HF : Hid (r = (decide (1 ≤ s.size) && decide (s.size ≤ 19))) := by
        show r = _
        have := HA.out
        rw [all_take_full s k (by omega)] at this
        rw [HR.out, formed, this, HL.out]; simp
      clear HA HL
      go_wp2
      all_goals go_ret
      all_goals refine ⟨ret_bool ?_, rfl⟩
      all_goals (rw [HF.out, Bool.eq_iff_iff]; simp; omega)

theorem head_at {d : ByteArray} {l : List UInt8} {c : UInt8} (hd : d = ⟨l.toArray⟩) (h : 0 < d.size) (hl : l.head? = some c) : d[0]'h = c := by
  subst hd
  match l, hl with
  | x :: r, hl => exact (show x = c by simpa using hl)

/-- What the readers find in memory besides: the error that they hand back, and what the library reads of its own. -/
structure Env (w : World) (te : TypeId) (ep : Value) : Prop where
  err : w.cell? ⟨0, 0, none⟩ = some (.iface te ep)
  len : ∃ m, w.cell? ⟨2, 0, none⟩ = some (.int .i64 m)
  rng : ∃ tp p, World.var? Tryz.prog w "strconv.ErrRange" = some #[.iface tp p]

set_option maxHeartbeats 400000 in
theorem readNumber_bad (s : ByteArray) (hs : s.size ≤ 4000) (hb : (formed (digs s.data.toList) && !((digs s.data.toList).head? == some 48 && !(s.data.toList == [48]))) = false) (te : TypeId) (ep : Value) (w : World) (he : w.cell? ⟨0, 0, none⟩ = some (.iface te ep)) :
    Calls Tryz.prog 48 #[.string s] w fun e w' => e = .returned (.tuple #[.int .i64 0, .iface te ep]) ∧ Below w.heap.size w w' := by
  obtain ⟨d, hd⟩ : ∃ d : ByteArray, d = ⟨(digs s.data.toList).toArray⟩ := ⟨_, rfl⟩
  have HD : Hid (d = ⟨(digs s.data.toList).toArray⟩) := hd
  have hdl : d.size ≤ 4000 := by
    rw [hd]
    have : (digs s.data.toList).length ≤ s.data.toList.length := by unfold digs; split <;> simp
    rw [Lib.size_eq] at hs ⊢
    simp only at this ⊢
    omega
  clear hd
  by_cases hf : formed (digs s.data.toList) = true
  · rw [hf] at hb
    simp only [Bool.true_and, Bool.not_eq_false', Bool.and_eq_true] at hb
    have hpos : 0 < d.size := by
      have h1 := hf
      simp only [formed, Bool.and_eq_true, decide_eq_true_eq] at h1
      rw [HD.out, Lib.size_eq]; simp only; omega
    have hd0 : ((d[0]'hpos).toNat : Int) = 48 := by
      have h48 : (digs s.data.toList).head? = some 48 := by simpa using hb.1
      have := head_at HD.out hpos h48
      rw [this]; rfl
    have hs48 : (s.toList == [48]) = false := by rw [Lib.toList_data]; simpa using hb.2
    have HF : Hid (formed (digs s.data.toList) = true) := hf
    have HB := Hid.out (p := Hid _) hb
    clear hf hb
    go_enter Tryz.func48, Tryz.ntmps48
    go_wp2_with (first | (go_at_call 58; refine (Tryz.strings_TrimPrefix _ _ _).mono ?_; rintro e w' ⟨rfl, rfl⟩; simp only [trim_digs]; rw [← HD.out]) | (go_at_call 59; refine (allDigits_any _ (by omega) true (by show true = _; rw [HD.out]; exact HF.out.symm) _).mono ?_; rintro e w' ⟨rfl, rfl⟩))
    go_quiet (fail)
    go_wp2
    go_ret2
    exact ⟨rfl, below_drewN (Below.refl _ _) _⟩
  · go_enter Tryz.func48, Tryz.ntmps48
    go_wp2_with (first | (go_at_call 58; refine (Tryz.strings_TrimPrefix _ _ _).mono ?_; rintro e w' ⟨rfl, rfl⟩; simp only [trim_digs]; rw [← HD.out]) | (go_at_call 59; refine (allDigits_any _ (by omega) false (by show false = _; rw [HD.out]; simpa using hf) _).mono ?_; rintro e w' ⟨rfl, rfl⟩))
    go_quiet (fail)
    go_wp2
    go_ret2
    exact ⟨rfl, below_drewN (Below.refl _ _) _⟩

set_option maxHeartbeats 800000 in
theorem readNumber_ok (s : ByteArray) (hs : s.size ≤ 4000) (hf : formed (digs s.data.toList) = true) (h0 : ((digs s.data.toList).head? == some 48 && !(s.data.toList == [48])) = false) (v : Int) (hv : Lib.atoiAll s.data.toList = .ok v) (w : World) :
    Calls Tryz.prog 48 #[.string s] w fun e w' => e = .returned (.tuple #[.int .i64 v, .nilIface]) ∧ Below w.heap.size w w' := by
  obtain ⟨d, hd⟩ : ∃ d : ByteArray, d = ⟨(digs s.data.toList).toArray⟩ := ⟨_, rfl⟩
  have HD : Hid (d = ⟨(digs s.data.toList).toArray⟩) := hd
  have hdl : d.size ≤ 4000 := by
    rw [hd]
    have : (digs s.data.toList).length ≤ s.data.toList.length := by unfold digs; split <;> simp
    rw [Lib.size_eq] at hs ⊢
    simp only at this ⊢
    omega
  clear hd
  have hpos : 0 < d.size := by
    have h1 := hf
    simp only [formed, Bool.and_eq_true, decide_eq_true_eq] at h1
    rw [HD.out, Lib.size_eq]; simp only; omega
  have HF : Hid (formed (digs s.data.toList) = true) := hf
  have hz : (((d[0]'hpos).toNat : Int) == 48) = false ∨ (((d[0]'hpos).toNat : Int) == 48) = true ∧ (s.toList == [48]) = true := by
    by_cases h48 : (digs s.data.toList).head? = some 48
    · refine Or.inr ⟨by rw [head_at HD.out hpos h48]; rfl, ?_⟩
      rw [Lib.toList_data]
      simpa [h48] using h0
    · refine Or.inl ?_
      obtain ⟨c, hc⟩ : ∃ c, (digs s.data.toList).head? = some c := by
        cases hl : digs s.data.toList with
        | nil => rw [hl] at hf; simp [formed] at hf
        | cons c r => exact ⟨c, rfl⟩
      rw [head_at HD.out hpos hc, beq_eq_false_iff_ne]
      intro e
      apply h48
      rw [hc]
      congr 1
      exact UInt8.toNat_inj.1 (by show c.toNat = 48; have : (c.toNat : Int) = 48 := e; omega)
  clear hf h0
  rcases hz with hz | ⟨hz, hs48⟩
  all_goals
    go_enter Tryz.func48, Tryz.ntmps48
    go_wp2_with (first | (go_at_call 58; refine (Tryz.strings_TrimPrefix _ _ _).mono ?_; rintro e w' ⟨rfl, rfl⟩; simp only [trim_digs]; rw [← HD.out]) | (go_at_call 59; refine (allDigits_any _ (by omega) true (by show true = _; rw [HD.out]; exact HF.out.symm) _).mono ?_; rintro e w' ⟨rfl, rfl⟩) | (go_at_call 60; refine (Tryz.strconv_Atoi_ok _ (by omega) v hv _).mono ?_; rintro e w' ⟨rfl, hww⟩))
    go_ret2
    refine ⟨rfl, ?_⟩
    rcases hww with rfl | ⟨t, rfl⟩
    · exact Below.refl _ _
    · exact Go.Joins.below_bytesWorld _ _ _ _ (Nat.le_refl _)

set_option maxHeartbeats 800000 in
theorem readNumber_range (s : ByteArray) (hs : s.size ≤ 4000) (hf : formed (digs s.data.toList) = true) (h0 : ((digs s.data.toList).head? == some 48 && !(s.data.toList == [48])) = false) (hv : Lib.atoiAll s.data.toList = .range) (te : TypeId) (ep : Value) (tp : TypeId) (rp : Value) (w : World) (he : w.cell? ⟨0, 0, none⟩ = some (.iface te ep)) (hr : World.var? Tryz.prog w "strconv.ErrRange" = some #[.iface tp rp]) :
    Calls Tryz.prog 48 #[.string s] w fun e w' => e = .returned (.tuple #[.int .i64 0, .iface te ep]) ∧ Below w.heap.size w w' := by
  obtain ⟨d, hd⟩ : ∃ d : ByteArray, d = ⟨(digs s.data.toList).toArray⟩ := ⟨_, rfl⟩
  have HD : Hid (d = ⟨(digs s.data.toList).toArray⟩) := hd
  have hdl : d.size ≤ 4000 := by
    rw [hd]
    have : (digs s.data.toList).length ≤ s.data.toList.length := by unfold digs; split <;> simp
    rw [Lib.size_eq] at hs ⊢
    simp only at this ⊢
    omega
  clear hd
  have hpos : 0 < d.size := by
    have h1 := hf
    simp only [formed, Bool.and_eq_true, decide_eq_true_eq] at h1
    rw [HD.out, Lib.size_eq]; simp only; omega
  have HF : Hid (formed (digs s.data.toList) = true) := hf
  have hz : (((d[0]'hpos).toNat : Int) == 48) = false ∨ (((d[0]'hpos).toNat : Int) == 48) = true ∧ (s.toList == [48]) = true := by
    by_cases h48 : (digs s.data.toList).head? = some 48
    · refine Or.inr ⟨by rw [head_at HD.out hpos h48]; rfl, ?_⟩
      rw [Lib.toList_data]
      simpa [h48] using h0
    · refine Or.inl ?_
      obtain ⟨c, hc⟩ : ∃ c, (digs s.data.toList).head? = some c := by
        cases hl : digs s.data.toList with
        | nil => rw [hl] at hf; simp [formed] at hf
        | cons c r => exact ⟨c, rfl⟩
      rw [head_at HD.out hpos hc, beq_eq_false_iff_ne]
      intro e
      apply h48
      rw [hc]
      congr 1
      exact UInt8.toNat_inj.1 (by show c.toNat = 48; have : (c.toNat : Int) = 48 := e; omega)
  clear hf h0
  rcases hz with hz | ⟨hz, hs48⟩
  all_goals
    go_enter Tryz.func48, Tryz.ntmps48
    go_wp2_with (first | (go_at_call 58; refine (Tryz.strings_TrimPrefix _ _ _).mono ?_; rintro e w' ⟨rfl, rfl⟩; simp only [trim_digs]; rw [← HD.out]) | (go_at_call 59; refine (allDigits_any _ (by omega) true (by show true = _; rw [HD.out]; exact HF.out.symm) _).mono ?_; rintro e w' ⟨rfl, rfl⟩) | (go_at_call 60; refine (Tryz.strconv_Atoi_range_var _ (by omega) hv tp rp _ hr).mono ?_; rintro e w2 ⟨N, rfl, _, _, hb2⟩; have he2 := (hb2.cell (lt_of_cell he)).trans he))
    go_quiet (fail)
    go_wp2
    go_ret2
    exact ⟨rfl, below_drewN hb2 _⟩

/-- readNumber, of every short text. -/
theorem readNumber_any (s : ByteArray) (hs : s.size ≤ 4000) (te : TypeId) (ep : Value) (w : World) (hE : Env w te ep) :
    Calls Tryz.prog 48 #[.string s] w fun e w' => e = .returned (.tuple (match numB s.data.toList with | some v => #[.int .i64 v, .nilIface] | none => #[.int .i64 0, .iface te ep])) ∧ Below w.heap.size w w' := by
  obtain ⟨tp, rp, hr⟩ := hE.rng
  by_cases hb : (formed (digs s.data.toList) && !((digs s.data.toList).head? == some 48 && !(s.data.toList == [48]))) = true
  · have hb' := hb
    simp only [Bool.and_eq_true] at hb'
    have h0 : ((digs s.data.toList).head? == some 48 && !(s.data.toList == [48])) = false := by have := hb'.2; simpa only [Bool.not_eq_true'] using this
    unfold numB
    rw [if_pos hb]
    by_cases hn : isNeg s.data.toList = true
    · have ha := atoi_neg hn hb'.1
      rw [if_pos hn]
      by_cases hm : mag (digs s.data.toList) ≤ 9223372036854775808
      · rw [if_pos hm] at ha ⊢
        exact readNumber_ok s hs hb'.1 h0 _ ha w
      · rw [if_neg hm] at ha ⊢
        exact readNumber_range s hs hb'.1 h0 ha te ep tp rp w hE.err hr
    · have ha := atoi_pos (by simpa using hn) hb'.1
      rw [if_neg hn]
      by_cases hm : mag (digs s.data.toList) ≤ 9223372036854775807
      · rw [if_pos hm] at ha ⊢
        exact readNumber_ok s hs hb'.1 h0 _ ha w
      · rw [if_neg hm] at ha ⊢
        exact readNumber_range s hs hb'.1 h0 ha te ep tp rp w hE.err hr
  · unfold numB
    rw [if_neg hb]
    exact readNumber_bad s hs (by simpa only [Bool.not_eq_true] using hb) te ep w hE.err

end Go.Proofs.YthbebnegmenejaaGreatDoor
