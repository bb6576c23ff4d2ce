/-
  What the document's cut does.
-/
import Derived.Test.YthbebnegmenejaaDoorCutL
namespace Go.Proofs.YthbebnegmenejaaDoor
open Go.RowKit

theorem infoStr : (Tryd.prog.info? 9).map (fun i => (i.zero, i.size, i.bytes)) = some (some (.string ByteArray.empty), 1, 16) := by kernel_rfl
theorem infoInt : (Tryd.prog.info? 3).map (fun i => (i.zero, i.size, i.bytes)) = some (some (.int .i64 0), 1, 8) := by kernel_rfl

theorem cut_hit {c : UInt8} {l : List UInt8} {f k : Nat} (hf : f ≤ k) (hk : k < l.length) (hc : l[k] = c) (hno : c ∉ (l.drop f).take (k - f)) : cutL c (l.drop f) = (l.drop f).take (k - f) :: cutL c (l.drop (k + 1)) := by
  have h1 : l.drop f = (l.drop f).take (k - f) ++ c :: l.drop (k + 1) := by
    have e : (l.drop f).drop (k - f) = c :: l.drop (k + 1) := by
      rw [List.drop_drop, show f + (k - f) = k by omega, List.drop_eq_getElem_cons hk, hc]
    rw [← e, List.take_append_drop]
  rw [h1, cutL_at c _ _ hno, ← h1]
theorem cut_miss {c : UInt8} {l : List UInt8} {f k : Nat} (hf : f ≤ k) (hk : k < l.length) (hc : l[k] ≠ c) (hno : c ∉ (l.drop f).take (k - f)) : c ∉ (l.drop f).take (k + 1 - f) := by
  rw [show k + 1 - f = (k - f) + 1 by omega, List.take_add_one]
  have : (l.drop f)[k - f]? = some l[k] := by rw [List.getElem?_drop, show f + (k - f) = k by omega, List.getElem?_eq_getElem hk]
  rw [this]
  simp only [Option.toList_some, List.mem_append, List.mem_singleton, not_or]
  exact ⟨hno, fun e => hc e.symm⟩
theorem extract_list (s : ByteArray) (f k : Nat) : (s.extract f k).data.toList = (s.data.toList.drop f).take (k - f) := by rw [Lib.extract_data]
theorem byte_at (s : ByteArray) (k : Nat) (h : k < s.size) : s[k] = s.data.toList[k]'(by rw [← Lib.size_eq]; exact h) := by simp [ByteArray.getElem_eq_getElem_data]

theorem strsIn_of_owns {w : World} {base : Nat} {e : TypeId} {v : Value} {ps : List ByteArray} (h : w.ownsRow base e 1 v ps.length (ps.map Value.string)) (hn : 0 < ps.length) : StrsIn w v ps := by
  rcases h.2 with ⟨_, h0⟩ | ⟨g, cap, cur, rfl, _, hg, hc, _, _, _⟩
  · omega
  · refine ⟨g, cap, rfl, hc, fun i hi => ?_⟩
    rw [h.cellAt i (by omega)]
    simp [hi]

set_option maxHeartbeats 800000 in
theorem cut_any (s : ByteArray) (hs : s.size ≤ 4000) (c : UInt8) (ci : Int) (HC : Hid ((c.toNat : Int) = ci)) (w : World) :
    Calls Tryd.prog 12 #[.string s, .int .u8 ci] w fun e w' => ∃ v ps, e = .returned v ∧ ps.map (·.data.toList) = cutL c s.data.toList ∧ StrsIn w' v ps ∧ Below w.heap.size w w' := by
  obtain ⟨i0, hi, hz0, hz1, hz2⟩ := info_parts infoStr
  have HI : Hid (s.data.toList.length = s.size) := (Lib.size_eq s).symm
  go_enter Tryd.func12, Tryd.ntmps12
  go_wp2
  go_loopw [5, 6, 7] (fun v fr i wr => ∃ (k f : Nat) (done : List ByteArray), k ≤ s.size ∧ f ≤ k ∧ i = .int .i64 k ∧ fr = .int .i64 f ∧ done.length ≤ k ∧ wr.ownsRow w.heap.size 9 1 v done.length (done.map Value.string) ∧ Below w.heap.size w wr ∧
      cutL c s.data.toList = done.map (·.data.toList) ++ cutL c (s.data.toList.drop f) ∧ c ∉ (s.data.toList.drop f).take (k - f)) (fun _ _ i _ => s.size - (intOf i).toNat)
  case atStart => exact ⟨0, 0, [], Nat.zero_le _, Nat.le_refl _, rfl, rfl, Nat.le_refl _, World.ownsRow_nil _ _ _ _, Below.refl _ _, rfl, by simp⟩
  case round =>
    obtain ⟨k, f, done, hk, hfk, rfl, rfl, hdl, hown, hbr, hcut, hno⟩ := hrel
    have HCU := Hid.out (p := Hid _) hcut
    have HNO := Hid.out (p := Hid _) hno
    clear hcut hno
    have hbs := hbr.size
    by_cases hlt : k < s.size
    · by_cases hc : s[k] = c
      · have ht : (((s[k]'hlt).toNat : Int) == ci) = true := by rw [hc, HC.out]; simp
        have HCE : Hid (s[k]'hlt = c) := hc
        clear hc
        go_wp2_with (first | (at_builtin; refine wpList_append_own _ rfl _ _ 42 rfl w.heap.size 9 i0 (.string ByteArray.empty) 1 16 Tryd.underlying42 hi hz0 hz1 hz2 rfl (by decide) _ _ _ rfl (hown.alloc _) ⟨wr.heap.size, 0, none⟩ 1 1 [.string (s.extract f k)] rfl rfl (cell_one_new _ _ _) (fun x hx => by simp at hx; subst hx; rfl) (by unfold maxLen; omega) (by omega) (by simp; omega) ?_; intro v' w3 hown' hgrow3 hnil3))
        go_roundw
        case rel => exact ⟨k + 1, k + 1, done ++ [s.extract f k], by omega, Nat.le_refl _, by go_num, by go_num, by simp; omega, by simpa using hown', (hbr.alloc hbs _).grown hgrow3 (by simp; omega) (fun q hq => (hown.lt q hq).1), by rw [HCU.out, cut_hit hfk (by rw [HI.out]; exact hlt) (by rw [← byte_at s k hlt]; exact HCE.out) HNO.out]; simp, by simp⟩
        case measure => simp [intOf]; omega
      · have ht : (((s[k]'hlt).toNat : Int) == ci) = false := by
          rw [beq_eq_false_iff_ne, ← HC.out]
          intro e
          exact hc (UInt8.toNat_inj.1 (by omega))
        have HCE : Hid (¬ s[k]'hlt = c) := hc
        clear hc
        go_wp2
        go_roundw
        case rel => exact ⟨k + 1, f, done, by omega, by omega, by go_num, rfl, by omega, hown, hbr, HCU.out, cut_miss hfk (by rw [HI.out]; exact hlt) (by rw [← byte_at s k hlt]; exact HCE.out) HNO.out⟩
        case measure => simp [intOf]; omega
    · go_wp2_with (first | (at_builtin; refine wpList_append_own _ rfl _ _ 42 rfl w.heap.size 9 i0 (.string ByteArray.empty) 1 16 Tryd.underlying42 hi hz0 hz1 hz2 rfl (by decide) _ _ _ rfl (hown.alloc _) ⟨wr.heap.size, 0, none⟩ 1 1 [.string (s.extract f s.size)] rfl rfl (cell_one_new _ _ _) (fun x hx => by simp at hx; subst hx; rfl) (by unfold maxLen; omega) (by omega) (by simp; omega) ?_; intro v' w3 hown' hgrow3 hnil3))
      go_ret
      refine ⟨v', done ++ [s.extract f s.size], rfl, ?_, strsIn_of_owns (by simpa using hown') (by simp), (hbr.alloc hbs _).grown hgrow3 (by simp; omega) (fun q hq => (hown.lt q hq).1)⟩
      have h1 : k = s.size := by omega
      have h2 : c ∉ s.data.toList.drop f := by
        have := HNO.out
        rwa [List.take_of_length_le (by rw [List.length_drop, HI.out]; omega)] at this
      rw [HCU.out, cutL_none c _ h2]
      simp
      rw [List.take_of_length_le (by rw [List.length_drop, HI.out]; exact Nat.le_refl _)]

end Go.Proofs.YthbebnegmenejaaDoor
