/-
  What the program's writeLine does.
-/
import Derived.Test.YthbebnegmenejaaGreatDoorBld
import Derived.Test.YthbebnegmenejaaGreatDoorShelfI
import Derived.Test.YthbebnegmenejaaGreatDoorInProg
import Derived.Lib.AppendIntMem
import Derived.Lib.SmallJoins
namespace Go.Proofs.YthbebnegmenejaaGreatDoor
open Go.RowKit

/-- Numbers as they are written behind a line's name; a line. -/
def numsT (vs : List Int) : List UInt8 := vs.flatMap fun v => 32 :: Lib.itoa v
def lineT (N : List UInt8) (vs : List Int) : List UInt8 := N ++ numsT vs ++ [10]

theorem numsT_take {vs : List Int} {k : Nat} (h : k < vs.length) : numsT (vs.take (k + 1)) = numsT (vs.take k) ++ (32 :: Lib.itoa (vs.getD k 0)) := by
  unfold numsT
  rw [List.take_succ_eq_append_getElem h, List.flatMap_append]
  congr 1
  simp [List.getD, List.getElem?_eq_getElem h]
theorem numsT_le (vs : List Int) (k : Nat) : (numsT (vs.take k)).length ≤ (numsT vs).length := by
  have e : numsT vs = numsT (vs.take k) ++ numsT (vs.drop k) := by
    unfold numsT
    rw [← List.flatMap_append, List.take_append_drop]
  rw [e, List.length_append]
  omega

theorem oth_cells {c : Array Value} {t : TypeId} {f : Nat × Nat} (h1 : t ≠ 5) (h2 : t ≠ 41) : Oth (.cells c t f) := fun _ _ => ⟨fun e => h1 (by simp only [Obj.cells.injEq] at e; exact e.2.1), fun e => h2 (by simp only [Obj.cells.injEq] at e; exact e.2.1)⟩
theorem oth_map {es : Array MapEntry} {n : Nat} : Oth (.map es n) := fun _ _ => ⟨fun e => (by cases e), fun e => (by cases e)⟩

/-- A list of numbers lies in w, where writing bytes does not reach. -/
def IAt (B : Nat) (w : World) (a : Option Addr) (n : Nat) (X : Nat → Int) : Prop :=
  ∀ i, i < n → ∃ b o, a = some ⟨b, o, none⟩ ∧ w.cell? ⟨b, o + i, none⟩ = some (.int .i64 (X i)) ∧ (b < B ∨ ∃ x, w.heap[b]? = some x ∧ Oth x)
theorem IAt.keep {B : Nat} {w w' : World} {a : Option Addr} {n : Nat} {X : Nat → Int} (h : IAt B w a n X) (hb : Below B w w') (ht : Typ w w') : IAt B w' a n X := fun i hi => by
  obtain ⟨b, o, rfl, hc, hm⟩ := h i hi
  have e : w'.heap[b]? = w.heap[b]? := by
    rcases hm with hm | ⟨x, h0, h1⟩
    · exact hb.block b hm
    · exact ht b x h0 h1
  refine ⟨b, o, rfl, (World.cell?_of_block (w := w) e).trans hc, ?_⟩
  rcases hm with hm | ⟨x, h0, h1⟩
  · exact Or.inl hm
  · exact Or.inr ⟨x, e.trans h0, h1⟩

theorem isB_below {B b : Nat} {l : List UInt8} {w w' : World} (h : IsB B b l w) (hb : Below w.heap.size w w') : IsB B b l w' := by
  have key : ∀ p, Lib.BuilderAt 41 5 B b p (Lib.byteCells l) w → Lib.BuilderAt 41 5 B b p (Lib.byteCells l) w' := by
    rintro p ⟨h0, v, h1, h2, h3⟩
    refine ⟨h0, v, (hb.block b (heap_lt h1)).trans h1, ?_, h3⟩
    refine ⟨h2.1, ?_⟩
    rcases h2.2 with h4 | ⟨g, cap, cur, hv, hg, hh, r⟩
    · exact Or.inl h4
    · exact Or.inr ⟨g, cap, cur, hv, hg, (hb.block g (heap_lt hh)).trans hh, r⟩
  exact h.elim (fun x => .inl (key _ x)) (fun x => .inr (key _ x))
theorem gPow : Tryz.prog.globalNamed "internal/strconv.uint64pow10" = some 1 := by kernel_rfl
abbrev Pow (w : World) : Prop := Lib.TabIs Tryz.prog w "internal/strconv.uint64pow10" .u64 Lib.pow10Tab
theorem pow_stays {B : Nat} {w w' : World} (h : Pow w) (hb : Below B w w') (hB : 9 ≤ B) : Pow w' := by
  show World.var? _ _ _ = _
  have h' : World.var? Tryz.prog w "internal/strconv.uint64pow10" = _ := h
  unfold World.var? at h' ⊢
  rw [gPow] at h' ⊢
  simp only [Option.bind_some] at h' ⊢
  rw [hb.block 1 (by omega)]
  exact h'

set_option maxRecDepth 100000 in
set_option maxHeartbeats 1600000 in
theorem writeLine_any (B b : Nat) (hB9 : 9 ≤ B) (l : List UInt8) (N : ByteArray) (va : Option Addr) (vc : Nat) (vs : List Int) (w : World) (h : IsB B b l w) (hBw : B ≤ w.heap.size) (hT : Pow w) (hi : IAt B w va vs.length (fun i => vs.getD i 0)) (HW : Hid (∀ v ∈ vs, -9223372036854775808 ≤ v ∧ v ≤ 9223372036854775807)) (HL : Hid (l.length + (lineT N.data.toList vs).length ≤ 1000000)) (hn : vs.length ≤ 1000000) :
    Calls Tryz.prog 11 #[.pointer (some ⟨b, 0, none⟩), .string N, .slice va vs.length vc] w fun e w' => e = .returned (.tuple #[]) ∧ IsB B b (l ++ lineT N.data.toList vs) w' ∧ Below B w w' ∧ Typ w w' := by
  have hl1 : l.length + N.size ≤ 1000000 := by
    have := HL.out
    simp only [lineT, List.length_append] at this
    rw [Lib.size_eq]; omega
  go_enter Tryz.func11, Tryz.ntmps11
  go_wp2_with (first | (go_at_call 26; refine (writeString_any B b l N _ h hl1 hBw).mono ?_; rintro e w1 ⟨rfl, h1, hb1, ht1⟩))
  have hl2 : (l ++ N.data.toList).length = l.length + N.size := by rw [List.length_append, ← Lib.size_eq]
  go_loopw [13] (fun i wr => ∃ k : Nat, k ≤ vs.length ∧ i = .int .i64 k ∧ IsB B b (l ++ N.data.toList ++ numsT (vs.take k)) wr ∧ Below B w wr ∧ Typ w wr) (fun i _ => vs.length - (intOf i).toNat)
  case atStart => exact ⟨0, Nat.zero_le _, rfl, by simpa [numsT] using h1, hb1, ht1⟩
  case round =>
    obtain ⟨k, hk, rfl, hBr, hbr, htr⟩ := hrel
    have hbs := hbr.size
    by_cases hlt : k < vs.length
    · obtain ⟨ab, ao, rfl, hc, _⟩ := hi.keep hbr htr k hlt
      have hTr := pow_stays hT hbr hB9
      have HV := HW.out (vs.getD k 0) (by simp [List.getD, List.getElem?_eq_getElem hlt])
      have HLN : Hid ((l ++ N.data.toList ++ numsT (vs.take k)).length + 1 + (Lib.itoa (vs.getD k 0)).length ≤ 1000000) := by
        have a := HL.out
        have b := numsT_le vs (k + 1)
        rw [numsT_take hlt] at b
        simp only [lineT, List.length_append, List.length_cons] at a b
        show _ ≤ _
        simp only [List.length_append]
        omega
      have HNT : Hid (numsT (vs.take (k + 1)) = numsT (vs.take k) ++ (32 :: Lib.itoa (vs.getD k 0))) := numsT_take hlt
      obtain ⟨x, hx⟩ : ∃ x, vs.getD k 0 = x := ⟨_, rfl⟩
      simp only [hx] at hc HV HLN HNT
      clear hx
      obtain ⟨v0, v1⟩ := HV
      have HV2 : Hid (-9223372036854775808 ≤ x ∧ x ≤ 9223372036854775807) := ⟨v0, v1⟩
      clear v0 v1
      go_wp2_with (first | (go_at_call 27; refine (writeByte_any B b _ 32 32 rfl _ hBr (by have := HLN.out; omega) (by omega)).mono ?_; rintro e w2 ⟨rfl, h2, hb2, ht2⟩; have hs2 := hb2.size; have hT2 := pow_stays hTr hb2 hB9) | (go_at_call 28; refine (Tryz.strconv_Itoa x HV2.out.1 HV2.out.2 _ hT2).mono ?_; rintro e w3 ⟨rfl, q, os, hw3⟩; have hb3 : Below w2.heap.size w2 w3 := (by rw [hw3]; exact Lib.below_grow _ _ (Nat.le_refl _) _ _); have hs3 := hb3.size; clear hw3) | (go_at_call 26; refine (writeString_any B b _ _ _ (isB_below h2 hb3) (by rw [Lib.size_eq]; have := HLN.out; simp only [List.length_append, List.length_cons, List.length_nil] at this ⊢; omega) (by omega)).mono ?_; rintro e w4 ⟨rfl, h4, hb4, ht4⟩))
      go_roundw
      case rel =>
        refine ⟨k + 1, by omega, by go_num, ?_, ((hbr.trans hb2).trans (hb3.mono (by omega))).trans hb4, ((htr.trans ht2).trans (Typ.of_below hb3)).trans ht4⟩
        rw [HNT.out]
        simpa using h4
      case measure => simp [intOf]; omega
    · have hkn : k = vs.length := by omega
      subst hkn
      rw [List.take_length] at hBr
      have HLN : Hid ((l ++ N.data.toList ++ numsT vs).length + 1 ≤ 1000000) := by
        have a := HL.out
        simp only [lineT, List.length_append, List.length_cons, List.length_nil] at a
        show _ ≤ _
        simp only [List.length_append]
        omega
      go_wp2_with (first | (go_at_call 27; refine (writeByte_any B b _ 10 10 rfl _ hBr (by have := HLN.out; omega) (by omega)).mono ?_; rintro e w2 ⟨rfl, h2, hb2, ht2⟩))
      go_end0
      exact ⟨rfl, by simpa [lineT] using h2, hbr.trans hb2, htr.trans ht2⟩

end Go.Proofs.YthbebnegmenejaaGreatDoor
