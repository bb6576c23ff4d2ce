/-
  The program's printer: lists of expressions.
  The program's printer: what hangs on an expression; blocks.
  The program's printer: blocks.
-/
import Derived.Test.YtclnjhffcfkihaeGreatDoorSprD
import Derived.Test.YtclnjhffcfkihaeGreatDoorSynK4
namespace Go.Proofs.YtclnjhffcfkihaeGreatDoor
section
open Go.RowKit

/-- The text of the j-th expression. -/
def txtX (ks : List Nd) (j : Nat) : List UInt8 := match ks[j]? with
  | some x => pcsB (pcsX x)
  | none => []
/-- Expressions with commas between, the first j of them. -/
def lisT (ks : List Nd) : Nat → List UInt8
  | 0 => []
  | j + 1 => lisT ks j ++ ((if j = 0 then [] else [44, 32]) ++ txtX ks j)
theorem txt_len {ks : List Nd} (h : ∀ x, x ∈ ks → WfX x ∧ ndSize x ≤ 1000) (j : Nat) : (txtX ks j).length ≤ 12000 := by
  unfold txtX
  split
  · rename_i x e
    have h1 := h x (List.mem_of_getElem? e)
    have h2 := len_x _ x (Nat.le_refl _) h1.1
    omega
  · simp
theorem lis_len {ks : List Nd} (h : ∀ x, x ∈ ks → WfX x ∧ ndSize x ≤ 1000) : ∀ j, (lisT ks j).length ≤ 13000 * j
  | 0 => by simp [lisT]
  | j + 1 => by
    have h1 := lis_len h j
    have h2 : (if j = 0 then [] else [44, 32] : List UInt8).length ≤ 2 := by split <;> simp
    have h3 := txt_len h j
    rw [lisT, List.length_append, List.length_append]
    omega
theorem side_none {x : Nd} (h : WfX x) : sideP x 0 = pcsX x := by
  unfold sideP
  rw [if_neg]
  rcases wfx_cases h with ⟨n, p, rfl, _, _⟩ | ⟨p, t, rfl, _⟩ | ⟨k, p, a, rfl, hk, _⟩ | ⟨p, t, a, b, rfl, hl, _, _⟩
  · simp [bindX]
  · simp [bindX]
  · rcases hk with rfl | rfl <;> simp [bindX]
  · simp [bindX]; omega
section
variable {rows : List Row}
set_option maxRecDepth 100000 in
set_option maxHeartbeats 1600000 in
theorem glist_any {ks : List Nd} (hks : ∀ x, x ∈ ks → WfX x ∧ ndSize x ≤ 1000) (hkl : ks.length ≤ 3) (w0 w : World) (a : Option Addr) (c P : Nat) (l : List UInt8) (d : Nat) (ka : Option Addr) (kc : Nat) (is : List Int) (E : ByteArray) (hE : PowE w0) (hr : NdsR w0 a rows) (hts : TsAt rows ks is) (hin : IIn w0 ka is.length (fun j => is.getD j 0)) (hp : Px w0 a c rows w P l d) (hlen : l.length ≤ 9500000) (hel : E.size ≤ 100) :
    Calls Tryz.prog 98 #[.pointer (some ⟨P, 0, none⟩), .slice ka is.length kc, .string E] w fun e w' => e = .returned (.tuple #[]) ∧ Pz w0 a c rows w P (l ++ (lisT ks ks.length ++ E.data.toList)) d w' := by
  have hil := ts_len hts
  obtain ⟨m, hm⟩ : ∃ m, m = is.length := ⟨_, rfl⟩
  have HK : Hid (∀ (j : Nat), j < m → ∃ (b o : Nat) (i1 : Nat), ka = some ⟨b, o, none⟩ ∧ (∀ W, Below w0.heap.size w0 W → W.cell? ⟨b, o + j, none⟩ = some (.int .i64 (i1 : Int))) ∧ ∀ (W : World) (l : List UInt8), Px w0 a c rows W P l d → l.length ≤ 9600000 → Calls Tryz.prog 120 #[.pointer (some ⟨P, 0, none⟩), .int .i64 (i1 : Int), .int .i64 1] W fun e w' => e = .returned (.tuple #[]) ∧ Pz w0 a c rows W P (l ++ txtX ks j) d w') := fun j hj => by
    obtain ⟨x, hx⟩ : ∃ x, ks[j]? = some x := ⟨_, List.getElem?_eq_getElem (by omega)⟩
    obtain ⟨i1, h1, h2⟩ := ts_get hts hx
    obtain ⟨b, o, e, hc, _⟩ := kid_cell hin j _ h1
    have hw := hks x (List.mem_of_getElem? hx)
    refine ⟨b, o, i1, e, fun W hW => (hW.cell (lt_of_cell hc)).trans hc, fun W l hW hl => ?_⟩
    have := gexpr_all _ x (Nat.le_refl _) hw.1 w0 W a c i1 P l d 1 hE hr h2 hW (by have := hw.2; omega)
    rw [show (1 : Int) - 1 = 0 by decide, side_none hw.1] at this
    unfold txtX
    rw [hx]
    exact this
  have HL : Hid (∀ j, j ≤ 3 → (lisT ks j).length ≤ 39000) := fun j hj => Nat.le_trans (lis_len hks j) (by omega)
  have HZ0 := Hid.out (p := Hid _) (Pz.refl hp)
  rw [← hm] at hil ⊢
  have hm3 : m ≤ 3 := by omega
  have HM := Hid.out (p := Hid _) hil
  clear hE hr hts hin hp hks hm hkl hil
  go_enter Tryz.func98, Tryz.ntmps98
  go_wp2_with fail
  go_loopw [10] (fun i wr => ∃ j : Nat, j ≤ m ∧ i = .int .i64 j ∧ Hid (Pz w0 a c rows w P (l ++ lisT ks j) d wr)) (fun i _ => m - (intOf i).toNat)
  case atStart => exact ⟨0, Nat.zero_le _, rfl, (by simpa [lisT] using HZ0.out : Pz w0 a c rows w P (l ++ lisT ks 0) d w)⟩
  case round =>
    obtain ⟨j, hj, rfl, HJ⟩ := hrel
    clear HZ0
    by_cases hlt : j < m
    · obtain ⟨kb, ko, i1, rfl, y0, HX⟩ := HK.out j hlt
      have c0 := y0 _ HJ.out.px.low
      have hlt' : (j : Int) < (m : Int) := by omega
      have HY := Hid.out (p := Hid _) HX
      clear HX y0
      by_cases h0 : j = 0
      · have hj0 : ¬ (0 : Int) < (j : Int) := by omega
        have H0 := Hid.out (p := Hid _) h0
        clear h0
        go_wp2_with fail
        refine Calls.mono (HY.out _ _ HJ.out.px (by have := HL.out j (by omega); rw [List.length_append]; omega)) ?_
        rintro e w1 ⟨rfl, hz⟩
        have hQ : Pz w0 a c rows w P (l ++ lisT ks (j + 1)) d w1 := by
          have := HJ.out.trans hz
          rw [lisT, if_pos H0.out]
          simpa using this
        have HQ := Hid.out (p := Hid _) hQ
        clear hz c0 hQ
        go_wp2_with fail
        go_roundw
        case rel => exact ⟨j + 1, by omega, by go_num, HQ⟩
        case measure => simp [intOf]; omega
      · have hj0 : (0 : Int) < (j : Int) := by omega
        go_wp2_with fail
        refine Calls.mono (put1 HJ.out.px.pr wr.heap.size rfl ⟨#[44, 32]⟩ (by have := HL.out j (by omega); rw [List.length_append]; show _ + 2 ≤ _; omega)) ?_
        rintro e w1 ⟨rfl, hq⟩
        have HZ1 := Hid.out (p := Hid _) (HJ.out.px.puq hq)
        clear hq c0
        go_wp2_with fail
        refine Calls.mono (HY.out _ _ HZ1.out.px (by have := HL.out j (by omega); simp only [List.length_append, List.length_cons, List.length_nil]; omega)) ?_
        rintro e w2 ⟨rfl, hz⟩
        have hQ : Pz w0 a c rows w P (l ++ lisT ks (j + 1)) d w2 := by
          have := HJ.out.trans (HZ1.out.trans hz)
          rw [lisT, if_neg h0]
          simpa using this
        have HQ := Hid.out (p := Hid _) hQ
        clear hz hQ
        go_wp2_with fail
        go_roundw
        case rel => exact ⟨j + 1, by omega, by go_num, HQ⟩
        case measure => simp [intOf]; omega
    · obtain rfl : j = m := by omega
      go_wp2_with fail
      refine Calls.mono (put1 HJ.out.px.pr wr.heap.size rfl E (by have := HL.out j (by omega); rw [List.length_append]; omega)) ?_
      rintro e w1 ⟨rfl, hq⟩
      have HZ1 := Hid.out (p := Hid _) (HJ.out.px.puq hq)
      clear hq
      go_wp2_with fail
      go_end0
      refine ⟨rfl, ?_⟩
      have := HJ.out.trans HZ1.out
      rw [List.append_assoc, HM.out] at this
      exact this
end
end

section
open Go.RowKit

section
variable {rows : List Row}
/-- The program prints a block. -/
def PgK (rows : List Row) (d : Nat) (b : Nd) : Prop := ∀ (w0 w : World) (a : Option Addr) (c i P : Nat) (l : List UInt8), PowE w0 → NdsR w0 a rows → TAt rows b i → Px w0 a c rows w P l d → l.length + 7000 * ndSize b ≤ 9000000 →
  Calls Tryz.prog 42 #[.pointer (some ⟨P, 0, none⟩), .int .i64 (i : Int)] w fun e w' => e = .returned (.tuple #[]) ∧ Pz w0 a c rows w P (l ++ pcsB (pcsN d b)) d w'
/-- .. a statement, behind its tabs. -/
def PgS (rows : List Row) (d : Nat) : Nd → Prop
  | .mk k n p t ks => ∃ T, pcsB (pcsN d (.mk k n p t ks)) = tabB d ++ T ++ [10] ∧ ∀ (w0 w : World) (a : Option Addr) (c P : Nat) (l : List UInt8) (ka : Option Addr) (kc : Nat) (is : List Int), PowE w0 → NdsR w0 a rows → TsAt rows ks is → IIn w0 ka is.length (fun j => is.getD j 0) → Px w0 a c rows w P l d → l.length + 7000 * ndSize (.mk k n p t ks) ≤ 9000000 →
    Calls Tryz.prog 72 #[.pointer (some ⟨P, 0, none⟩), .agg #[.int .i64 k, .int .i64 n, .int .i64 p, .string ⟨⟨t⟩⟩, .slice ka is.length kc]] w fun e w' => e = .returned (.tuple #[]) ∧ Pz w0 a c rows w P (l ++ T) d w'
theorem gexpr_one {x : Nd} (hw : WfX x) {w0 : World} {a : Option Addr} {c i P : Nat} {d : Nat} (hE : PowE w0) (hr : NdsR w0 a rows) (ht : TAt rows x i) (W : World) (l : List UInt8) (hW : Px w0 a c rows W P l d) (hl : l.length + 12 * ndSize x + 2 ≤ 10000000) :
    Calls Tryz.prog 120 #[.pointer (some ⟨P, 0, none⟩), .int .i64 (i : Int), .int .i64 1] W fun e w' => e = .returned (.tuple #[]) ∧ Pz w0 a c rows W P (l ++ pcsB (pcsX x)) d w' := by
  have := gexpr_all _ x (Nat.le_refl _) hw w0 W a c i P l d 1 hE hr ht hW hl
  rw [show (1 : Int) - 1 = 0 by decide, side_none hw] at this
  exact this
set_option maxRecDepth 100000 in
set_option maxHeartbeats 1600000 in
theorem gguard2 {d : Nat} {x y : Nd} (hwx : WfX x) (hy : PgK rows d y) (w0 w : World) (a : Option Addr) (c P : Nat) (l : List UInt8) (ka : Option Addr) (kc : Nat) (i0 i1 : Nat) (G : ByteArray) (hE : PowE w0) (hr : NdsR w0 a rows) (t0 : TAt rows x i0) (t1 : TAt rows y i1) (hin : IIn w0 ka [(i0 : Int), (i1 : Int)].length (fun j => [(i0 : Int), (i1 : Int)].getD j 0)) (hp : Px w0 a c rows w P l d) (hG : G.size ≤ 10) (hlen : l.length + 7000 * (ndSize x + ndSize y + 1) ≤ 9000000) :
    Calls Tryz.prog 99 #[.pointer (some ⟨P, 0, none⟩), .string G, .slice ka 2 kc] w fun e w' => e = .returned (.tuple #[]) ∧ Pz w0 a c rows w P (l ++ (G.data.toList ++ pcsB (pcsX x) ++ [41, 32] ++ pcsB (pcsN d y))) d w' := by
  have hlx := len_x _ x (Nat.le_refl _) hwx
  have HX : Hid (∀ (W : World) (l : List UInt8), Px w0 a c rows W P l d → l.length + 12 * ndSize x + 2 ≤ 10000000 → Calls Tryz.prog 120 #[.pointer (some ⟨P, 0, none⟩), .int .i64 (i0 : Int), .int .i64 1] W fun e w' => e = .returned (.tuple #[]) ∧ Pz w0 a c rows W P (l ++ pcsB (pcsX x)) d w') := fun W l hW hl => gexpr_one hwx hE hr t0 W l hW hl
  have HY : Hid (∀ (W : World) (l : List UInt8), Px w0 a c rows W P l d → l.length + 7000 * ndSize y ≤ 9000000 → Calls Tryz.prog 42 #[.pointer (some ⟨P, 0, none⟩), .int .i64 (i1 : Int)] W fun e w' => e = .returned (.tuple #[]) ∧ Pz w0 a c rows W P (l ++ pcsB (pcsN d y)) d w') := fun W l hW hl => hy w0 W a c i1 P l hE hr t1 hW hl
  obtain ⟨kb, ko, rfl, HC⟩ : ∃ kb ko, ka = some ⟨kb, ko, none⟩ ∧ Hid (∀ W, Below w0.heap.size w0 W → W.cell? ⟨kb, ko, none⟩ = some (.int .i64 (i0 : Int)) ∧ W.cell? ⟨kb, ko + 1, none⟩ = some (.int .i64 (i1 : Int))) := by
    obtain ⟨b, o, e, h0⟩ := kid_cell hin 0 _ rfl
    obtain ⟨b1, o1, e1, h1⟩ := kid_cell hin 1 _ rfl
    rw [e] at e1
    simp only [Option.some.injEq, Addr.mk.injEq, and_true] at e1
    obtain ⟨rfl, rfl⟩ := e1
    exact ⟨b, o, e, fun W hW => ⟨(hW.cell (lt_of_cell h0.1)).trans h0.1, (hW.cell (lt_of_cell h1.1)).trans h1.1⟩⟩
  have HP := Hid.out (p := Hid _) hp
  have HL := Hid.out (p := Hid _) (And.intro hlen hlx)
  have hGl : G.data.toList.length = G.size := (Lib.size_eq G).symm
  have hl0 : l.length + 10 ≤ 10000000 := by omega
  clear hE hr t0 t1 hin hp hy hlx hlen hwx
  go_enter Tryz.func99, Tryz.ntmps99
  go_wp2_with fail
  refine Calls.mono (put1 HP.out.pr w.heap.size rfl G (by omega)) ?_
  rintro e w1 ⟨rfl, hq⟩
  have hz1 := HP.out.puq hq
  have y0 := (HC.out _ hz1.px.low).1
  have HZ1 := Hid.out (p := Hid _) hz1
  clear hq hz1
  go_wp2_with fail
  refine Calls.mono (HX.out _ _ HZ1.out.px (by have := HL.out; rw [List.length_append]; omega)) ?_
  rintro e w2 ⟨rfl, hz⟩
  have HZ2 := Hid.out (p := Hid _) (HZ1.out.trans hz)
  clear hz y0
  go_wp2_with fail
  refine Calls.mono (put1 HZ2.out.px.pr w2.heap.size rfl ⟨#[41, 32]⟩ (by have := HL.out; rw [List.length_append, List.length_append]; show _ + 2 ≤ _; omega)) ?_
  rintro e w3 ⟨rfl, hq⟩
  have hz3 := HZ2.out.px.puq hq
  have y1 := (HC.out _ hz3.px.low).2
  have HZ3 := Hid.out (p := Hid _) (HZ2.out.trans hz3)
  clear hq hz3
  go_wp2_with fail
  refine Calls.mono (HY.out _ _ HZ3.out.px (by have := HL.out; simp only [List.length_append, List.length_cons, List.length_nil]; omega)) ?_
  rintro e w4 ⟨rfl, hz⟩
  have HZ4 := Hid.out (p := Hid _) (HZ3.out.trans hz)
  clear hz y1
  go_wp2_with fail
  go_end0
  refine ⟨rfl, ?_⟩
  simpa using HZ4.out
set_option maxRecDepth 100000 in
set_option maxHeartbeats 1600000 in
theorem gguard3 {d : Nat} {x y z : Nd} (hwx : WfX x) (hy : PgK rows d y) (hz : PgK rows d z) (hly : (pcsB (pcsN d y)).length ≤ 7000 * ndSize y) (w0 w : World) (a : Option Addr) (c P : Nat) (l : List UInt8) (ka : Option Addr) (kc : Nat) (i0 i1 i2 : Nat) (G : ByteArray) (hE : PowE w0) (hr : NdsR w0 a rows) (t0 : TAt rows x i0) (t1 : TAt rows y i1) (t2 : TAt rows z i2) (hin : IIn w0 ka [(i0 : Int), (i1 : Int), (i2 : Int)].length (fun j => [(i0 : Int), (i1 : Int), (i2 : Int)].getD j 0)) (hp : Px w0 a c rows w P l d) (hG : G.size ≤ 10) (hlen : l.length + 7000 * (ndSize x + ndSize y + ndSize z + 1) ≤ 9000000) :
    Calls Tryz.prog 99 #[.pointer (some ⟨P, 0, none⟩), .string G, .slice ka 3 kc] w fun e w' => e = .returned (.tuple #[]) ∧ Pz w0 a c rows w P (l ++ (G.data.toList ++ pcsB (pcsX x) ++ [41, 32] ++ pcsB (pcsN d y) ++ [32, 101, 108, 115, 101, 32] ++ pcsB (pcsN d z))) d w' := by
  have hlx := len_x _ x (Nat.le_refl _) hwx
  have HX : Hid (∀ (W : World) (l : List UInt8), Px w0 a c rows W P l d → l.length + 12 * ndSize x + 2 ≤ 10000000 → Calls Tryz.prog 120 #[.pointer (some ⟨P, 0, none⟩), .int .i64 (i0 : Int), .int .i64 1] W fun e w' => e = .returned (.tuple #[]) ∧ Pz w0 a c rows W P (l ++ pcsB (pcsX x)) d w') := fun W l hW hl => gexpr_one hwx hE hr t0 W l hW hl
  have HY : Hid (∀ (W : World) (l : List UInt8), Px w0 a c rows W P l d → l.length + 7000 * ndSize y ≤ 9000000 → Calls Tryz.prog 42 #[.pointer (some ⟨P, 0, none⟩), .int .i64 (i1 : Int)] W fun e w' => e = .returned (.tuple #[]) ∧ Pz w0 a c rows W P (l ++ pcsB (pcsN d y)) d w') := fun W l hW hl => hy w0 W a c i1 P l hE hr t1 hW hl
  have HZ9 : Hid (∀ (W : World) (l : List UInt8), Px w0 a c rows W P l d → l.length + 7000 * ndSize z ≤ 9000000 → Calls Tryz.prog 42 #[.pointer (some ⟨P, 0, none⟩), .int .i64 (i2 : Int)] W fun e w' => e = .returned (.tuple #[]) ∧ Pz w0 a c rows W P (l ++ pcsB (pcsN d z)) d w') := fun W l hW hl => hz w0 W a c i2 P l hE hr t2 hW hl
  obtain ⟨kb, ko, rfl, HC⟩ : ∃ kb ko, ka = some ⟨kb, ko, none⟩ ∧ Hid (∀ W, Below w0.heap.size w0 W → W.cell? ⟨kb, ko, none⟩ = some (.int .i64 (i0 : Int)) ∧ W.cell? ⟨kb, ko + 1, none⟩ = some (.int .i64 (i1 : Int)) ∧ W.cell? ⟨kb, ko + 2, none⟩ = some (.int .i64 (i2 : Int))) := by
    obtain ⟨b, o, e, h0⟩ := kid_cell hin 0 _ rfl
    obtain ⟨b1, o1, e1, h1⟩ := kid_cell hin 1 _ rfl
    rw [e] at e1
    simp only [Option.some.injEq, Addr.mk.injEq, and_true] at e1
    obtain ⟨rfl, rfl⟩ := e1
    obtain ⟨b2, o2, e2, h2⟩ := kid_cell hin 2 _ rfl
    rw [e] at e2
    simp only [Option.some.injEq, Addr.mk.injEq, and_true] at e2
    obtain ⟨rfl, rfl⟩ := e2
    exact ⟨b, o, e, fun W hW => ⟨(hW.cell (lt_of_cell h0.1)).trans h0.1, (hW.cell (lt_of_cell h1.1)).trans h1.1, (hW.cell (lt_of_cell h2.1)).trans h2.1⟩⟩
  have HP := Hid.out (p := Hid _) hp
  have HL := Hid.out (p := Hid _) (And.intro hlen (And.intro hlx hly))
  have hGl : G.data.toList.length = G.size := (Lib.size_eq G).symm
  have hl0 : l.length + 10 ≤ 10000000 := by omega
  clear hE hr t0 t1 t2 hin hp hy hz hly hlx hlen hwx
  go_enter Tryz.func99, Tryz.ntmps99
  go_wp2_with fail
  refine Calls.mono (put1 HP.out.pr w.heap.size rfl G (by omega)) ?_
  rintro e w1 ⟨rfl, hq⟩
  have hz1 := HP.out.puq hq
  have y0 := (HC.out _ hz1.px.low).1
  have HZ1 := Hid.out (p := Hid _) hz1
  clear hq hz1
  go_wp2_with fail
  refine Calls.mono (HX.out _ _ HZ1.out.px (by have := HL.out; rw [List.length_append]; omega)) ?_
  rintro e w2 ⟨rfl, hz⟩
  have HZ2 := Hid.out (p := Hid _) (HZ1.out.trans hz)
  clear hz y0
  go_wp2_with fail
  refine Calls.mono (put1 HZ2.out.px.pr w2.heap.size rfl ⟨#[41, 32]⟩ (by have := HL.out; rw [List.length_append, List.length_append]; show _ + 2 ≤ _; omega)) ?_
  rintro e w3 ⟨rfl, hq⟩
  have hz3 := HZ2.out.px.puq hq
  have y1 := (HC.out _ hz3.px.low).2.1
  have HZ3 := Hid.out (p := Hid _) (HZ2.out.trans hz3)
  clear hq hz3
  go_wp2_with fail
  refine Calls.mono (HY.out _ _ HZ3.out.px (by have := HL.out; simp only [List.length_append, List.length_cons, List.length_nil]; omega)) ?_
  rintro e w4 ⟨rfl, hz⟩
  have HZ4 := Hid.out (p := Hid _) (HZ3.out.trans hz)
  clear hz y1
  go_wp2_with fail
  refine Calls.mono (put1 HZ4.out.px.pr w4.heap.size rfl ⟨#[32, 101, 108, 115, 101, 32]⟩ (by have := HL.out; simp only [List.length_append, List.length_cons, List.length_nil]; show _ + 6 ≤ _; omega)) ?_
  rintro e w5 ⟨rfl, hq⟩
  have hz5 := HZ4.out.px.puq hq
  have y2 := (HC.out _ hz5.px.low).2.2
  have HZ5 := Hid.out (p := Hid _) (HZ4.out.trans hz5)
  clear hq hz5
  go_wp2_with fail
  refine Calls.mono (HZ9.out _ _ HZ5.out.px (by have := HL.out; simp only [List.length_append, List.length_cons, List.length_nil]; omega)) ?_
  rintro e w6 ⟨rfl, hz⟩
  have HZ6 := Hid.out (p := Hid _) (HZ5.out.trans hz)
  clear hz y2
  go_wp2_with fail
  go_end0
  refine ⟨rfl, ?_⟩
  simpa using HZ6.out
end
end

section
open Go.RowKit

theorem Px.tab {w0 w : World} {a : Option Addr} {c : Nat} {rows : List Row} {P : Nat} {l : List UInt8} {d : Nat} (h : Px w0 a c rows w P l d) (e : Nat) (v : Int) (hv : v = (e : Int)) : Pz w0 a c rows w P l e (w.setCell ⟨P, 3, none⟩ (.int .i64 v)) := by
  subst hv
  obtain ⟨p, v, hp, hU⟩ := h.pr
  have hb := (Below.refl w0.heap.size w).setCell (p := ⟨P, 3, none⟩) hU.le (.int .i64 (e : Int))
  refine ⟨⟨⟨p, v, hp, ⟨hU.le, heap_set4 hU.box, fam_keeps hU.own fun g hg => Below.heap_setCell _ _ _ _ (fun q => hU.far (by rw [hg, q])), hU.far⟩⟩, h.low.trans hb⟩, hb, TypP.box hU.box _⟩
theorem nds_take : ∀ {ks : List Nd} {j : Nat} {y : Nd}, ks[j]? = some y → ndsSize (ks.take j) + ndSize y ≤ ndsSize ks
  | [], _, _, h => by simp at h
  | x :: r, 0, y, h => by
    simp only [List.getElem?_cons_zero, Option.some.injEq] at h
    subst h
    rw [List.take_zero, ndsSize, ndsSize]
    omega
  | x :: r, j + 1, y, h => by
    simp only [List.getElem?_cons_succ] at h
    have := nds_take h
    rw [List.take_succ_cons, ndsSize, ndsSize]
    omega
section
variable {rows : List Row}
set_option maxRecDepth 100000 in
set_option maxHeartbeats 3200000 in
theorem gblock_any {d : Nat} {p : Int} {ks : List Nd} (hks : ∀ y, y ∈ ks → PgS rows (d + 1) y) (hls : ∀ y, y ∈ ks → (pcsB (pcsN (d + 1) y)).length ≤ 7000 * ndSize y) (hd : d ≤ 2000) (hkl : ks.length ≤ 100000) : PgK rows d (.mk 5 0 p [] ks) := by
  intro w0 w a c i P l hE hr ht hp hlen
  obtain ⟨hi, is, g, ka, kc, rfl, hnd, hts⟩ := ht.node hr
  have hil := ts_len hts
  have hi' : (i : Int) < (rows.length : Int) := by omega
  obtain ⟨R, hR⟩ : ∃ R, R = pcsB (pcsN d (.mk 5 0 p [] ks)) := ⟨_, rfl⟩
  rw [← hR]
  rw [pcsN_b (d := d) (x := .mk 5 0 p [] ks) rfl, bodP, pcsNs_is] at hR
  have HR : Hid (R = [123, 10] ++ pcsB ((ks.map (pcsN (d + 1))).flatten) ++ tabB d ++ [125]) := by
    show _ = _
    rw [hR]
    simp [pcsB, pcB, pcsB_app, tab_is]
  obtain ⟨m, hm⟩ : ∃ m, m = is.length := ⟨_, rfl⟩
  have HK : Hid (∀ (j : Nat), j < m → ∃ (b o : Nat) (i1 : Nat) (y : Nd) (T : List UInt8) (k1 n1 p1 : Int) (t1 : List UInt8) (ka1 : Option Addr) (kn1 kc1 : Nat), ka = some ⟨b, o, none⟩ ∧ (i1 : Int) < (rows.length : Int) ∧ ks[j]? = some y ∧ pcsB (pcsN (d + 1) y) = tabB (d + 1) ++ T ++ [10] ∧
      (∀ W, Below w0.heap.size w0 W → W.cell? ⟨b, o + j, none⟩ = some (.int .i64 (i1 : Int)) ∧ W.cell? ⟨g, i1 * 5, none⟩ = some (.int .i64 k1) ∧ W.cell? ⟨g, i1 * 5 + 1, none⟩ = some (.int .i64 n1) ∧ W.cell? ⟨g, i1 * 5 + 2, none⟩ = some (.int .i64 p1) ∧ W.cell? ⟨g, i1 * 5 + 3, none⟩ = some (.string ⟨⟨t1⟩⟩) ∧ W.cell? ⟨g, i1 * 5 + 4, none⟩ = some (.slice ka1 kn1 kc1)) ∧
      ∀ (W : World) (l : List UInt8), Px w0 (some ⟨g, 0, none⟩) c rows W P l (d + 1) → l.length + 7000 * ndSize y ≤ 9000000 → Calls Tryz.prog 72 #[.pointer (some ⟨P, 0, none⟩), .agg #[.int .i64 k1, .int .i64 n1, .int .i64 p1, .string ⟨⟨t1⟩⟩, .slice ka1 kn1 kc1]] W fun e w' => e = .returned (.tuple #[]) ∧ Pz w0 (some ⟨g, 0, none⟩) c rows W P (l ++ T) (d + 1) w') := fun j hj => by
    obtain ⟨y, hy⟩ : ∃ y, ks[j]? = some y := ⟨_, List.getElem?_eq_getElem (by omega)⟩
    obtain ⟨i1, h1, h2⟩ := ts_get hts hy
    obtain ⟨b, o, e, hc, _⟩ := kid_cell hnd.kin j _ h1
    have hs := hks y (List.mem_of_getElem? hy)
    match y, hy, h2, hs with
    | .mk k1 n1 p1 t1 ks1, hy, h2, hs =>
      obtain ⟨hi1, is1, g1, ka1, kc1, hg, hn1, hts1⟩ := h2.node hr
      simp only [Option.some.injEq, Addr.mk.injEq, and_true] at hg
      obtain rfl := hg
      obtain ⟨T, hT, hS⟩ := hs
      refine ⟨b, o, i1, _, T, k1, n1, p1, t1, ka1, is1.length, kc1, e, by omega, hy, hT, fun W hW => ?_, fun W l hW hl => hS w0 W _ c P l ka1 kc1 is1 hE hr hts1 hn1.kin hW hl⟩
      have hn := hn1.below hW
      exact ⟨(hW.cell (lt_of_cell hc)).trans hc, hn.k, hn.n, hn.p, hn.t, hn.ks⟩
  have HN : Hid (∀ W, Below w0.heap.size w0 W → W.cell? ⟨g, i * 5 + 4, none⟩ = some (.slice ka m kc)) := fun W hW => by
    have := (hnd.below hW).ks
    rw [hm]
    exact this
  have HS : Hid (∀ j (y : Nd), ks[j]? = some y → (pcsB ((ks.map (pcsN (d + 1))).take j).flatten).length + 7000 * ndSize y + 7000 ≤ 7000 * ndSize (.mk 5 0 p [] ks)) := fun j y hy => by
    have h1 := nds_take hy
    have h2 := len_flat (d := d + 1) (ks.take j) fun z hz => hls z (List.mem_of_mem_take hz)
    rw [List.map_take] at h2
    rw [ndSize]
    omega
  have HF : Hid ((pcsB ((ks.map (pcsN (d + 1))).take m).flatten).length + 7000 ≤ 7000 * ndSize (.mk 5 0 p [] ks)) := by
    show _ ≤ _
    have h2 := len_flat (d := d + 1) ks fun z hz => hls z hz
    rw [show m = (ks.map (pcsN (d + 1))).length by rw [List.length_map]; omega, List.take_length, ndSize]
    omega
  have HM : Hid (m = ks.length) := by show _ = _; omega
  have HP := Hid.out (p := Hid _) hp
  have HL := Hid.out (p := Hid _) hlen
  have hl0 : l.length + 10 ≤ 10000000 := by omega
  have hml : m ≤ 100000 := by omega
  clear hE hr ht hp hnd hts hks hls hlen hR hm hil
  go_enter Tryz.func42, Tryz.ntmps42
  go_wp2_with fail
  refine Calls.mono (put1 HP.out.pr w.heap.size rfl ⟨#[123, 10]⟩ (by show _ + 2 ≤ _; omega)) ?_
  rintro e w1 ⟨rfl, hq⟩
  have hz1 := HP.out.puq hq
  obtain ⟨c2, c3, cf, hPl, hPw⟩ := hz1.px.nodes
  have cf3 := cf 3
  have hz2 := hz1.px.tab (d + 1) ((d : Int) + 1) (by omega)
  have y4 := HN.out _ hz2.px.low
  have c22 := hz2.px.nodes.1
  have hZ2 : Pz w0 (some ⟨g, 0, none⟩) c rows w P (l ++ ([123, 10] ++ pcsB ((ks.map (pcsN (d + 1))).take 0).flatten)) (d + 1) (w1.setCell ⟨P, 3, none⟩ (.int .i64 ((d : Int) + 1))) := by
    have := hz1.trans hz2
    simpa [pcsB] using this
  have HZ2 := Hid.out (p := Hid _) hZ2
  clear hq hz1 hz2 cf hZ2
  go_wp2_with fail
  clear c2 c3 cf3 y4 c22
  go_loopw [25] (fun i wr => ∃ j : Nat, j ≤ m ∧ i = .int .i64 j ∧ Hid (Pz w0 (some ⟨g, 0, none⟩) c rows w P (l ++ ([123, 10] ++ pcsB ((ks.map (pcsN (d + 1))).take j).flatten)) (d + 1) wr)) (fun i _ => m - (intOf i).toNat)
  case atStart => exact ⟨0, Nat.zero_le _, rfl, HZ2⟩
  case round =>
    obtain ⟨j, hj, rfl, HJ⟩ := hrel
    clear HZ2
    by_cases hlt : j < m
    · obtain ⟨kb, ko, i1, y, T, k1, n1, p1, t1, ka1, kn1, kc1, rfl, hi1, hy, hT, hcs, HX⟩ := HK.out j hlt
      have y0 := (hcs _ HJ.out.px.low).1
      have hlt' : (j : Int) < (m : Int) := by omega
      have HB : Hid ((pcsB ((ks.map (pcsN (d + 1))).take j).flatten).length + 7000 * ndSize y + 7000 ≤ 7000 * ndSize (.mk 5 0 p [] ks)) := HS.out j y hy
      have HNX : Hid (pcsB ((ks.map (pcsN (d + 1))).take (j + 1)).flatten = pcsB ((ks.map (pcsN (d + 1))).take j).flatten ++ (tabB (d + 1) ++ T ++ [10])) := by
        show _ = _
        rw [List.take_add_one, List.getElem?_map, hy, ← hT]
        exact pcsB_flat _ _
      have HT : Hid (T.length ≤ 7000 * ndSize y → True) := fun _ => trivial
      have HY := Hid.out (p := Hid _) HX
      have HC := Hid.out (p := Hid _) hcs
      have hHJ : (pcsB ((ks.map (pcsN (d + 1))).take j).flatten).length + 10 ≤ 9000000 := by have := HB.out; have := HL.out; omega
      have HHJ := Hid.out (p := Hid _) hHJ
      have HTT : Hid (T.length + 10 ≤ 9000000) := by
        show _ ≤ _
        have h1 := congrArg List.length HNX.out
        have h2 : (pcsB ((ks.map (pcsN (d + 1))).take (j + 1)).flatten).length ≤ 7000 * ndSize (.mk 5 0 p [] ks) - 7000 := by
          have h3 := HF.out
          have h4 := pcsB_take ((ks.map (pcsN (d + 1))).take m) (j + 1)
          rw [List.take_take, Nat.min_eq_left (by omega)] at h4
          omega
        simp only [List.length_append, List.length_cons, List.length_nil] at h1
        have := HL.out
        omega
      have HT2 : Hid ((pcsB ((ks.map (pcsN (d + 1))).take j).flatten).length + d + T.length + 2 + 7000 ≤ 7000 * ndSize (.mk 5 0 p [] ks)) := by
        show _ ≤ _
        have h1 := congrArg List.length HNX.out
        have h3 := HF.out
        have h4 := pcsB_take ((ks.map (pcsN (d + 1))).take m) (j + 1)
        rw [List.take_take, Nat.min_eq_left (by omega)] at h4
        simp only [List.length_append, List.length_cons, List.length_nil, tab_len] at h1
        omega
      clear hcs HX hy hT hHJ HT
      go_wp2_with fail
      refine Calls.mono (indent_any9 (m := d + 1) HJ.out.px.pr (by omega) (by have := HHJ.out; have := HL.out; have := HB.out; simp only [List.length_append, List.length_cons, List.length_nil]; omega)) ?_
      rintro e w2 ⟨rfl, hq⟩
      have hz2 := HJ.out.px.puq hq
      obtain ⟨c2, -, -, hPl2, -⟩ := hz2.px.nodes
      obtain ⟨-, x0, x1, x2, x3, x4⟩ := HC.out _ hz2.px.low
      have HZ2 := Hid.out (p := Hid _) hz2
      clear hq hz2 y0
      go_wp2_with fail
      refine Calls.mono (HY.out _ _ HZ2.out.px (by have := HB.out; have := HL.out; simp only [List.length_append, List.length_cons, List.length_nil, tab_len]; omega)) ?_
      rintro e w3 ⟨rfl, hz⟩
      have HZ3 := Hid.out (p := Hid _) (HZ2.out.trans hz)
      clear hz c2 x0 x1 x2 x3 x4 hPl2
      go_wp2_with fail
      refine Calls.mono (put1 HZ3.out.px.pr w3.heap.size rfl ⟨#[10]⟩ (by have := HT2.out; have := HL.out; simp only [List.length_append, List.length_cons, List.length_nil, tab_len]; show _ + 1 ≤ _; omega)) ?_
      rintro e w4 ⟨rfl, hq⟩
      have hQ : Pz w0 (some ⟨g, 0, none⟩) c rows w P (l ++ ([123, 10] ++ pcsB ((ks.map (pcsN (d + 1))).take (j + 1)).flatten)) (d + 1) w4 := by
        have := HJ.out.trans (HZ3.out.trans (HZ3.out.px.puq hq))
        rw [HNX.out]
        simpa using this
      have HQ := Hid.out (p := Hid _) hQ
      clear hq hQ
      go_wp2_with fail
      go_roundw
      case rel => exact ⟨j + 1, by omega, by go_num, HQ⟩
      case measure => simp [intOf]; omega
    · obtain rfl : j = m := by omega
      obtain ⟨c2, c3, cf, hPl2, -⟩ := HJ.out.px.nodes
      have cf3 := cf 3
      have hc3 : ((d + 1 : Nat) : Int) = (d : Int) + 1 := by omega
      rw [hc3] at c3
      have HZ2 := Hid.out (p := Hid _) (HJ.out.trans (HJ.out.px.tab d ((d : Int) + 1 - 1) (by omega)))
      have hc4 : (d : Int) + 1 - 1 = (d : Int) := by omega
      rw [hc4] at HZ2
      clear cf
      go_wp2_with fail
      refine Calls.mono (indent_any9 (m := d) HZ2.out.px.pr (by omega) (by have := HF.out; have := HL.out; simp only [List.length_append, List.length_cons, List.length_nil]; omega)) ?_
      rintro e w2 ⟨rfl, hq⟩
      have HZ3 := Hid.out (p := Hid _) (HZ2.out.trans (HZ2.out.px.puq hq))
      clear hq c2 c3 cf3
      go_wp2_with fail
      refine Calls.mono (put1 HZ3.out.px.pr w2.heap.size rfl ⟨#[125]⟩ (by have := HF.out; have := HL.out; simp only [List.length_append, List.length_cons, List.length_nil, tab_len]; show _ + 1 ≤ _; omega)) ?_
      rintro e w4 ⟨rfl, hq⟩
      have HZ4 := Hid.out (p := Hid _) (HZ3.out.trans (HZ3.out.px.puq hq))
      clear hq
      go_wp2_with fail
      go_end0
      refine ⟨rfl, ?_⟩
      have := HZ4.out
      rw [show j = (ks.map (pcsN (d + 1))).length by rw [List.length_map]; exact HM.out, List.take_length] at this
      rw [HR.out]
      simpa using this
end
end

end Go.Proofs.YtclnjhffcfkihaeGreatDoor
