/-
  The program's printer: expressions.
  The program's printer: every expression.
-/
import Derived.Test.YtclnjhffcfkihaeGreatDoorSprB
import Derived.Test.YtclnjhffcfkihaeGreatDoorSqI
import Derived.Lib.AppendIntMem
namespace Go.Proofs.YtclnjhffcfkihaeGreatDoor
section
open Go.RowKit

/-- The printer while it writes: nodes lie in a world ahead of it. -/
structure Px (w0 : World) (a : Option Addr) (c : Nat) (rows : List Row) (w : World) (P : Nat) (l : List UInt8) (d : Nat) : Prop where
  pr : PrI w w0.heap.size P l (.slice a rows.length c) (d : Int)
  low : Below w0.heap.size w0 w
/-- What is left. -/
structure Pz (w0 : World) (a : Option Addr) (c : Nat) (rows : List Row) (w : World) (P : Nat) (l : List UInt8) (d : Nat) (w' : World) : Prop where
  px : Px w0 a c rows w' P l d
  low : Below w0.heap.size w w'
  typ : TypP w w'
section
variable {w0 w w' w'' : World} {a : Option Addr} {c : Nat} {rows : List Row} {P : Nat} {l l' : List UInt8} {d d' : Nat}
theorem Px.puq (h : Px w0 a c rows w P l d) (k : PuQ w w0.heap.size P l' (.slice a rows.length c) (d' : Int) w') : Pz w0 a c rows w P l' d' w' := ⟨⟨k.is, h.low.trans k.low⟩, k.low, k.typ⟩
theorem Pz.trans (h : Pz w0 a c rows w P l d w') (k : Pz w0 a c rows w' P l' d' w'') : Pz w0 a c rows w P l' d' w'' := ⟨k.px, h.low.trans k.low, h.typ.trans k.typ⟩
theorem Pz.refl (h : Px w0 a c rows w P l d) : Pz w0 a c rows w P l d w := ⟨h, Below.refl _ _, TypP.refl _⟩
theorem Px.below (h : Px w0 a c rows w P l d) (hb : Below w.heap.size w w') : Px w0 a c rows w' P l d := ⟨h.pr.below hb, h.low.trans (hb.mono h.pr.size.1)⟩
theorem Pz.below (h : Pz w0 a c rows w P l d w') (hb : Below w'.heap.size w' w'') : Pz w0 a c rows w P l d w'' := ⟨h.px.below hb, h.low.trans (hb.mono h.px.pr.size.1), h.typ.trans (TypP.of_below hb)⟩
theorem Pz.after (h : Px w0 a c rows w P l d) (hb : Below w.heap.size w w') (k : Pz w0 a c rows w' P l' d' w'') : Pz w0 a c rows w P l' d' w'' := ⟨k.px, (hb.mono h.pr.size.1).trans k.low, (TypP.of_below hb).trans k.typ⟩
theorem Px.nodes (h : Px w0 a c rows w P l d) : w.cell? ⟨P, 2, none⟩ = some (.slice a rows.length c) ∧ w.cell? ⟨P, 3, none⟩ = some (.int .i64 (d : Int)) ∧ (∀ j, w.frozen? ⟨P, j, none⟩ = false) ∧ P < w.heap.size ∧ w0.heap.size ≤ P := by
  obtain ⟨p, v, -, hU⟩ := h.pr
  exact ⟨box_cell hU.box rfl, box_cell hU.box rfl, fun j => box_free hU.box, hU.lt, hU.le⟩
end
/-- The table of powers that Itoa reads. -/
structure PowE (w : World) : Prop where
  tab : Lib.TabIs Tryz.prog w "internal/strconv.uint64pow10" .u64 Lib.pow10Tab
  sz : 6 ≤ w.heap.size
theorem oth_node (cs : Array Value) : OthP (.cells cs 53) := fun c f => ⟨by simp, by simp⟩
section
variable {rows : List Row}
/-- The program prints an expression where signs of a level stand around. -/
def PgX (rows : List Row) (x : Nd) : Prop := ∀ (w0 w : World) (a : Option Addr) (c i P : Nat) (l : List UInt8) (d : Nat) (m : Int), PowE w0 → NdsR w0 a rows → TAt rows x i → Px w0 a c rows w P l d → l.length + 12 * ndSize x + 2 ≤ 10000000 →
  Calls Tryz.prog 120 #[.pointer (some ⟨P, 0, none⟩), .int .i64 (i : Int), .int .i64 m] w fun e w' => e = .returned (.tuple #[]) ∧ Pz w0 a c rows w P (l ++ pcsB (sideP x (m - 1))) d w'
/-- .. without brackets. -/
def PgB (rows : List Row) (k n p : Int) (t : List UInt8) (ks : List Nd) : Prop := ∀ (w0 w : World) (a : Option Addr) (c P : Nat) (l : List UInt8) (d : Nat) (ka : Option Addr) (kc : Nat) (is : List Int), PowE w0 → NdsR w0 a rows → TsAt rows ks is → IIn w0 ka is.length (fun j => is.getD j 0) → Px w0 a c rows w P l d → l.length + 12 * ndSize (.mk k n p t ks) ≤ 10000000 →
  Calls Tryz.prog 142 #[.pointer (some ⟨P, 0, none⟩), .agg #[.int .i64 k, .int .i64 n, .int .i64 p, .string ⟨⟨t⟩⟩, .slice ka is.length kc]] w fun e w' => e = .returned (.tuple #[]) ∧ Pz w0 a c rows w P (l ++ pcsB (pcsX (.mk k n p t ks))) d w'
set_option maxRecDepth 100000 in
set_option maxHeartbeats 1600000 in
theorem tight_any (k n p : Int) (t : List UInt8) (ka : Option Addr) (kn kc : Nat) (w : World) :
    Calls Tryz.prog 141 #[.agg #[.int .i64 k, .int .i64 n, .int .i64 p, .string ⟨⟨t⟩⟩, .slice ka kn kc]] w fun e w' => e = .returned (.int .i64 (if k = 19 then lvl t + 1 else 6)) ∧ Below w.heap.size w w' := by
  by_cases hk : k = 19
  · subst hk
    rw [if_pos rfl]
    go_enter Tryz.func141, Tryz.ntmps141
    go_wp2_with (go_at_call 160; refine Calls.mono (qlevel_any _ _) ?_; rintro e w' ⟨rfl, rfl⟩; rw [show lvl (ByteArray.mk ⟨t⟩).data.toList = lvl t from rfl])
    go_ret
    exact ⟨rfl, (Below.refl _ _).alloc (Nat.le_refl _) _⟩
  · rw [if_neg hk]
    have hk2 : (k == 19) = false := by simpa using hk
    go_enter Tryz.func141, Tryz.ntmps141
    go_wp2_with fail
    go_ret
    exact ⟨rfl, (Below.refl _ _).alloc (Nat.le_refl _) _⟩
set_option maxRecDepth 100000 in
set_option maxHeartbeats 1600000 in
theorem gexpr_any {k n p : Int} {t : List UInt8} {ks : List Nd} (hx : PgB rows k n p t ks) (hw : WfX (.mk k n p t ks)) : PgX rows (.mk k n p t ks) := by
  intro w0 w a c i P l d m hE hr ht hp hlen
  have hlx := len_x _ _ (Nat.le_refl _) hw
  obtain ⟨hi, is, g, ka, kc, rfl, hnd, hts⟩ := ht.node hr
  have hn := hnd.below hp.low
  have x0 := hn.k
  have x1 := hn.n
  have x2 := hn.p
  have x3 := hn.t
  have x4 := hn.ks
  simp only at x0 x1 x2 x3 x4
  obtain ⟨c2, -, -, hPl, -⟩ := hp.nodes
  have hi' : (i : Int) < (rows.length : Int) := by omega
  have HP := Hid.out (p := Hid _) hp
  have HX : Hid (∀ (W : World) (l : List UInt8), Px w0 (some ⟨g, 0, none⟩) c rows W P l d → l.length + 12 * ndSize (.mk k n p t ks) ≤ 10000000 → Calls Tryz.prog 142 #[.pointer (some ⟨P, 0, none⟩), .agg #[.int .i64 k, .int .i64 n, .int .i64 p, .string ⟨⟨t⟩⟩, .slice ka is.length kc]] W fun e w' => e = .returned (.tuple #[]) ∧ Pz w0 (some ⟨g, 0, none⟩) c rows W P (l ++ pcsB (pcsX (.mk k n p t ks))) d w') := fun W l hW hl => hx w0 W _ c P l d ka kc is hE hr hts hnd.kin hW hl
  obtain ⟨b, hb⟩ : ∃ b, b = (if k = 19 then lvl t + 1 else 6) := ⟨_, rfl⟩
  have HT : Hid (∀ ka kn kc w, Calls Tryz.prog 141 #[.agg #[.int .i64 k, .int .i64 n, .int .i64 p, .string ⟨⟨t⟩⟩, .slice ka kn kc]] w fun e w' => e = .returned (.int .i64 b) ∧ Below w.heap.size w w') := fun ka kn kc w => by rw [hb]; exact tight_any k n p t ka kn kc w
  have hbx : bindX (.mk k n p t ks) = b - 1 := by rw [bindX, hb]; split <;> omega
  obtain ⟨R, hR⟩ : ∃ R, R = pcsB (sideP (.mk k n p t ks) (m - 1)) := ⟨_, rfl⟩
  rw [← hR]
  unfold sideP at hR
  rw [hbx] at hR
  have HL := Hid.out (p := Hid _) (And.intro hlen hlx)
  clear hx hw hE hlen hlx hr ht hnd hn hts hp hb hbx
  go_enter Tryz.func120, Tryz.ntmps120
  go_wp2_with fail
  refine Calls.mono (HT.out _ _ _ _) ?_
  rintro e w1 ⟨rfl, hb1⟩
  have hA := (Below.refl w.heap.size w).alloc (Nat.le_refl _) (.cells #[.int .i64 k, .int .i64 n, .int .i64 p, .string ⟨⟨t⟩⟩, .slice ka is.length kc] 53)
  have hx1 := (hb1.block w.heap.size (by simp)).trans (heap_alloc_new w _)
  have h01 := hA.trans (hb1.mono (by simp))
  have hp1 := HP.out.below h01
  obtain ⟨e0, e1, e2, e3, e4, ef⟩ := box5 hx1
  have HX1 := Hid.out (p := Hid _) hx1
  have HZ1 : Hid (Pz w0 (some ⟨g, 0, none⟩) c rows w P l d w1) := (Pz.refl HP.out).below h01
  clear hA hx1 h01 hb1 x0 x1 x2 x3 x4 c2
  by_cases hm : b < m
  · rw [if_pos (by omega)] at hR
    clear hp1
    go_wp2_with fail
    refine Calls.mono (put1 HZ1.out.px.pr w1.heap.size rfl ⟨#[40]⟩ (by have := HL.out.1; show _ + 1 ≤ _; omega)) ?_
    rintro e w2 ⟨rfl, hq2⟩
    have hz2 := HZ1.out.px.puq hq2
    have hx2 := (hz2.typ _ _ HX1.out (oth_node _)).trans HX1.out
    have HZ2 := Hid.out (p := Hid _) (HZ1.out.trans hz2)
    clear e0 e1 e2 e3 e4 ef hq2 hz2
    obtain ⟨e0, e1, e2, e3, e4, ef⟩ := box5 hx2
    clear hx2
    go_wp2_with fail
    refine Calls.mono (HX.out _ _ HZ2.out.px (by have := HL.out.1; simp only [List.length_append, List.length_cons, List.length_nil]; omega)) ?_
    rintro e w3 ⟨rfl, hz3⟩
    have HZ3 := Hid.out (p := Hid _) (HZ2.out.trans hz3)
    clear e0 e1 e2 e3 e4 ef hz3
    go_wp2_with fail
    refine Calls.mono (put1 HZ3.out.px.pr w3.heap.size rfl ⟨#[41]⟩ (by have := HL.out; simp only [List.length_append, List.length_cons, List.length_nil]; show _ + 1 ≤ _; omega)) ?_
    rintro e w4 ⟨rfl, hq4⟩
    have HZ4 := Hid.out (p := Hid _) (HZ3.out.trans (HZ3.out.px.puq hq4))
    clear hq4
    go_wp2_with fail
    refine bodyPost_ret (v := .tuple #[]) (results_none rfl _ _ _) rfl ?_
    refine ⟨rfl, ?_⟩
    have h9 : l ++ R = l ++ (⟨#[40]⟩ : ByteArray).data.toList ++ pcsB (pcsX (.mk k n p t ks)) ++ (⟨#[41]⟩ : ByteArray).data.toList := by
      rw [hR, pcsB_app, pcsB_app]
      simp [pcsB, pcB]
    rw [h9]
    exact HZ4.out
  · rw [if_neg (by omega)] at hR
    clear hp1
    go_wp2_with fail
    refine Calls.mono (HX.out _ _ HZ1.out.px (by have := HL.out.1; omega)) ?_
    rintro e w3 ⟨rfl, hz3⟩
    have HZ3 := Hid.out (p := Hid _) (HZ1.out.trans hz3)
    clear e0 e1 e2 e3 e4 ef hz3
    go_wp2_with fail
    go_end0
    refine ⟨rfl, ?_⟩
    rw [hR]
    exact HZ3.out
end
end

section
open Go.RowKit

theorem powG : Tryz.prog.globalNamed "internal/strconv.uint64pow10" = some 1 := by kernel_rfl
theorem PowE.below {w w' : World} (h : PowE w) (hb : Below w.heap.size w w') : PowE w' := by
  refine ⟨?_, Nat.le_trans h.sz hb.size⟩
  have hs := h.sz
  show World.var? _ _ _ = _
  have h' : World.var? Tryz.prog w "internal/strconv.uint64pow10" = _ := h.tab
  unfold World.var? at h' ⊢
  rw [powG] at h' ⊢
  simp only [Option.bind_some] at h' ⊢
  rw [hb.block 1 (by omega)]
  exact h'
/-- strconv.Itoa, while the printer writes. -/
theorem itoa_any9 {w : World} (h : PowE w) (n : Int) (h0 : -9223372036854775808 ≤ n) (h1 : n ≤ 9223372036854775807) :
    Calls Tryz.prog 69 #[.int .i64 n] w fun e w' => e = .returned (.string ⟨⟨Lib.itoa n⟩⟩) ∧ Below w.heap.size w w' := by
  refine (Tryz.strconv_Itoa n h0 h1 w h.tab).mono ?_
  rintro e w' ⟨rfl, q, os, rfl⟩
  exact ⟨rfl, Lib.below_grow _ _ (Nat.le_refl _) _ _⟩
section
variable {rows : List Row}
set_option maxRecDepth 100000 in
set_option maxHeartbeats 1600000 in
theorem gbare_num {n p : Int} (h0 : 0 ≤ n) (h9 : n ≤ 999999999) : PgB rows 15 n p [] [] := by
  intro w0 w a c P l d ka kc is hE hr hts hin hp hlen
  have hq : pcsB (pcsX (.mk 15 n p [] [])) = Lib.itoa n := by
    rw [pcsX, if_pos rfl]
    simp only [pcsB, pcB, List.append_nil]
    unfold Lib.itoa
    rw [if_neg (by omega)]
  rw [hq]
  have hil : (Lib.itoa n).length ≤ 9 := by
    rw [← hq, pcsX, if_pos rfl]
    simp only [pcsB, pcB, List.append_nil]
    exact dec_len n.toNat (by omega)
  obtain ⟨D, hD⟩ : ∃ S : ByteArray, S = ⟨⟨Lib.itoa n⟩⟩ := ⟨_, rfl⟩
  have hA := (Below.refl w.heap.size w).alloc (Nat.le_refl _) (.cells #[.int .i64 15, .int .i64 n, .int .i64 p, .string ⟨⟨[]⟩⟩, .slice ka is.length kc] 53)
  have hp1 := hp.below hA
  have HD : Hid (Calls Tryz.prog 69 #[.int .i64 n] (w.alloc (.cells #[.int .i64 15, .int .i64 n, .int .i64 p, .string ⟨⟨[]⟩⟩, .slice ka is.length kc] 53)) fun e w' => e = .returned (.string D) ∧ Below (w.heap.size + 1) (w.alloc (.cells #[.int .i64 15, .int .i64 n, .int .i64 p, .string ⟨⟨[]⟩⟩, .slice ka is.length kc] 53)) w') := by
    rw [hD]
    refine (itoa_any9 (hE.below hp1.low) n (by omega) (by omega)).mono ?_
    rintro e w' ⟨rfl, hb⟩
    exact ⟨rfl, by rw [show w.heap.size + 1 = (w.alloc (.cells #[.int .i64 15, .int .i64 n, .int .i64 p, .string ⟨⟨[]⟩⟩, .slice ka is.length kc] 53)).heap.size by simp]; exact hb⟩
  have HDD : Hid (D.data.toList = Lib.itoa n) := by show _ = _; rw [hD]
  have hDl : D.size ≤ 9 := by rw [hD, Lib.size_eq]; exact hil
  have HP := Hid.out (p := Hid _) hp
  have hl2 : l.length + 12 ≤ 10000000 := by simp only [ndSize, ndsSize] at hlen; omega
  have HA := Hid.out (p := Hid _) hA
  clear hE hr hts hin hp hlen hq hD hA hp1 h0 h9 hil
  go_enter Tryz.func142, Tryz.ntmps142
  go_wp2_with fail
  refine Calls.mono HD.out ?_
  rintro e w1 ⟨rfl, hb1⟩
  have h01 := HA.out.trans (hb1.mono (Nat.le_succ _))
  have HP1 := Hid.out (p := Hid _) (HP.out.below h01)
  have HB1 := Hid.out (p := Hid _) h01
  clear hb1 h01
  go_wp2_with fail
  refine Calls.mono (put1 HP1.out.pr w1.heap.size rfl D (by omega)) ?_
  rintro e w2 ⟨rfl, hq⟩
  have HZ := Hid.out (p := Hid _) (Pz.after HP.out HB1.out (HP1.out.puq hq))
  clear hq
  go_wp2_with fail
  go_end0
  refine ⟨rfl, ?_⟩
  rw [← HDD.out]
  exact HZ.out
set_option maxRecDepth 100000 in
set_option maxHeartbeats 1600000 in
theorem gbare_name {p : Int} {t : List UInt8} (ht : t.length ≤ 12) : PgB rows 16 0 p t [] := by
  intro w0 w a c P l d ka kc is hE hr hts hin hp hlen
  have hq : pcsB (pcsX (.mk 16 0 p t [])) = t := by rw [pcsX, if_neg (by decide)]; simp [pcsB, pcB]
  rw [hq]
  have hA := (Below.refl w.heap.size w).alloc (Nat.le_refl _) (.cells #[.int .i64 16, .int .i64 0, .int .i64 p, .string ⟨⟨t⟩⟩, .slice ka is.length kc] 53)
  have HA := Hid.out (p := Hid _) hA
  have HP := Hid.out (p := Hid _) hp
  have HP1 := Hid.out (p := Hid _) (hp.below hA)
  have hl2 : l.length + 12 ≤ 10000000 := by simp only [ndSize, ndsSize] at hlen; omega
  clear hE hr hts hin hp hlen hq hA
  go_enter Tryz.func142, Tryz.ntmps142
  go_wp2_with fail
  refine Calls.mono (put1 HP1.out.pr (w.heap.size + 1) (by simp) ⟨⟨t⟩⟩ (by rw [Lib.size_eq]; show l.length + t.length ≤ _; omega)) ?_
  rintro e w2 ⟨rfl, hq⟩
  have HZ := Hid.out (p := Hid _) (Pz.after HP.out HA.out (HP1.out.puq hq))
  clear hq
  go_wp2_with fail
  go_end0
  exact ⟨rfl, HZ.out⟩
/-- What is read of a node's copy while the printer writes. -/
theorem kid_low {w0 w : World} {ka : Option Addr} {is : List Int} (h : IIn w0 ka is.length (fun j => is.getD j 0)) (hb : Below w0.heap.size w0 w) (j : Nat) (x : Int) (hj : is[j]? = some x) : ∃ b o, ka = some ⟨b, o, none⟩ ∧ w.cell? ⟨b, o + j, none⟩ = some (.int .i64 x) := by
  obtain ⟨b, o, e, hc, _⟩ := kid_cell h j x hj
  exact ⟨b, o, e, (hb.cell (lt_of_cell hc)).trans hc⟩
set_option maxRecDepth 100000 in
set_option maxHeartbeats 1600000 in
theorem gbare_sign {k p : Int} {x : Nd} (hk : k = 17 ∨ k = 18) (hx : PgX rows x) : PgB rows k 0 p [] [x] := by
  intro w0 w a c P l d ka kc is hE hr hts hin hp hlen
  obtain ⟨i1, rfl, ht1⟩ := ts_one hts
  have hq : pcsB (pcsX (.mk k 0 p [] [x])) = (if k = 17 then [45] else [33]) ++ pcsB (sideP x 5) := by rw [pcsX_one _ _ _ _ _ (by omega)]; rfl
  rw [hq]
  obtain ⟨o, ho⟩ : ∃ o, o = Obj.cells #[.int .i64 k, .int .i64 0, .int .i64 p, .string ⟨⟨[]⟩⟩, .slice ka 1 kc] 53 := ⟨_, rfl⟩
  have hA := (Below.refl w.heap.size w).alloc (Nat.le_refl _) o
  have HA := Hid.out (p := Hid _) hA
  have HP := Hid.out (p := Hid _) hp
  have HP1 := Hid.out (p := Hid _) (hp.below hA)
  have hl2 : l.length + 12 * ndSize x + 12 ≤ 10000000 := by simp only [ndSize, ndsSize] at hlen; omega
  have HX : Hid (∀ (W : World) (l : List UInt8), Px w0 a c rows W P l d → l.length + 12 * ndSize x + 2 ≤ 10000000 → Calls Tryz.prog 120 #[.pointer (some ⟨P, 0, none⟩), .int .i64 (i1 : Int), .int .i64 6] W fun e w' => e = .returned (.tuple #[]) ∧ Pz w0 a c rows W P (l ++ pcsB (sideP x 5)) d w') := fun W l hW hl => hx w0 W a c i1 P l d 6 hE hr ht1 hW hl
  have HK : Hid (∀ W, Below w0.heap.size w0 W → ∃ b o, ka = some ⟨b, o, none⟩ ∧ W.cell? ⟨b, o, none⟩ = some (.int .i64 (i1 : Int))) := fun W hW => kid_low hin hW 0 _ rfl
  have HO := Hid.out (p := Hid _) ho
  clear hE hr hts hin hp hlen hq hA ht1 hx ho
  rcases hk with rfl | rfl
  all_goals
    go_enter Tryz.func142, Tryz.ntmps142
    go_wp2_with fail
    rw [← HO.out]
    try refine Calls.mono (put1 HP1.out.pr (w.heap.size + 1) (by simp) ⟨#[45]⟩ (by show _ + 1 ≤ _; omega)) ?_
    try refine Calls.mono (put1 HP1.out.pr (w.heap.size + 1) (by simp) ⟨#[33]⟩ (by show _ + 1 ≤ _; omega)) ?_
    rintro e w2 ⟨rfl, hq⟩
    have hz := HP1.out.puq hq
    have hx2 := (hz.typ _ _ (heap_alloc_new w o) (by rw [HO.out]; exact oth_node _)).trans (heap_alloc_new w o)
    rw [HO.out] at hx2
    obtain ⟨e0, e1, e2, e3, e4, ef⟩ := box5 hx2
    obtain ⟨kb, ko, rfl, y0⟩ := HK.out _ hz.px.low
    have HZ := Hid.out (p := Hid _) (Pz.after HP.out HA.out hz)
    clear hq hx2 hz
    go_wp2_with fail
    refine Calls.mono (HX.out _ _ HZ.out.px (by simp only [List.length_append, List.length_cons, List.length_nil]; omega)) ?_
    rintro e w3 ⟨rfl, hz3⟩
    have HZ3 := Hid.out (p := Hid _) (HZ.out.trans hz3)
    clear hz3 y0 e0 e1 e2 e3 e4 ef
    go_wp2_with fail
    go_end0
    refine ⟨rfl, ?_⟩
    have := HZ3.out
    rw [List.append_assoc] at this
    exact this
set_option maxRecDepth 100000 in
set_option maxHeartbeats 1600000 in
theorem gbare_two {p : Int} {t : List UInt8} {x y : Nd} (hlv : 0 ≤ lvl t) (hx : PgX rows x) (hy : PgX rows y) (hwx : WfX x) : PgB rows 19 0 p t [x, y] := by
  intro w0 w a c P l d ka kc is hE hr hts hin hp hlen
  obtain ⟨i1, i2, rfl, ht1, ht2⟩ := ts_two hts
  have hq : pcsB (pcsX (.mk 19 0 p t [x, y])) = pcsB (sideP x (lvl t)) ++ ([32] ++ t ++ [32]) ++ pcsB (sideP y (lvl t + 1)) := by
    rw [pcsX_two _ _ _ _ _ _ _ (by decide), pcsB_app, pcsB_app]
    simp [pcsB, pcB]
  rw [hq]
  obtain ⟨o, ho⟩ : ∃ o, o = Obj.cells #[.int .i64 19, .int .i64 0, .int .i64 p, .string ⟨⟨t⟩⟩, .slice ka 2 kc] 53 := ⟨_, rfl⟩
  have hA := (Below.refl w.heap.size w).alloc (Nat.le_refl _) o
  have HA := Hid.out (p := Hid _) hA
  have HP := Hid.out (p := Hid _) hp
  have hp1 := hp.below hA
  have HP1 := Hid.out (p := Hid _) hp1
  have hl2 : l.length + 12 * ndSize x + 12 * ndSize y + 12 ≤ 10000000 := by simp only [ndSize, ndsSize] at hlen; omega
  have hls : (pcsB (sideP x (lvl t))).length ≤ 12 * ndSize x + 2 := Nat.le_trans (side_len x (lvl t)) (Nat.add_le_add_right (len_x _ x (Nat.le_refl _) hwx) 2)
  have hlt := lvl_len hlv
  have hl4 := lvl_le t
  obtain ⟨L, hL⟩ : ∃ L, L = lvl t + 1 := ⟨_, rfl⟩
  have HX : Hid (∀ (W : World) (l : List UInt8), Px w0 a c rows W P l d → l.length + 12 * ndSize x + 2 ≤ 10000000 → Calls Tryz.prog 120 #[.pointer (some ⟨P, 0, none⟩), .int .i64 (i1 : Int), .int .i64 L] W fun e w' => e = .returned (.tuple #[]) ∧ Pz w0 a c rows W P (l ++ pcsB (sideP x (lvl t))) d w') := fun W l hW hl => by
    have := hx w0 W a c i1 P l d L hE hr ht1 hW hl
    rw [hL, show lvl t + 1 - 1 = lvl t by omega] at this
    rw [hL]; exact this
  have HY : Hid (∀ (W : World) (l : List UInt8), Px w0 a c rows W P l d → l.length + 12 * ndSize y + 2 ≤ 10000000 → Calls Tryz.prog 120 #[.pointer (some ⟨P, 0, none⟩), .int .i64 (i2 : Int), .int .i64 (L + 1)] W fun e w' => e = .returned (.tuple #[]) ∧ Pz w0 a c rows W P (l ++ pcsB (sideP y (lvl t + 1))) d w') := fun W l hW hl => by
    have := hy w0 W a c i2 P l d (L + 1) hE hr ht2 hW hl
    rw [hL, show lvl t + 1 + 1 - 1 = lvl t + 1 by omega] at this
    rw [hL]; exact this
  have HK : Hid (∀ W, Below w0.heap.size w0 W → ∃ b o, ka = some ⟨b, o, none⟩ ∧ W.cell? ⟨b, o, none⟩ = some (.int .i64 (i1 : Int)) ∧ W.cell? ⟨b, o + 1, none⟩ = some (.int .i64 (i2 : Int))) := fun W hW => by
    obtain ⟨b, o, e, h1⟩ := kid_low hin hW 0 _ rfl
    obtain ⟨b', o', e', h2⟩ := kid_low hin hW 1 _ rfl
    rw [e] at e'
    simp only [Option.some.injEq, Addr.mk.injEq, and_true] at e'
    obtain ⟨rfl, rfl⟩ := e'
    exact ⟨b, o, e, h1, h2⟩
  have HLV : Hid (∀ W, Calls Tryz.prog 160 #[.string ⟨⟨t⟩⟩] W fun e w' => e = .returned (.int .i64 L) ∧ w' = W) := fun W => by
    rw [hL]
    exact qlevel_any _ _
  have HO := Hid.out (p := Hid _) ho
  have hLb : 0 ≤ L ∧ L ≤ 6 := by omega
  have HL2 := Hid.out (p := Hid _) (And.intro hl2 (And.intro hls hlt))
  clear hE hr hts hin hp hlen hq hA ht1 ht2 hx hy hl2 hls hlt hL hlv hl4
  obtain ⟨kb, ko, rfl, y0, y1⟩ := HK.out _ hp1.low
  have hx1 := heap_alloc_new w o
  have h5 := hx1
  rw [ho] at h5
  obtain ⟨e0, e1, e2, e3, e4, ef⟩ := box5 h5
  clear hp1 hx1 h5 ho
  go_enter Tryz.func142, Tryz.ntmps142
  go_wp2_with fail
  refine Calls.mono (HLV.out _) ?_
  rintro e w1 ⟨rfl, rfl⟩
  rw [HO.out] at y0 y1
  go_wp2_with fail
  rw [← HO.out]
  refine Calls.mono (HX.out _ _ HP1.out (by have := HL2.out; omega)) ?_
  rintro e w2 ⟨rfl, hz⟩
  have hx2 := (hz.typ _ _ (heap_alloc_new w o) (by rw [HO.out]; exact oth_node _)).trans (heap_alloc_new w o)
  have h5 := hx2
  rw [HO.out] at h5
  clear e0 e1 e2 e3 e4 ef y0 y1
  obtain ⟨e0, e1, e2, e3, e4, ef⟩ := box5 h5
  have HX2 := Hid.out (p := Hid _) hx2
  have HZ2 := Hid.out (p := Hid _) (Pz.after HP.out HA.out hz)
  clear hz hx2 h5
  go_wp2_with fail
  refine Calls.mono (put3 HZ2.out.px.pr w2.heap.size rfl ⟨#[32]⟩ ⟨⟨t⟩⟩ ⟨#[32]⟩ (by have := HL2.out; rw [Lib.size_eq ⟨⟨t⟩⟩]; show (l ++ _).length + 1 + t.length + 1 ≤ _; rw [List.length_append]; omega)) ?_
  rintro e w3 ⟨rfl, hq⟩
  have hz := HZ2.out.px.puq hq
  have hx3 := (hz.typ _ _ HX2.out (by rw [HO.out]; exact oth_node _)).trans HX2.out
  rw [HO.out] at hx3
  clear e0 e1 e2 e3 e4 ef
  obtain ⟨e0, e1, e2, e3, e4, ef⟩ := box5 hx3
  obtain ⟨kb', ko', he, y0, y1⟩ := HK.out _ hz.px.low
  simp only [Option.some.injEq, Addr.mk.injEq, and_true] at he
  obtain ⟨rfl, rfl⟩ := he
  have HZ3 := Hid.out (p := Hid _) (HZ2.out.trans hz)
  clear hz hx3 hq
  go_wp2_with fail
  refine Calls.mono (HY.out _ _ HZ3.out.px (by have := HL2.out; simp only [List.length_append, List.length_cons, List.length_nil]; omega)) ?_
  rintro e w4 ⟨rfl, hz⟩
  have HZ4 := Hid.out (p := Hid _) (HZ3.out.trans hz)
  clear hz e0 e1 e2 e3 e4 ef y0 y1
  go_wp2_with fail
  go_end0
  refine ⟨rfl, ?_⟩
  simpa using HZ4.out
/-- The program prints every expression. -/
theorem gexpr_all : ∀ N x, ndSize x ≤ N → WfX x → PgX rows x
  | 0, x, hN, _ => by have := size_pos x; omega
  | N + 1, x, hN, hw => by
    rcases wfx_cases hw with ⟨n, p, rfl, h0, h9⟩ | ⟨p, t, rfl, ht⟩ | ⟨k, p, a, rfl, hk, ha⟩ | ⟨p, t, a, b, rfl, hl, ha, hb⟩
    · exact gexpr_any (gbare_num h0 h9) hw
    · exact gexpr_any (gbare_name ht.2.1) hw
    · simp only [ndSize, ndsSize] at hN
      exact gexpr_any (gbare_sign hk (gexpr_all N a (by omega) ha)) hw
    · simp only [ndSize, ndsSize] at hN
      exact gexpr_any (gbare_two hl (gexpr_all N a (by omega) ha) (gexpr_all N b (by omega) hb) ha) hw
end
end

end Go.Proofs.YtclnjhffcfkihaeGreatDoor
