/-
  The program's parser: expressions.
  The program's printer: expressions.
-/
import Derived.Test.YtclnjhffcfkihaeGreatDoorSqI
import Derived.Test.YtclnjhffcfkihaeGreatDoorLexA8
import Derived.Test.YtclnjhffcfkihaeGreatDoorSprB
namespace Go.Proofs.YtclnjhffcfkihaeGreatDoor
section
open Go.RowKit

set_option maxRecDepth 100000 in
set_option maxHeartbeats 1600000 in
theorem qlevel_any (S : ByteArray) (w : World) :
    Calls Tryz.prog 160 #[.string S] w fun e w' => e = .returned (.int .i64 (lvl S.data.toList + 1)) ∧ w' = w := by
  by_cases hin : S.data.toList ∈ signsN
  · simp only [signsN, List.mem_cons, List.not_mem_nil, or_false] at hin
    rcases hin with h | h | h | h | h | h | h | h | h | h | h
    all_goals
      obtain rfl := str_of h
      clear h
      go_enter Tryz.func160, Tryz.ntmps160
      go_wp2
      go_ret
      exact ⟨rfl, rfl⟩
  · have hne : ∀ c, c ∈ signsN → S.data.toList ≠ c := fun c hc e => hin (e ▸ hc)
    have hq := lvl_none hne
    rw [hq]
    have hb : ∀ c, c ∈ signsN → (S.toList == c) = false := fun c hc => by
      rw [Lib.toList_data]
      simpa using hne c hc
    simp only [signsN, List.mem_cons, List.not_mem_nil, or_false, forall_eq_or_imp, forall_eq] at hb
    obtain ⟨b1, b2, b3, b4, b5, b6, b7, b8, b9, b10, b11⟩ := hb
    clear hin hne hq
    go_enter Tryz.func160, Tryz.ntmps160
    go_wp2
    go_ret
    exact ⟨rfl, rfl⟩
/-- What is a sign between is a sign. -/
theorem lvl_kind {t : Tok} (h : TokOk t) (hl : 0 ≤ lvl t.text) : t.kind = 4 ∧ ¬ opB t.text ∧ ¬ shB t.text := by
  have hin : t.text ∈ signsN := by
    refine Classical.byContradiction fun hn => ?_
    have := lvl_none (l := t.text) fun c hc e => hn (e ▸ hc)
    omega
  have hp : ¬ opB t.text ∧ ¬ shB t.text := by
    simp only [signsN, List.mem_cons, List.not_mem_nil, or_false] at hin
    rcases hin with h | h | h | h | h | h | h | h | h | h | h <;> (rw [h]; decide)
  refine ⟨?_, hp⟩
  rcases h with ⟨_, _, h2⟩ | ⟨_, _, h2⟩ | ⟨_, _, _, h4⟩ | ⟨h1, _⟩
  · exfalso
    obtain ⟨⟨b, r, hb, hb2, _⟩, _⟩ := h2
    rw [hb] at hin
    simp only [signsN, List.mem_cons, List.cons.injEq, List.not_mem_nil, or_false] at hin
    rcases hin with h | h | h | h | h | h | h | h | h | h | h <;> (obtain ⟨rfl, _⟩ := h; revert hb2; decide)
  · exfalso
    obtain ⟨b, r, hb, hb2, _⟩ := word_letters h2
    rw [hb] at hin
    simp only [signsN, List.mem_cons, List.cons.injEq, List.not_mem_nil, or_false] at hin
    rcases hin with h | h | h | h | h | h | h | h | h | h | h <;> (obtain ⟨rfl, _⟩ := h; revert hb2; decide)
  · exfalso
    obtain ⟨b, r, hb, hb2⟩ := dec_head9 t.num.toNat
    rw [h4, hb] at hin
    simp only [signsN, List.mem_cons, List.cons.injEq, List.not_mem_nil, or_false] at hin
    rcases hin with h | h | h | h | h | h | h | h | h | h | h <;> (obtain ⟨rfl, _⟩ := h; revert hb2; decide)
  · exact h1
theorem ns_of {k : Nat} {E : Int} {l : List Tok} (h : lvl (tokE E l).text < (k : Int)) : NoSign k l := by
  match l, h with
  | [], _ => trivial
  | t :: r, h => exact fun _ => h

section
variable {E : Int} {d : Nat} {l : List Tok}
/-- A round of an expression. -/
structure ExI (C : Cx9) (d j : Nat) (rows : List Row) (len : Nat) (R : TRes Nd) (g : Nat) (u : Int) (x : Nd) (q : List Tok) (wr : World) : Prop where
  val : u = ((rows.length + ndSize x : Nat) : Int) - 1
  go : GoP C wr d none [] q (rows ++ flat rows.length x)
  is : restJ C.E j d x q = R
  sz : ndSize x + q.length ≤ len
  ms : q.length + 1 ≤ g
set_option maxRecDepth 100000 in
set_option maxHeartbeats 1600000 in
theorem qexpr {k : Nat} (hk : k ≤ 5) (HU : Cpr 165 [] E d l (unaryT E d l)) (IH : ∀ (r : List Tok) (m : Nat), r.length < l.length → m ≤ 5 → Cpr 152 [.int .i64 ((m : Int) + 1)] E d r (exprT E m d r)) : Cpr 152 [.int .i64 ((k : Int) + 1)] E d l (exprT E k d l) := by
  refine cpr_of fun C w rows hE hg => ?_
  subst hE
  have hfw := hg.fewR
  obtain ⟨j, hj⟩ : ∃ j, k + j = 5 := ⟨5 - k, by omega⟩
  obtain ⟨R, hR⟩ : ∃ R, R = exprT C.E k d l := ⟨_, rfl⟩
  rw [← hR]
  rw [expr_rest d l j k hj] at hR
  have HX := Hid.out (p := Hid _) (HU C w none [] rows rfl hg)
  have HIH := Hid.out (p := Hid _) IH
  clear hg HU IH
  go_enter Tryz.func152, Tryz.ntmps152
  go_wp2_with fail
  refine Calls.mono HX.out ?_
  intro e w1 hq
  cases hu : unaryT C.E d l with
  | error f =>
    rw [hu] at hq hR
    obtain ⟨rfl, hf⟩ := hq
    subst hR
    exact ⟨rfl, rfl, hf⟩
  | ok y =>
    obtain ⟨x0, q0⟩ := y
    rw [hu] at hq hR
    obtain ⟨rfl, hg1⟩ := hq
    obtain ⟨u0, hu0⟩ : ∃ u0, u0 = ((rows.length + ndSize x0 : Nat) : Int) - 1 := ⟨_, rfl⟩
    rw [← hu0]
    have hl0 : ndSize x0 + q0.length ≤ l.length := by
      have := (exprT_len (e := C.E) (k := 5) (d := d) (Nat.le_refl _) (show exprT C.E 5 d l = .ok (x0, q0) by rw [exprT_five]; exact hu)).2
      exact this
    have HI : Hid (ExI C d j rows l.length R (l.length + 1) u0 x0 q0 w1) := ⟨hu0, hg1, hR.symm, hl0, by omega⟩
    clear hg1 hu hl0 hR hu0
    go_wp2_with fail
    go_loopg [5] (l.length + 1) (fun g lf wr => ∃ u x q, lf = .int .i64 u ∧ Hid (ExI C d j rows l.length R g u x q wr))
    case atStart => exact ⟨u0, x0, q0, rfl, HI⟩
    case round =>
      obtain ⟨u, x, q, rfl, HJ⟩ := hrel
      clear HI
      have HN := Hid.out (p := Hid _) (qnext HJ.out.go)
      by_cases hlv : lvl (tokE C.E q).text < (k : Int)
      · have hlt : lvl (tokE C.E q).text + 1 < (k : Int) + 1 := by omega
        have HRX : Hid (R = .ok (x, q)) := by
          show R = _
          rw [← HJ.out.is, rest_none j k hj (ns_of hlv)]
        clear hlv
        go_wp2_with (first
          | (go_at_call 57; refine Calls.mono HN.out ?_; rintro e w2 ⟨rfl, hb⟩; have HG2 := Hid.out (p := Hid _) (HJ.out.go.below hb); clear hb)
          | (go_at_call 160; refine Calls.mono (qlevel_any _ _) ?_; rintro e w3 ⟨rfl, rfl⟩; rw [show lvl (ByteArray.mk ⟨(tokE C.E q).text⟩).data.toList = lvl (tokE C.E q).text from rfl]))
        go_ret
        rw [HRX.out]
        exact ⟨ret_int HJ.out.val, HG2.out.below ((Below.refl _ _).alloc (Nat.le_refl _) _)⟩
      · have hlt : ¬ lvl (tokE C.E q).text + 1 < (k : Int) + 1 := by omega
        obtain ⟨t, r, rfl⟩ : ∃ t r, q = t :: r := by
          cases q with
          | nil =>
            have h0 : lvl [] = -1 := by decide
            exact absurd (show lvl [] < (k : Int) by rw [h0]; omega) hlv
          | cons t r => exact ⟨t, r, rfl⟩
        simp only [tokE] at hlv hlt HN
        have htok := HJ.out.go.fewR.2.2.2 t (List.mem_cons_self ..)
        obtain ⟨m, hm⟩ : ∃ m : Nat, lvl t.text = (m : Int) := ⟨(lvl t.text).toNat, by omega⟩
        have hm4 : m ≤ 4 := by have := lvl_le t.text; omega
        have hkm : k ≤ m := by omega
        obtain ⟨hk4, hpl⟩ := lvl_kind htok (by omega)
        have hsg : signAt m (t :: r) = some (t, r) := sign_yes hk4 hm
        have hns : NoSign (m + 1) (t :: r) := fun _ => by omega
        have HRS : Hid (bindT (exprT C.E (m + 1) d r) (fun y q => restJ C.E j d (.mk 19 0 t.pos t.text [x, y]) q) = R) := by
          show _ = R
          rw [← HJ.out.is, rest_sign hsg hm4 hns (m - k) j k hj (by omega)]
        have hst : stepD t.text d = d := by unfold stepD; rw [if_neg hpl.1, if_neg hpl.2]
        have HPL := Hid.out (p := Hid _) hpl
        have HST := Hid.out (p := Hid _) hst
        have hszs := HJ.out.sz
        simp only [List.length_cons] at hszs
        have HXR := Hid.out (p := Hid _) (HIH.out r (m + 1) (by omega) (by omega))
        rw [hm] at hlt
        have HMM := Hid.out (p := Hid _) hm
        clear hlv htok hpl hst hsg hns hk4 hm
        go_wp2_with (first
          | (go_at_call 57; refine Calls.mono HN.out ?_; rintro e w2 ⟨rfl, hb⟩; have HG2 := Hid.out (p := Hid _) ((HJ.out.go.below hb).box (.cells #[.int .i64 t.kind, .int .i64 t.num, .int .i64 t.pos, .string ⟨⟨t.text⟩⟩] 66)); clear hb)
          | (go_at_call 160; refine Calls.mono (qlevel_any _ _) ?_; rintro e w3 ⟨rfl, rfl⟩; rw [show lvl (ByteArray.mk ⟨t.text⟩).data.toList = (m : Int) from HMM.out])
          | (go_at_call 88; refine Calls.mono (qtake_any HG2.out (fun h => absurd h HPL.out.1) (fun h => absurd h HPL.out.2)) ?_; rintro e w4 ⟨rfl, hg4, -⟩; rw [HST.out] at hg4; have HG4 := Hid.out (p := Hid _) hg4; clear hg4))
        refine Calls.mono (HXR.out C _ _ _ _ rfl HG4.out) ?_
        intro e w5 hq
        have hRS := HRS.out
        cases hx : exprT C.E (m + 1) d r with
        | error f =>
          rw [hx] at hq hRS
          obtain ⟨rfl, hf⟩ := hq
          subst hRS
          exact ⟨rfl, rfl, hf⟩
        | ok y =>
          obtain ⟨y, q2⟩ := y
          rw [hx] at hq hRS
          obtain ⟨rfl, hg5⟩ := hq
          obtain ⟨v5, hv5⟩ : ∃ v5, v5 = (((rows ++ flat rows.length x).length + ndSize y : Nat) : Int) - 1 := ⟨_, rfl⟩
          rw [← hv5]
          have HV5 := Hid.out (p := Hid _) hv5
          have hsz2 := exprT_len (by omega) hx
          obtain ⟨hb5, hbP, hbl⟩ := hg5.bxc
          obtain ⟨b0, b1, b2, b3, bf⟩ := box4 hb5
          have HG5 := Hid.out (p := Hid _) hg5
          have HRR : Hid (restJ C.E j d (.mk 19 0 t.pos t.text [x, y]) q2 = R) := hRS
          clear hg5 hb5 hx hRS hv5
          have hfe : ((rows ++ flat rows.length x) ++ flat (rows ++ flat rows.length x).length y).length + 1 + q2.length ≤ C.T.length := by
            rw [List.length_append, List.length_append, flat_len, flat_len]
            have := hfw.1
            omega
          go_wp2_with fail
          refine Calls.mono (qadd (HG5.out.kids [u, v5] 2 rfl (by decide) #[.int .i64 u, .int .i64 v5] rfl (by decide) w5.heap.size rfl) 19 0 t.pos t.text [u, v5] _ _ _ (Or.inl (List.mem_cons_self ..)) hfe) ?_
          rintro e w6 ⟨rfl, hg6⟩
          obtain ⟨v6, hv6⟩ : ∃ v6, v6 = ((((rows ++ flat rows.length x) ++ flat (rows ++ flat rows.length x).length y).length : Nat) : Int) := ⟨_, rfl⟩
          rw [← hv6]
          have HNX : Hid (ExI C d j rows l.length R (gk - 1) v6 (.mk 19 0 t.pos t.text [x, y]) q2 w6) := by
            have hms := HJ.out.ms
            simp only [List.length_cons] at hms
            refine ⟨?_, ?_, HRR.out, by rw [size_two]; omega, by omega⟩
            · rw [hv6, List.length_append, List.length_append, flat_len, flat_len, size_two]
              omega
            · have h8 : rows ++ flat rows.length (.mk 19 0 t.pos t.text [x, y]) = ((rows ++ flat rows.length x) ++ flat (rows ++ flat rows.length x).length y) ++ [⟨19, 0, t.pos, t.text, [u, v5]⟩] := by
                rw [HJ.out.val, HV5.out]
                simp [flat, flats, idxs, flat_len]
              rw [h8]
              exact hg6.drop
          have hgk : 1 ≤ gk := by have := HJ.out.ms; omega
          clear hg6 hv6
          go_wp2_with fail
          go_roundg (gk - 1)
          case rel => exact ⟨v6, _, q2, rfl, HNX⟩
          case measure => omega
end
end

section
open Go.RowKit

/-- The printer while it writes: nodes lie in a world ahead of it. -/
structure Px (w0 : World) (a : Option Addr) (c : Nat) (rows : List Row) (w : World) (P : Nat) (l : List UInt8) (d : Nat) : Prop where
  pr : PrI w w0.heap.size P l (.slice a rows.length c) (d : Int)
  low : Below w0.heap.size w0 w
/-- What is left. -/
structure Pz (w0 : World) (a : Option Addr) (c : Nat) (rows : List Row) (w : World) (P : Nat) (l : List UInt8) (d : Nat) (w' : World) : Prop where
  px : Px w0 a c rows w' P l d
  low : Below w0.heap.size w w'
  typ : TypP w w'
section
variable {w0 w w' w'' : World} {a : Option Addr} {c : Nat} {rows : List Row} {P : Nat} {l l' : List UInt8} {d d' : Nat}
theorem Px.puq (h : Px w0 a c rows w P l d) (k : PuQ w w0.heap.size P l' (.slice a rows.length c) (d' : Int) w') : Pz w0 a c rows w P l' d' w' := ⟨⟨k.is, h.low.trans k.low⟩, k.low, k.typ⟩
theorem Pz.trans (h : Pz w0 a c rows w P l d w') (k : Pz w0 a c rows w' P l' d' w'') : Pz w0 a c rows w P l' d' w'' := ⟨k.px, h.low.trans k.low, h.typ.trans k.typ⟩
theorem Pz.refl (h : Px w0 a c rows w P l d) : Pz w0 a c rows w P l d w := ⟨h, Below.refl _ _, TypP.refl _⟩
theorem Px.below (h : Px w0 a c rows w P l d) (hb : Below w.heap.size w w') : Px w0 a c rows w' P l d := ⟨h.pr.below hb, h.low.trans (hb.mono h.pr.size.1)⟩
theorem Pz.below (h : Pz w0 a c rows w P l d w') (hb : Below w'.heap.size w' w'') : Pz w0 a c rows w P l d w'' := ⟨h.px.below hb, h.low.trans (hb.mono h.px.pr.size.1), h.typ.trans (TypP.of_below hb)⟩
theorem Pz.after (h : Px w0 a c rows w P l d) (hb : Below w.heap.size w w') (k : Pz w0 a c rows w' P l' d' w'') : Pz w0 a c rows w P l' d' w'' := ⟨k.px, (hb.mono h.pr.size.1).trans k.low, (TypP.of_below hb).trans k.typ⟩
theorem Px.nodes (h : Px w0 a c rows w P l d) : w.cell? ⟨P, 2, none⟩ = some (.slice a rows.length c) ∧ w.cell? ⟨P, 3, none⟩ = some (.int .i64 (d : Int)) ∧ (∀ j, w.frozen? ⟨P, j, none⟩ = false) ∧ P < w.heap.size ∧ w0.heap.size ≤ P := by
  obtain ⟨p, v, -, hU⟩ := h.pr
  exact ⟨box_cell hU.box rfl, box_cell hU.box rfl, fun j => box_free hU.box, hU.lt, hU.le⟩
end
/-- The table of powers that Itoa reads. -/
structure PowE (w : World) : Prop where
  tab : Lib.TabIs Tryz.prog w "internal/strconv.uint64pow10" .u64 Lib.pow10Tab
  sz : 6 ≤ w.heap.size
theorem oth_node (cs : Array Value) : OthP (.cells cs 53) := fun c f => ⟨by simp, by simp⟩
section
variable {rows : List Row}
/-- The program prints an expression where signs of a level stand around. -/
def PgX (rows : List Row) (x : Nd) : Prop := ∀ (w0 w : World) (a : Option Addr) (c i P : Nat) (l : List UInt8) (d : Nat) (m : Int), PowE w0 → NdsR w0 a rows → TAt rows x i → Px w0 a c rows w P l d → l.length + 12 * ndSize x + 2 ≤ 10000000 →
  Calls Tryz.prog 120 #[.pointer (some ⟨P, 0, none⟩), .int .i64 (i : Int), .int .i64 m] w fun e w' => e = .returned (.tuple #[]) ∧ Pz w0 a c rows w P (l ++ pcsB (sideP x (m - 1))) d w'
/-- .. without brackets. -/
def PgB (rows : List Row) (k n p : Int) (t : List UInt8) (ks : List Nd) : Prop := ∀ (w0 w : World) (a : Option Addr) (c P : Nat) (l : List UInt8) (d : Nat) (ka : Option Addr) (kc : Nat) (is : List Int), PowE w0 → NdsR w0 a rows → TsAt rows ks is → IIn w0 ka is.length (fun j => is.getD j 0) → Px w0 a c rows w P l d → l.length + 12 * ndSize (.mk k n p t ks) ≤ 10000000 →
  Calls Tryz.prog 142 #[.pointer (some ⟨P, 0, none⟩), .agg #[.int .i64 k, .int .i64 n, .int .i64 p, .string ⟨⟨t⟩⟩, .slice ka is.length kc]] w fun e w' => e = .returned (.tuple #[]) ∧ Pz w0 a c rows w P (l ++ pcsB (pcsX (.mk k n p t ks))) d w'
set_option maxRecDepth 100000 in
set_option maxHeartbeats 1600000 in
theorem tight_any (k n p : Int) (t : List UInt8) (ka : Option Addr) (kn kc : Nat) (w : World) :
    Calls Tryz.prog 141 #[.agg #[.int .i64 k, .int .i64 n, .int .i64 p, .string ⟨⟨t⟩⟩, .slice ka kn kc]] w fun e w' => e = .returned (.int .i64 (if k = 19 then lvl t + 1 else 6)) ∧ Below w.heap.size w w' := by
  by_cases hk : k = 19
  · subst hk
    rw [if_pos rfl]
    go_enter Tryz.func141, Tryz.ntmps141
    go_wp2_with (go_at_call 160; refine Calls.mono (qlevel_any _ _) ?_; rintro e w' ⟨rfl, rfl⟩; rw [show lvl (ByteArray.mk ⟨t⟩).data.toList = lvl t from rfl])
    go_ret
    exact ⟨rfl, (Below.refl _ _).alloc (Nat.le_refl _) _⟩
  · rw [if_neg hk]
    have hk2 : (k == 19) = false := by simpa using hk
    go_enter Tryz.func141, Tryz.ntmps141
    go_wp2_with fail
    go_ret
    exact ⟨rfl, (Below.refl _ _).alloc (Nat.le_refl _) _⟩
set_option maxRecDepth 100000 in
set_option maxHeartbeats 1600000 in
theorem gexpr_any {k n p : Int} {t : List UInt8} {ks : List Nd} (hx : PgB rows k n p t ks) (hw : WfX (.mk k n p t ks)) : PgX rows (.mk k n p t ks) := by
  intro w0 w a c i P l d m hE hr ht hp hlen
  have hlx := len_x _ _ (Nat.le_refl _) hw
  obtain ⟨hi, is, g, ka, kc, rfl, hnd, hts⟩ := ht.node hr
  have hn := hnd.below hp.low
  have x0 := hn.k
  have x1 := hn.n
  have x2 := hn.p
  have x3 := hn.t
  have x4 := hn.ks
  simp only at x0 x1 x2 x3 x4
  obtain ⟨c2, -, -, hPl, -⟩ := hp.nodes
  have hi' : (i : Int) < (rows.length : Int) := by omega
  have HP := Hid.out (p := Hid _) hp
  have HX : Hid (∀ (W : World) (l : List UInt8), Px w0 (some ⟨g, 0, none⟩) c rows W P l d → l.length + 12 * ndSize (.mk k n p t ks) ≤ 10000000 → Calls Tryz.prog 142 #[.pointer (some ⟨P, 0, none⟩), .agg #[.int .i64 k, .int .i64 n, .int .i64 p, .string ⟨⟨t⟩⟩, .slice ka is.length kc]] W fun e w' => e = .returned (.tuple #[]) ∧ Pz w0 (some ⟨g, 0, none⟩) c rows W P (l ++ pcsB (pcsX (.mk k n p t ks))) d w') := fun W l hW hl => hx w0 W _ c P l d ka kc is hE hr hts hnd.kin hW hl
  obtain ⟨b, hb⟩ : ∃ b, b = (if k = 19 then lvl t + 1 else 6) := ⟨_, rfl⟩
  have HT : Hid (∀ ka kn kc w, Calls Tryz.prog 141 #[.agg #[.int .i64 k, .int .i64 n, .int .i64 p, .string ⟨⟨t⟩⟩, .slice ka kn kc]] w fun e w' => e = .returned (.int .i64 b) ∧ Below w.heap.size w w') := fun ka kn kc w => by rw [hb]; exact tight_any k n p t ka kn kc w
  have hbx : bindX (.mk k n p t ks) = b - 1 := by rw [bindX, hb]; split <;> omega
  obtain ⟨R, hR⟩ : ∃ R, R = pcsB (sideP (.mk k n p t ks) (m - 1)) := ⟨_, rfl⟩
  rw [← hR]
  unfold sideP at hR
  rw [hbx] at hR
  have HL := Hid.out (p := Hid _) (And.intro hlen hlx)
  clear hx hw hE hlen hlx hr ht hnd hn hts hp hb hbx
  go_enter Tryz.func120, Tryz.ntmps120
  go_wp2_with fail
  refine Calls.mono (HT.out _ _ _ _) ?_
  rintro e w1 ⟨rfl, hb1⟩
  have hA := (Below.refl w.heap.size w).alloc (Nat.le_refl _) (.cells #[.int .i64 k, .int .i64 n, .int .i64 p, .string ⟨⟨t⟩⟩, .slice ka is.length kc] 53)
  have hx1 := (hb1.block w.heap.size (by simp)).trans (heap_alloc_new w _)
  have h01 := hA.trans (hb1.mono (by simp))
  have hp1 := HP.out.below h01
  obtain ⟨e0, e1, e2, e3, e4, ef⟩ := box5 hx1
  have HX1 := Hid.out (p := Hid _) hx1
  have HZ1 : Hid (Pz w0 (some ⟨g, 0, none⟩) c rows w P l d w1) := (Pz.refl HP.out).below h01
  clear hA hx1 h01 hb1 x0 x1 x2 x3 x4 c2
  by_cases hm : b < m
  · rw [if_pos (by omega)] at hR
    clear hp1
    go_wp2_with fail
    refine Calls.mono (put1 HZ1.out.px.pr w1.heap.size rfl ⟨#[40]⟩ (by have := HL.out.1; show _ + 1 ≤ _; omega)) ?_
    rintro e w2 ⟨rfl, hq2⟩
    have hz2 := HZ1.out.px.puq hq2
    have hx2 := (hz2.typ _ _ HX1.out (oth_node _)).trans HX1.out
    have HZ2 := Hid.out (p := Hid _) (HZ1.out.trans hz2)
    clear e0 e1 e2 e3 e4 ef hq2 hz2
    obtain ⟨e0, e1, e2, e3, e4, ef⟩ := box5 hx2
    clear hx2
    go_wp2_with fail
    refine Calls.mono (HX.out _ _ HZ2.out.px (by have := HL.out.1; simp only [List.length_append, List.length_cons, List.length_nil]; omega)) ?_
    rintro e w3 ⟨rfl, hz3⟩
    have HZ3 := Hid.out (p := Hid _) (HZ2.out.trans hz3)
    clear e0 e1 e2 e3 e4 ef hz3
    go_wp2_with fail
    refine Calls.mono (put1 HZ3.out.px.pr w3.heap.size rfl ⟨#[41]⟩ (by have := HL.out; simp only [List.length_append, List.length_cons, List.length_nil]; show _ + 1 ≤ _; omega)) ?_
    rintro e w4 ⟨rfl, hq4⟩
    have HZ4 := Hid.out (p := Hid _) (HZ3.out.trans (HZ3.out.px.puq hq4))
    clear hq4
    go_wp2_with fail
    refine bodyPost_ret (v := .tuple #[]) (results_none rfl _ _ _) rfl ?_
    refine ⟨rfl, ?_⟩
    have h9 : l ++ R = l ++ (⟨#[40]⟩ : ByteArray).data.toList ++ pcsB (pcsX (.mk k n p t ks)) ++ (⟨#[41]⟩ : ByteArray).data.toList := by
      rw [hR, pcsB_app, pcsB_app]
      simp [pcsB, pcB]
    rw [h9]
    exact HZ4.out
  · rw [if_neg (by omega)] at hR
    clear hp1
    go_wp2_with fail
    refine Calls.mono (HX.out _ _ HZ1.out.px (by have := HL.out.1; omega)) ?_
    rintro e w3 ⟨rfl, hz3⟩
    have HZ3 := Hid.out (p := Hid _) (HZ1.out.trans hz3)
    clear e0 e1 e2 e3 e4 ef hz3
    go_wp2_with fail
    go_end0
    refine ⟨rfl, ?_⟩
    rw [hR]
    exact HZ3.out
end
end

end Go.Proofs.YtclnjhffcfkihaeGreatDoor
