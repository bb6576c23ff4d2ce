/-
  The program's parser: expressions.
  The program's parser: every expression; two words that are asked for.
  What a row's list of variables gives.
-/
import Derived.Test.YtclnjhffcfkihaeGreatDoorSqI
import Derived.Test.YtclnjhffcfkihaeGreatDoorSynC
import Derived.Test.YtclnjhffcfkihaeGreatDoorLexA8
import Derived.ProofKit
import Derived.OpenShut
import Derived.Lay
import Derived.Deep.DeepHandedRow
import Derived.Stop.LaidErr
import Derived.Lib.LaidTab
import Derived.Shelf.Vars
namespace Go.Proofs.YtclnjhffcfkihaeGreatDoor
section
open Go.RowKit

set_option maxRecDepth 100000 in
set_option maxHeartbeats 1600000 in
theorem qlevel_any (S : ByteArray) (w : World) :
    Calls Tryz.prog 160 #[.string S] w fun e w' => e = .returned (.int .i64 (lvl S.data.toList + 1)) ∧ w' = w := by
  by_cases hin : S.data.toList ∈ signsN
  · simp only [signsN, List.mem_cons, List.not_mem_nil, or_false] at hin
    rcases hin with h | h | h | h | h | h | h | h | h | h | h
    all_goals
      obtain rfl := str_of h
      clear h
      go_enter Tryz.func160, Tryz.ntmps160
      go_wp2
      go_ret
      exact ⟨rfl, rfl⟩
  · have hne : ∀ c, c ∈ signsN → S.data.toList ≠ c := fun c hc e => hin (e ▸ hc)
    have hq := lvl_none hne
    rw [hq]
    have hb : ∀ c, c ∈ signsN → (S.toList == c) = false := fun c hc => by
      rw [Lib.toList_data]
      simpa using hne c hc
    simp only [signsN, List.mem_cons, List.not_mem_nil, or_false, forall_eq_or_imp, forall_eq] at hb
    obtain ⟨b1, b2, b3, b4, b5, b6, b7, b8, b9, b10, b11⟩ := hb
    clear hin hne hq
    go_enter Tryz.func160, Tryz.ntmps160
    go_wp2
    go_ret
    exact ⟨rfl, rfl⟩
/-- What is a sign between is a sign. -/
theorem lvl_kind {t : Tok} (h : TokOk t) (hl : 0 ≤ lvl t.text) : t.kind = 4 ∧ ¬ opB t.text ∧ ¬ shB t.text := by
  have hin : t.text ∈ signsN := by
    refine Classical.byContradiction fun hn => ?_
    have := lvl_none (l := t.text) fun c hc e => hn (e ▸ hc)
    omega
  have hp : ¬ opB t.text ∧ ¬ shB t.text := by
    simp only [signsN, List.mem_cons, List.not_mem_nil, or_false] at hin
    rcases hin with h | h | h | h | h | h | h | h | h | h | h <;> (rw [h]; decide)
  refine ⟨?_, hp⟩
  rcases h with ⟨_, _, h2⟩ | ⟨_, _, h2⟩ | ⟨_, _, _, h4⟩ | ⟨h1, _⟩
  · exfalso
    obtain ⟨⟨b, r, hb, hb2, _⟩, _⟩ := h2
    rw [hb] at hin
    simp only [signsN, List.mem_cons, List.cons.injEq, List.not_mem_nil, or_false] at hin
    rcases hin with h | h | h | h | h | h | h | h | h | h | h <;> (obtain ⟨rfl, _⟩ := h; revert hb2; decide)
  · exfalso
    obtain ⟨b, r, hb, hb2, _⟩ := word_letters h2
    rw [hb] at hin
    simp only [signsN, List.mem_cons, List.cons.injEq, List.not_mem_nil, or_false] at hin
    rcases hin with h | h | h | h | h | h | h | h | h | h | h <;> (obtain ⟨rfl, _⟩ := h; revert hb2; decide)
  · exfalso
    obtain ⟨b, r, hb, hb2⟩ := dec_head9 t.num.toNat
    rw [h4, hb] at hin
    simp only [signsN, List.mem_cons, List.cons.injEq, List.not_mem_nil, or_false] at hin
    rcases hin with h | h | h | h | h | h | h | h | h | h | h <;> (obtain ⟨rfl, _⟩ := h; revert hb2; decide)
  · exact h1
theorem ns_of {k : Nat} {E : Int} {l : List Tok} (h : lvl (tokE E l).text < (k : Int)) : NoSign k l := by
  match l, h with
  | [], _ => trivial
  | t :: r, h => exact fun _ => h

section
variable {E : Int} {d : Nat} {l : List Tok}
/-- A round of an expression. -/
structure ExI (C : Cx9) (d j : Nat) (rows : List Row) (len : Nat) (R : TRes Nd) (g : Nat) (u : Int) (x : Nd) (q : List Tok) (wr : World) : Prop where
  val : u = ((rows.length + ndSize x : Nat) : Int) - 1
  go : GoP C wr d none [] q (rows ++ flat rows.length x)
  is : restJ C.E j d x q = R
  sz : ndSize x + q.length ≤ len
  ms : q.length + 1 ≤ g
set_option maxRecDepth 100000 in
set_option maxHeartbeats 1600000 in
theorem qexpr {k : Nat} (hk : k ≤ 5) (HU : Cpr 165 [] E d l (unaryT E d l)) (IH : ∀ (r : List Tok) (m : Nat), r.length < l.length → m ≤ 5 → Cpr 152 [.int .i64 ((m : Int) + 1)] E d r (exprT E m d r)) : Cpr 152 [.int .i64 ((k : Int) + 1)] E d l (exprT E k d l) := by
  refine cpr_of fun C w rows hE hg => ?_
  subst hE
  have hfw := hg.fewR
  obtain ⟨j, hj⟩ : ∃ j, k + j = 5 := ⟨5 - k, by omega⟩
  obtain ⟨R, hR⟩ : ∃ R, R = exprT C.E k d l := ⟨_, rfl⟩
  rw [← hR]
  rw [expr_rest d l j k hj] at hR
  have HX := Hid.out (p := Hid _) (HU C w none [] rows rfl hg)
  have HIH := Hid.out (p := Hid _) IH
  clear hg HU IH
  go_enter Tryz.func152, Tryz.ntmps152
  go_wp2_with fail
  refine Calls.mono HX.out ?_
  intro e w1 hq
  cases hu : unaryT C.E d l with
  | error f =>
    rw [hu] at hq hR
    obtain ⟨rfl, hf⟩ := hq
    subst hR
    exact ⟨rfl, rfl, hf⟩
  | ok y =>
    obtain ⟨x0, q0⟩ := y
    rw [hu] at hq hR
    obtain ⟨rfl, hg1⟩ := hq
    obtain ⟨u0, hu0⟩ : ∃ u0, u0 = ((rows.length + ndSize x0 : Nat) : Int) - 1 := ⟨_, rfl⟩
    rw [← hu0]
    have hl0 : ndSize x0 + q0.length ≤ l.length := by
      have := (exprT_len (e := C.E) (k := 5) (d := d) (Nat.le_refl _) (show exprT C.E 5 d l = .ok (x0, q0) by rw [exprT_five]; exact hu)).2
      exact this
    have HI : Hid (ExI C d j rows l.length R (l.length + 1) u0 x0 q0 w1) := ⟨hu0, hg1, hR.symm, hl0, by omega⟩
    clear hg1 hu hl0 hR hu0
    go_wp2_with fail
    go_loopg [5] (l.length + 1) (fun g lf wr => ∃ u x q, lf = .int .i64 u ∧ Hid (ExI C d j rows l.length R g u x q wr))
    case atStart => exact ⟨u0, x0, q0, rfl, HI⟩
    case round =>
      obtain ⟨u, x, q, rfl, HJ⟩ := hrel
      clear HI
      have HN := Hid.out (p := Hid _) (qnext HJ.out.go)
      by_cases hlv : lvl (tokE C.E q).text < (k : Int)
      · have hlt : lvl (tokE C.E q).text + 1 < (k : Int) + 1 := by omega
        have HRX : Hid (R = .ok (x, q)) := by
          show R = _
          rw [← HJ.out.is, rest_none j k hj (ns_of hlv)]
        clear hlv
        go_wp2_with (first
          | (go_at_call 57; refine Calls.mono HN.out ?_; rintro e w2 ⟨rfl, hb⟩; have HG2 := Hid.out (p := Hid _) (HJ.out.go.below hb); clear hb)
          | (go_at_call 160; refine Calls.mono (qlevel_any _ _) ?_; rintro e w3 ⟨rfl, rfl⟩; rw [show lvl (ByteArray.mk ⟨(tokE C.E q).text⟩).data.toList = lvl (tokE C.E q).text from rfl]))
        go_ret
        rw [HRX.out]
        exact ⟨ret_int HJ.out.val, HG2.out.below ((Below.refl _ _).alloc (Nat.le_refl _) _)⟩
      · have hlt : ¬ lvl (tokE C.E q).text + 1 < (k : Int) + 1 := by omega
        obtain ⟨t, r, rfl⟩ : ∃ t r, q = t :: r := by
          cases q with
          | nil =>
            have h0 : lvl [] = -1 := by decide
            exact absurd (show lvl [] < (k : Int) by rw [h0]; omega) hlv
          | cons t r => exact ⟨t, r, rfl⟩
        simp only [tokE] at hlv hlt HN
        have htok := HJ.out.go.fewR.2.2.2 t (List.mem_cons_self ..)
        obtain ⟨m, hm⟩ : ∃ m : Nat, lvl t.text = (m : Int) := ⟨(lvl t.text).toNat, by omega⟩
        have hm4 : m ≤ 4 := by have := lvl_le t.text; omega
        have hkm : k ≤ m := by omega
        obtain ⟨hk4, hpl⟩ := lvl_kind htok (by omega)
        have hsg : signAt m (t :: r) = some (t, r) := sign_yes hk4 hm
        have hns : NoSign (m + 1) (t :: r) := fun _ => by omega
        have HRS : Hid (bindT (exprT C.E (m + 1) d r) (fun y q => restJ C.E j d (.mk 19 0 t.pos t.text [x, y]) q) = R) := by
          show _ = R
          rw [← HJ.out.is, rest_sign hsg hm4 hns (m - k) j k hj (by omega)]
        have hst : stepD t.text d = d := by unfold stepD; rw [if_neg hpl.1, if_neg hpl.2]
        have HPL := Hid.out (p := Hid _) hpl
        have HST := Hid.out (p := Hid _) hst
        have hszs := HJ.out.sz
        simp only [List.length_cons] at hszs
        have HXR := Hid.out (p := Hid _) (HIH.out r (m + 1) (by omega) (by omega))
        rw [hm] at hlt
        have HMM := Hid.out (p := Hid _) hm
        clear hlv htok hpl hst hsg hns hk4 hm
        go_wp2_with (first
          | (go_at_call 57; refine Calls.mono HN.out ?_; rintro e w2 ⟨rfl, hb⟩; have HG2 := Hid.out (p := Hid _) ((HJ.out.go.below hb).box (.cells #[.int .i64 t.kind, .int .i64 t.num, .int .i64 t.pos, .string ⟨⟨t.text⟩⟩] 66)); clear hb)
          | (go_at_call 160; refine Calls.mono (qlevel_any _ _) ?_; rintro e w3 ⟨rfl, rfl⟩; rw [show lvl (ByteArray.mk ⟨t.text⟩).data.toList = (m : Int) from HMM.out])
          | (go_at_call 88; refine Calls.mono (qtake_any HG2.out (fun h => absurd h HPL.out.1) (fun h => absurd h HPL.out.2)) ?_; rintro e w4 ⟨rfl, hg4, -⟩; rw [HST.out] at hg4; have HG4 := Hid.out (p := Hid _) hg4; clear hg4))
        refine Calls.mono (HXR.out C _ _ _ _ rfl HG4.out) ?_
        intro e w5 hq
        have hRS := HRS.out
        cases hx : exprT C.E (m + 1) d r with
        | error f =>
          rw [hx] at hq hRS
          obtain ⟨rfl, hf⟩ := hq
          subst hRS
          exact ⟨rfl, rfl, hf⟩
        | ok y =>
          obtain ⟨y, q2⟩ := y
          rw [hx] at hq hRS
          obtain ⟨rfl, hg5⟩ := hq
          obtain ⟨v5, hv5⟩ : ∃ v5, v5 = (((rows ++ flat rows.length x).length + ndSize y : Nat) : Int) - 1 := ⟨_, rfl⟩
          rw [← hv5]
          have HV5 := Hid.out (p := Hid _) hv5
          have hsz2 := exprT_len (by omega) hx
          obtain ⟨hb5, hbP, hbl⟩ := hg5.bxc
          obtain ⟨b0, b1, b2, b3, bf⟩ := box4 hb5
          have HG5 := Hid.out (p := Hid _) hg5
          have HRR : Hid (restJ C.E j d (.mk 19 0 t.pos t.text [x, y]) q2 = R) := hRS
          clear hg5 hb5 hx hRS hv5
          have hfe : ((rows ++ flat rows.length x) ++ flat (rows ++ flat rows.length x).length y).length + 1 + q2.length ≤ C.T.length := by
            rw [List.length_append, List.length_append, flat_len, flat_len]
            have := hfw.1
            omega
          go_wp2_with fail
          refine Calls.mono (qadd (HG5.out.kids [u, v5] 2 rfl (by decide) #[.int .i64 u, .int .i64 v5] rfl (by decide) w5.heap.size rfl) 19 0 t.pos t.text [u, v5] _ _ _ (Or.inl (List.mem_cons_self ..)) hfe) ?_
          rintro e w6 ⟨rfl, hg6⟩
          obtain ⟨v6, hv6⟩ : ∃ v6, v6 = ((((rows ++ flat rows.length x) ++ flat (rows ++ flat rows.length x).length y).length : Nat) : Int) := ⟨_, rfl⟩
          rw [← hv6]
          have HNX : Hid (ExI C d j rows l.length R (gk - 1) v6 (.mk 19 0 t.pos t.text [x, y]) q2 w6) := by
            have hms := HJ.out.ms
            simp only [List.length_cons] at hms
            refine ⟨?_, ?_, HRR.out, by rw [size_two]; omega, by omega⟩
            · rw [hv6, List.length_append, List.length_append, flat_len, flat_len, size_two]
              omega
            · have h8 : rows ++ flat rows.length (.mk 19 0 t.pos t.text [x, y]) = ((rows ++ flat rows.length x) ++ flat (rows ++ flat rows.length x).length y) ++ [⟨19, 0, t.pos, t.text, [u, v5]⟩] := by
                rw [HJ.out.val, HV5.out]
                simp [flat, flats, idxs, flat_len]
              rw [h8]
              exact hg6.drop
          have hgk : 1 ≤ gk := by have := HJ.out.ms; omega
          clear hg6 hv6
          go_wp2_with fail
          go_roundg (gk - 1)
          case rel => exact ⟨v6, _, q2, rfl, HNX⟩
          case measure => omega
end
end

section
open Go.RowKit

section
variable {E : Int}
/-- Every expression: the program's parser reads it. -/
theorem qexpr_all : ∀ (N : Nat) (l : List Tok), l.length ≤ N → ∀ d, Cpr 165 [] E d l (unaryT E d l) ∧ ∀ k : Nat, k ≤ 5 → Cpr 152 [.int .i64 ((k : Int) + 1)] E d l (exprT E k d l) := by
  intro N
  induction N using Nat.strongRecOn with
  | _ N ih =>
    intro l hl d
    have IH : ∀ r : List Tok, r.length < l.length → ∀ d, Cpr 165 [] E d r (unaryT E d r) ∧ ∀ k : Nat, k ≤ 5 → Cpr 152 [.int .i64 ((k : Int) + 1)] E d r (exprT E k d r) := fun r hr d => ih r.length (by omega) r (Nat.le_refl _) d
    have hu := qahead (E := E) (l := l) (d := d) (fun r hr _ => (IH r hr (d + 1)).1) (fun r hr _ => (IH r hr (d + 1)).2 0 (by omega))
    exact ⟨hu, fun k hk => qexpr hk hu fun r m hr hm => (IH r hr d).2 m hm⟩
theorem qexpr0 (l : List Tok) (d : Nat) : Cpr 152 [.int .i64 1] E d l (exprT E 0 d l) := (qexpr_all l.length l (Nat.le_refl _) d).2 0 (by omega)
end
section
variable {C : Cx9} {w w' : World} {d : Nat} {bx : Option (Nat × Obj)} {ps : List (List Int × Value)} {l : List Tok} {rows : List Row}
/-- Two words or signs that are asked for. -/
theorem qword2 (h : GoP C w d bx ps l rows) (y z : ByteArray) (hy : isLit y.data.toList) (hz : isLit z.data.toList) (hsh : shOk d [y.data.toList, z.data.toList]) (R : Except (Int × Int) (Nat × List Tok)) (HR : wordsR C.E d [y.data.toList, z.data.toList] l = R) :
    Calls Tryz.prog 91 #[.pointer (some ⟨C.P, 0, none⟩), .slice (some ⟨w.heap.size, 0, none⟩) 2 2] (w.alloc (.cells #[.string y, .string z] 9)) fun e w' => WdQ C w bx ps rows R e w' := by
  have hA := (Below.refl w.heap.size w).alloc (Nat.le_refl _) (.cells #[.string y, .string z] 9)
  obtain ⟨i, -, -, -, hP⟩ := h.cells
  refine (qwords (h.below hA) w.heap.size 2 [y, z] rfl (by decide) (heap_alloc_new _ _) (by omega) (fun x hx => by simp at hx; rcases hx with rfl | rfl <;> assumption) hsh R HR).mono ?_
  intro e w' hq
  exact wdq_only hq (Only.of hA)
theorem words_two {E : Int} {y z : List UInt8} (h1 : ¬ opB y) (h2 : ¬ shB y) : wordsR E d [y, z] l = match takeT E y l with
    | .error q => .error q
    | .ok r => wordsR E d [z] r := by
  rw [wordsR, takeT]
  split
  · rw [if_neg (fun h => h1 h.1)]
    unfold stepD
    rw [if_neg h1, if_neg h2]
  · rfl
theorem lit_word {s : List UInt8} (h : isWord s = true) : isLit s := Or.inl h
end
end

section
open Go.ChangeShapes Go.WideShapes Go.ChangeAt Go.RowKit
open Go.ChangeMaps (open_string shut_string)

theorem Tryz.own : ownKnob Tryz.prog.godebug = none := by kernel_rfl
theorem gRange : Tryz.prog.globalNamed "strconv.ErrRange" = some 3 := by kernel_rfl
theorem gRangeType : (Tryz.prog.globals[3]?).map (·.type) = some 102 := by kernel_rfl
theorem cellsErr : Tryz.prog.cellsOf 171 = 1 := by kernel_rfl
theorem cellsStr : Tryz.prog.cellsOf 9 = 1 := by kernel_rfl
theorem starErr : "*" ++ "errors.errorString" = "*errors.errorString" := by decide
theorem rowErr (u : TypeId) (h : Tryz.prog.typeName? 3 u = some "*errors.errorString") : u = 169 :=
  typeName_ptr_named (nm := "errors.errorString") (by rw [starErr]; kernel_rfl) (by kernel_rfl) (by decide) u (by rw [starErr]; exact h)

theorem gSignsType : (Tryz.prog.globals[0]?).map (·.type) = some 125 := by kernel_rfl
theorem cellsSigns : Tryz.prog.cellsOf 125 = 19 := by kernel_rfl

/-- An array of strings that reads as a list of texts holds just these. -/
theorem cells_of_strs {H : Type} {enc : TypeId × Value → H} {P : Program} {w : World} {base : Nat} {sp : Nat → Bool} {held : Bool} {fuel : Nat} {t e : TypeId} {n : Nat} {cs : List Value} {zs : List ByteArray} {p : List MemPlace}
    (ht : P.underlying t = some (.array n e)) (he : P.underlying e = some .string) (hce : P.cellsOf e = 1) (hct : P.cellsOf t = n)
    (h : DataW.trod enc P w base sp held fuel t cs = some (.agg (zs.map fun z => .lit (.string z.data.toList)), p)) : cs = zs.map Value.string := by
  cases fuel with
  | zero => simp [DataW.trod] at h
  | succ fuel =>
    simp only [DataW.trod, ht, hce, hct, Nat.mul_one] at h
    split at h
    · rename_i hl
      obtain ⟨xs, hm, hx⟩ := Option.map_eq_some_iff.1 h
      have hxs : xs.map (·.1) = zs.map fun z => (DataW.lit (.string z.data.toList) : DataW H) := by
        have := congrArg Prod.fst hx
        simpa using this
      have hxl : xs.length = n := by simpa using Lib.mapM_length hm
      have hzl : zs.length = n := by
        have := congrArg List.length hxs
        simp at this
        omega
      apply List.ext_getElem?
      intro i
      by_cases hi : i < n
      · obtain ⟨b, hb, hf⟩ := Lib.mapM_at hm i i (by simp [hi])
        obtain ⟨z, hc, rfl, _⟩ := DataW.trod_string he hf
        have h1 : cs[i]? = some (.string z) := by
          have := congrArg (·[0]?) hc
          simpa [List.getElem?_take, List.getElem?_drop] using this
        have h2 : (xs.map (·.1))[i]? = some (DataW.lit (.string z.data.toList) : DataW H) := by simp [hb]
        rw [hxs] at h2
        simp only [List.getElem?_map, Option.map_eq_some_iff, DataW.lit.injEq, Lit.string.injEq] at h2
        obtain ⟨z', hz', e⟩ := h2
        have : z' = z := by
          apply ByteArray.ext
          exact Array.toList_inj.mp e
        subst this
        simp [h1, hz']
      · rw [List.getElem?_eq_none (by omega), List.getElem?_eq_none (by simp; omega)]
    · cases h
theorem strs_of_head {P : Program} {W : World} {name : String} {zs : List ByteArray} {rest : List (String × DataW Unit)} {g : Nat} {t e : TypeId} {n : Nat}
    (hg : P.globalNamed name = some g) (hty : (P.globals[g]?).map (·.type) = some t) (ht : P.underlying t = some (.array n e)) (he : P.underlying e = some .string) (hce : P.cellsOf e = 1) (hct : P.cellsOf t = n)
    (h : laidMet P ((name, .agg (zs.map fun z => .lit (.string z.data.toList))) :: rest) W) : W.var? P name = some (zs.map Value.string).toArray := by
  obtain ⟨ps, ⟨g', t', cs, fuel, p, q, hg', ht', hvar, hd, _, _⟩, _⟩ := h
  obtain rfl := Option.some.inj (hg.symm.trans hg')
  obtain rfl := Option.some.inj (hty.symm.trans ht')
  rw [hvar, ← cells_of_strs ht he hce hct hd]

theorem shaped_size {P : Program} {W : World} (h : W.ShapedOpen P) (g : Nat) (hg : g < P.globals.size) (hs : (((begin P (fun _ _ => 0) default).world.heap[g]?).bind Obj.row?).isSome = true) : g < W.heap.size := by
  obtain ⟨⟨zero, t⟩, hz⟩ := Option.isSome_iff_exists.1 hs
  obtain ⟨cs, h1, _⟩ := h.1 g zero t hg hz
  rcases Nat.lt_or_ge g W.heap.size with h2 | h2
  · exact h2
  · rw [Array.getElem?_eq_none h2] at h1; cases h1
end

end Go.Proofs.YtclnjhffcfkihaeGreatDoor
