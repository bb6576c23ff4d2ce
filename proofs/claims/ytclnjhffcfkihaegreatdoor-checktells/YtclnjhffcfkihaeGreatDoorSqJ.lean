/-
  A region that only reads, in a round of a range over a function.
  The library's iterator that goes through scopes from behind.
  The program's parser: expressions.
  The program's parser: every expression; two words that are asked for.
-/
import Derived.Test.YtclnjhffcfkihaeGreatDoorBase
import Derived.Sort.BigQuietIn
import Derived.OwnWalkIn
import Derived.Test.YtclnjhffcfkihaeGreatDoorSqE
import Derived.RangeFuncFrom
import Derived.RangeFuncNested
import Derived.RangeFuncBound
import Derived.RangeFuncCalls
import Derived.RangeFuncLeaves
import Derived.RangeFuncBox
import Derived.Shelf.Abstract
import Derived.Shelf.RegionOpen
import Derived.TacticsInMore
import Derived.LoopNIn
import Derived.LoopIn
import Derived.Test.YtclnjhffcfkihaeGreatDoorSynC
namespace Go.Proofs.YtclnjhffcfkihaeGreatDoor
section
open Go.RowKit

section
variable {lp n : Nat} {P : Program} {ops : Array Oper} {Q : Exit → Act → World → Prop}
theorem upon_round {o : Oper} {a : Act} {next : Act → World → Prop} {r : Result Next} (h : o.uponIn Fence.wide n P a next Q r) : o.uponIn (Fence.wide.inRound lp) n P a next Q r := by
  cases r with
  | ok x w =>
    cases x with
    | value v => exact h
    | skip => exact h
    | defer d => exact h
    | enter f args => exact h
    | row row args => exact h
    | round l f tmps assign body => exact h
    | _ => exact h
  | halt x w => cases x <;> exact h
theorem ops_round (hd : ∀ (i : Nat) (o : Oper), ops[i]? = some o → ∀ c, o.op ≠ Op.defer c) : ∀ (l : List Nat) (a : Act) (w : World), wpOpsIn Fence.wide n P ops Q l a w → wpOpsIn (Fence.wide.inRound lp) n P ops Q l a w
  | [], _, _, h => h
  | i :: rest, a, w, h => by
    rw [wpOpsIn] at h ⊢
    cases ho : ops[i]? with
    | none =>
      rw [ho] at h
      exact ops_round hd rest a w h
    | some o =>
      rw [ho] at h
      simp only at h ⊢
      split
      · rename_i hw
        rw [if_pos hw] at h
        have h2 := Oper.wpIn_mono (fun a w => ops_round hd rest a w) h
        refine ⟨fun _ _ => trivial, ?_⟩
        have h3 := h2.2
        rw [Oper.semAt_plain _ _ _ (hd i o ho)] at h3 ⊢
        exact upon_round h3
      · rename_i hw
        rw [if_neg hw] at h
        exact ⟨fun _ _ => trivial, ops_round hd rest _ w h.2⟩
def noDef (o : Oper) : Bool := match o.op with
  | .defer _ => false
  | _ => true
theorem region_round {id : Nat} {a : Act} {w : World} {l : List Oper} (hd : l.all noDef = true) (hm : P.follows .mixedOrders = true) (hB : Region.lexB .any l.toArray = true)
    (h : wpQuietIn Fence.wide n P l.toArray (fun w' => ∃ n, w' = w.drewN n) (fun a' => ∀ w', (∃ n, w' = w.drewN n) → Q .normal a' w') l a) : (Code.region id l.toArray true).wpIn (Fence.wide.inRound lp) n P Q a w := by
  have hd2 : ∀ (i : Nat) (o : Oper), l.toArray[i]? = some o → ∀ c, o.op ≠ Op.defer c := fun i o ho c hc => by
    have hm := List.mem_of_getElem? (by simpa using ho : l[i]? = some o)
    have := List.all_eq_true.1 hd o hm
    unfold noDef at this
    rw [hc] at this
    cases this
  refine wpIn_region_draw fun t => ops_round hd2 _ _ _ ?_
  simp only [Region.schedule, hm, Bool.true_or, if_true]
  refine wpAnyIn_sound _ t _ a _ ?_
  simp only [Region.lexB, Bool.and_eq_true] at hB
  refine wpAnyIn_of_quiet (F := Fence.wide) (C := fun w' => ∃ n, w' = w.drewN n) (Q := fun a' => ∀ w', (∃ n, w' = w.drewN n) → Q .normal a' w') rfl (fun _ w' hw' h => h w' hw') _ _ _ _ ⟨1, rfl⟩ ?_
  have := wpAnyQIn_lex (F := Fence.wide) (n := n) (C := fun w' => ∃ n, w' = w.drewN n) (md := .any) hB.1 l.toArray.toList 0 (Array.replicate l.toArray.size false) a (by simp) (by simpa using hB.2) (by simpa using h)
  simpa using this
end
end

section
open Go.RowKit Go.Shelf

attribute [local go_sem] Oper.semAt_some

/-- A place of a scope, as it is handed on. -/
def scV (l : List Nat) (p : Fin l.length) : Array Value := #[.int .i64 (p.1 : Int), .map (some (l.get p))]
/-- What has come when k rounds are over, from behind. -/
def backC (l : List Nat) (k : Nat) : List (Fin l.length) := (List.finRange l.length).reverse.take k
theorem backC_succ {l : List Nat} {k : Nat} {p : Fin l.length} (hk : k < l.length) (hp : p.1 = l.length - 1 - k) : backC l (k + 1) = backC l k ++ [p] := by
  unfold backC
  have hl : k < (List.finRange l.length).reverse.length := by simpa using hk
  rw [List.take_add_one, List.getElem?_eq_getElem hl]
  simp only [Option.toList_some, List.append_cancel_left_eq, List.cons.injEq, and_true]
  apply Fin.ext
  rw [hp]
  simp
theorem backC_length (l : List Nat) (k : Nat) (hk : k ≤ l.length) : (backC l k).length = k := by
  unfold backC
  rw [List.length_take]
  simp
  omega
set_option maxRecDepth 100000 in
set_option maxHeartbeats 2000000 in
theorem backC1_in (F : Fence) (n : Nat) (hF : F.fn 161) (hro : F.round = none) (hn : 1 ≤ n) (lp Bs n₀ : Nat) (qa : Option Addr) (qc : Nat) (l : List Nat) (hl : l.length ≤ 100000) (J Jx : List (Fin l.length) → World → Prop)
    (hY : ∀ pre x W, J pre W → pre.length < l.length → YieldAt F (n - 1) Tryz.prog lp (scV l x) W fun e W' =>
      (e = .returned (.bool true) ∧ J (pre ++ [x]) W' ∧ Below n₀ W W') ∨ (e = .returned (.bool false) ∧ Jx (pre ++ [x]) W'))
    (W : World) (hBs : W.cell? ⟨Bs, 0, none⟩ = some (.slice qa l.length qc)) (hBn : Bs < n₀) (hc : ∀ p : Fin l.length, ∃ b, qa = some ⟨b, 0, none⟩ ∧ b < n₀ ∧ W.cell? ⟨b, p.1, none⟩ = some (.map (some (l.get p)))) (h0 : J [] W) :
    CallsIn F n Tryz.prog 161 #[.func (.yield lp) #[] #[], .pointer (some ⟨Bs, 0, none⟩)] W fun e W' => (∃ v, e = .returned v) ∧
      ((∃ ys, ys = backC l l.length ∧ J ys W') ∨ (∃ pre, (∃ k, k ≤ l.length ∧ pre = backC l k) ∧ Jx pre W')) := by
  obtain ⟨len, hlen⟩ : ∃ len, l.length = len := ⟨_, rfl⟩
  refine callsIn_of_wp Tryz.func161 rfl hF ?_ hro
  simp only [Tryz.ntmps161, List.size_toArray, List.length_cons, List.length_nil, Nat.reduceAdd, Nat.reduceSub, Array.replicate_succ, Array.replicate_zero, List.push_toArray, List.append_toArray, List.nil_append, List.cons_append]
  have HC := Hid.out (p := Hid _) hc
  have HY := Hid.out (p := Hid _) hY
  have HLN := Hid.out (p := Hid _) hlen
  rw [hlen] at hBs hl
  clear hc hY hlen
  gi_wp2
  gi_loopw [3] (fun i wr => ∃ k : Nat, k ≤ len ∧ i = .int .i64 ((len : Int) - 1 - (k : Int)) ∧ Hid (J (backC l k) wr) ∧ Below n₀ W wr) (fun i _ => (intOf i + 1).toNat)
  case atStart => exact ⟨0, Nat.zero_le _, by simp, h0, Below.refl _ _⟩
  case round =>
    obtain ⟨k, hk, rfl, hJs, hnx⟩ := hrel
    have hbx : wr.cell? ⟨Bs, 0, none⟩ = some (.slice qa len qc) := (hnx.cell (p := ⟨Bs, 0, none⟩) hBn).trans hBs
    by_cases hlt : k < len
    · obtain ⟨p, hp⟩ : ∃ p : Nat, (len : Int) - 1 - (k : Int) = (p : Int) := ⟨len - 1 - k, by omega⟩
      have hpl : p < len := by omega
      have hpl2 : p < l.length := by have := HLN.out; omega
      obtain ⟨b, rfl, hb, c0⟩ := HC.out ⟨p, hpl2⟩
      have d0 := (hnx.cell (p := ⟨b, p, none⟩) hb).trans c0
      obtain ⟨fn, tmps, assign, body, hy, hR⟩ := HY.out (backC l k) ⟨p, hpl2⟩ wr hJs.out (by rw [backC_length _ _ (by have := HLN.out; omega)]; have := HLN.out; omega)
      have hbk : backC l (k + 1) = backC l k ++ [⟨p, hpl2⟩] := backC_succ (by have := HLN.out; omega) (by show p = _; have := HLN.out; omega)
      obtain ⟨mb, hmb⟩ : ∃ mb, l.get ⟨p, hpl2⟩ = mb := ⟨_, rfl⟩
      simp only [scV] at hy
      rw [hmb] at d0 hy
      rw [hp]
      have HBK := Hid.out (p := Hid _) hbk
      have HP := Hid.out (p := Hid _) hp
      clear hbk c0 hmb
      gi_wp2
      refine hR.mono ?_
      rintro e W3 (⟨rfl, hJ3, hk3⟩ | ⟨rfl, hJx3⟩)
      · gi_wp2
        go_roundw
        case rel => exact ⟨k + 1, by omega, by rw [← HP.out]; simp <;> omega, (by rw [HBK.out]; exact hJ3 : Hid (J (backC l (k + 1)) W3)), hnx.trans hk3⟩
        case measure => first | (simp [intOf]; done) | (simp [intOf]; omega)
      · gi_wp2
        refine bodyPost_ret (results_none rfl _ _ _) rfl ?_
        exact ⟨⟨_, rfl⟩, .inr ⟨_, ⟨k + 1, by have := HLN.out; omega, HBK.out.symm⟩, hJx3⟩⟩
    · obtain rfl : k = len := by omega
      have hneg : (k : Int) - 1 - (k : Int) = -1 := by omega
      rw [hneg]
      gi_wp2
      go_end0
      exact ⟨⟨_, rfl⟩, .inl ⟨_, congrArg (backC l) HLN.out.symm, hJs.out⟩⟩
set_option maxHeartbeats 1000000 in
theorem backC_in (F : Fence) (n : Nat) (hF : F.fn 143) (hro : F.round = none) (a : Option Addr) (len cap : Nat) (w : World) :
    CallsIn F n Tryz.prog 143 #[.slice a len cap] w fun e w' => e = .returned (.func (.func 161) #[] #[.pointer (some ⟨w.heap.size, 0, none⟩)]) ∧ w' = w.alloc (.cells #[.slice a len cap] 80) := by
  refine callsIn_of_wp Tryz.func143 rfl hF ?_ hro
  simp only [Tryz.ntmps143, List.size_toArray, List.length_cons, List.length_nil, Nat.reduceAdd, Nat.reduceSub, Array.replicate_succ, Array.replicate_zero, List.push_toArray, List.append_toArray, List.nil_append, List.cons_append]
  gi_wp2
  go_ret
  exact ⟨rfl, rfl⟩
theorem backC_stops (F : Fence) (n : Nat) (hF : F.fn 161) (hro : F.round = none) (hn : 1 ≤ n) (Bs n₀ : Nat) (qa : Option Addr) (qc : Nat) (l : List Nat) (hl : l.length ≤ 100000) (w : World) (hBs : w.cell? ⟨Bs, 0, none⟩ = some (.slice qa l.length qc)) (hBn : Bs < n₀) (hn₀ : n₀ ≤ w.heap.size) (hc : ∀ p : Fin l.length, ∃ b, qa = some ⟨b, 0, none⟩ ∧ b < n₀ ∧ w.cell? ⟨b, p.1, none⟩ = some (.map (some (l.get p)))) :
    SeqStopsK F n Tryz.prog 161 #[.pointer (some ⟨Bs, 0, none⟩)] (scV l) (Below n₀) (fun ys => ys = backC l l.length) (fun pre => ∃ k, k ≤ l.length ∧ pre = backC l k) l.length w := fun lp J Jx W hW _ _ hY h0 =>
  backC1_in F n hF hro hn lp Bs n₀ qa qc l hl J Jx hY W ((hW.cell (p := ⟨Bs, 0, none⟩) (by show Bs < _; omega)).trans hBs) hBn (fun p => by
    obtain ⟨b, e, hb, hcc⟩ := hc p
    exact ⟨b, e, hb, (hW.cell (p := ⟨b, p.1, none⟩) (by show b < _; omega)).trans hcc⟩) h0
end

section
open Go.RowKit

set_option maxRecDepth 100000 in
set_option maxHeartbeats 1600000 in
theorem qlevel_any (S : ByteArray) (w : World) :
    Calls Tryz.prog 160 #[.string S] w fun e w' => e = .returned (.int .i64 (lvl S.data.toList + 1)) ∧ w' = w := by
  by_cases hin : S.data.toList ∈ signsN
  · simp only [signsN, List.mem_cons, List.not_mem_nil, or_false] at hin
    rcases hin with h | h | h | h | h | h | h | h | h | h | h
    all_goals
      obtain rfl := str_of h
      clear h
      go_enter Tryz.func160, Tryz.ntmps160
      go_wp2
      go_ret
      exact ⟨rfl, rfl⟩
  · have hne : ∀ c, c ∈ signsN → S.data.toList ≠ c := fun c hc e => hin (e ▸ hc)
    have hq := lvl_none hne
    rw [hq]
    have hb : ∀ c, c ∈ signsN → (S.toList == c) = false := fun c hc => by
      rw [Lib.toList_data]
      simpa using hne c hc
    simp only [signsN, List.mem_cons, List.not_mem_nil, or_false, forall_eq_or_imp, forall_eq] at hb
    obtain ⟨b1, b2, b3, b4, b5, b6, b7, b8, b9, b10, b11⟩ := hb
    clear hin hne hq
    go_enter Tryz.func160, Tryz.ntmps160
    go_wp2
    go_ret
    exact ⟨rfl, rfl⟩
/-- What is a sign between is a sign. -/
theorem lvl_kind {t : Tok} (h : TokOk t) (hl : 0 ≤ lvl t.text) : t.kind = 4 ∧ ¬ opB t.text ∧ ¬ shB t.text := by
  have hin : t.text ∈ signsN := by
    refine Classical.byContradiction fun hn => ?_
    have := lvl_none (l := t.text) fun c hc e => hn (e ▸ hc)
    omega
  have hp : ¬ opB t.text ∧ ¬ shB t.text := by
    simp only [signsN, List.mem_cons, List.not_mem_nil, or_false] at hin
    rcases hin with h | h | h | h | h | h | h | h | h | h | h <;> (rw [h]; decide)
  refine ⟨?_, hp⟩
  rcases h with ⟨_, _, h2⟩ | ⟨_, _, h2⟩ | ⟨_, _, _, h4⟩ | ⟨h1, _⟩
  · exfalso
    obtain ⟨⟨b, r, hb, hb2, _⟩, _⟩ := h2
    rw [hb] at hin
    simp only [signsN, List.mem_cons, List.cons.injEq, List.not_mem_nil, or_false] at hin
    rcases hin with h | h | h | h | h | h | h | h | h | h | h <;> (obtain ⟨rfl, _⟩ := h; revert hb2; decide)
  · exfalso
    obtain ⟨b, r, hb, hb2, _⟩ := word_letters h2
    rw [hb] at hin
    simp only [signsN, List.mem_cons, List.cons.injEq, List.not_mem_nil, or_false] at hin
    rcases hin with h | h | h | h | h | h | h | h | h | h | h <;> (obtain ⟨rfl, _⟩ := h; revert hb2; decide)
  · exfalso
    obtain ⟨b, r, hb, hb2⟩ := dec_head9 t.num.toNat
    rw [h4, hb] at hin
    simp only [signsN, List.mem_cons, List.cons.injEq, List.not_mem_nil, or_false] at hin
    rcases hin with h | h | h | h | h | h | h | h | h | h | h <;> (obtain ⟨rfl, _⟩ := h; revert hb2; decide)
  · exact h1
theorem ns_of {k : Nat} {E : Int} {l : List Tok} (h : lvl (tokE E l).text < (k : Int)) : NoSign k l := by
  match l, h with
  | [], _ => trivial
  | t :: r, h => exact fun _ => h

section
variable {E : Int} {d : Nat} {l : List Tok}
/-- A round of an expression. -/
structure ExI (C : Cx9) (d j : Nat) (rows : List Row) (len : Nat) (R : TRes Nd) (g : Nat) (u : Int) (x : Nd) (q : List Tok) (wr : World) : Prop where
  val : u = ((rows.length + ndSize x : Nat) : Int) - 1
  go : GoP C wr d none [] q (rows ++ flat rows.length x)
  is : restJ C.E j d x q = R
  sz : ndSize x + q.length ≤ len
  ms : q.length + 1 ≤ g
set_option maxRecDepth 100000 in
set_option maxHeartbeats 1600000 in
theorem qexpr {k : Nat} (hk : k ≤ 5) (HU : Cpr 165 [] E d l (unaryT E d l)) (IH : ∀ (r : List Tok) (m : Nat), r.length < l.length → m ≤ 5 → Cpr 152 [.int .i64 ((m : Int) + 1)] E d r (exprT E m d r)) : Cpr 152 [.int .i64 ((k : Int) + 1)] E d l (exprT E k d l) := by
  refine cpr_of fun C w rows hE hg => ?_
  subst hE
  have hfw := hg.fewR
  obtain ⟨j, hj⟩ : ∃ j, k + j = 5 := ⟨5 - k, by omega⟩
  obtain ⟨R, hR⟩ : ∃ R, R = exprT C.E k d l := ⟨_, rfl⟩
  rw [← hR]
  rw [expr_rest d l j k hj] at hR
  have HX := Hid.out (p := Hid _) (HU C w none [] rows rfl hg)
  have HIH := Hid.out (p := Hid _) IH
  clear hg HU IH
  go_enter Tryz.func152, Tryz.ntmps152
  go_wp2_with fail
  refine Calls.mono HX.out ?_
  intro e w1 hq
  cases hu : unaryT C.E d l with
  | error f =>
    rw [hu] at hq hR
    obtain ⟨rfl, hf⟩ := hq
    subst hR
    exact ⟨rfl, rfl, hf⟩
  | ok y =>
    obtain ⟨x0, q0⟩ := y
    rw [hu] at hq hR
    obtain ⟨rfl, hg1⟩ := hq
    obtain ⟨u0, hu0⟩ : ∃ u0, u0 = ((rows.length + ndSize x0 : Nat) : Int) - 1 := ⟨_, rfl⟩
    rw [← hu0]
    have hl0 : ndSize x0 + q0.length ≤ l.length := by
      have := (exprT_len (e := C.E) (k := 5) (d := d) (Nat.le_refl _) (show exprT C.E 5 d l = .ok (x0, q0) by rw [exprT_five]; exact hu)).2
      exact this
    have HI : Hid (ExI C d j rows l.length R (l.length + 1) u0 x0 q0 w1) := ⟨hu0, hg1, hR.symm, hl0, by omega⟩
    clear hg1 hu hl0 hR hu0
    go_wp2_with fail
    go_loopg [5] (l.length + 1) (fun g lf wr => ∃ u x q, lf = .int .i64 u ∧ Hid (ExI C d j rows l.length R g u x q wr))
    case atStart => exact ⟨u0, x0, q0, rfl, HI⟩
    case round =>
      obtain ⟨u, x, q, rfl, HJ⟩ := hrel
      clear HI
      have HN := Hid.out (p := Hid _) (qnext HJ.out.go)
      by_cases hlv : lvl (tokE C.E q).text < (k : Int)
      · have hlt : lvl (tokE C.E q).text + 1 < (k : Int) + 1 := by omega
        have HRX : Hid (R = .ok (x, q)) := by
          show R = _
          rw [← HJ.out.is, rest_none j k hj (ns_of hlv)]
        clear hlv
        go_wp2_with (first
          | (go_at_call 57; refine Calls.mono HN.out ?_; rintro e w2 ⟨rfl, hb⟩; have HG2 := Hid.out (p := Hid _) (HJ.out.go.below hb); clear hb)
          | (go_at_call 160; refine Calls.mono (qlevel_any _ _) ?_; rintro e w3 ⟨rfl, rfl⟩; rw [show lvl (ByteArray.mk ⟨(tokE C.E q).text⟩).data.toList = lvl (tokE C.E q).text from rfl]))
        go_ret
        rw [HRX.out]
        exact ⟨ret_int HJ.out.val, HG2.out.below ((Below.refl _ _).alloc (Nat.le_refl _) _)⟩
      · have hlt : ¬ lvl (tokE C.E q).text + 1 < (k : Int) + 1 := by omega
        obtain ⟨t, r, rfl⟩ : ∃ t r, q = t :: r := by
          cases q with
          | nil =>
            have h0 : lvl [] = -1 := by decide
            exact absurd (show lvl [] < (k : Int) by rw [h0]; omega) hlv
          | cons t r => exact ⟨t, r, rfl⟩
        simp only [tokE] at hlv hlt HN
        have htok := HJ.out.go.fewR.2.2.2 t (List.mem_cons_self ..)
        obtain ⟨m, hm⟩ : ∃ m : Nat, lvl t.text = (m : Int) := ⟨(lvl t.text).toNat, by omega⟩
        have hm4 : m ≤ 4 := by have := lvl_le t.text; omega
        have hkm : k ≤ m := by omega
        obtain ⟨hk4, hpl⟩ := lvl_kind htok (by omega)
        have hsg : signAt m (t :: r) = some (t, r) := sign_yes hk4 hm
        have hns : NoSign (m + 1) (t :: r) := fun _ => by omega
        have HRS : Hid (bindT (exprT C.E (m + 1) d r) (fun y q => restJ C.E j d (.mk 19 0 t.pos t.text [x, y]) q) = R) := by
          show _ = R
          rw [← HJ.out.is, rest_sign hsg hm4 hns (m - k) j k hj (by omega)]
        have hst : stepD t.text d = d := by unfold stepD; rw [if_neg hpl.1, if_neg hpl.2]
        have HPL := Hid.out (p := Hid _) hpl
        have HST := Hid.out (p := Hid _) hst
        have hszs := HJ.out.sz
        simp only [List.length_cons] at hszs
        have HXR := Hid.out (p := Hid _) (HIH.out r (m + 1) (by omega) (by omega))
        rw [hm] at hlt
        have HMM := Hid.out (p := Hid _) hm
        clear hlv htok hpl hst hsg hns hk4 hm
        go_wp2_with (first
          | (go_at_call 57; refine Calls.mono HN.out ?_; rintro e w2 ⟨rfl, hb⟩; have HG2 := Hid.out (p := Hid _) ((HJ.out.go.below hb).box (.cells #[.int .i64 t.kind, .int .i64 t.num, .int .i64 t.pos, .string ⟨⟨t.text⟩⟩] 66)); clear hb)
          | (go_at_call 160; refine Calls.mono (qlevel_any _ _) ?_; rintro e w3 ⟨rfl, rfl⟩; rw [show lvl (ByteArray.mk ⟨t.text⟩).data.toList = (m : Int) from HMM.out])
          | (go_at_call 88; refine Calls.mono (qtake_any HG2.out (fun h => absurd h HPL.out.1) (fun h => absurd h HPL.out.2)) ?_; rintro e w4 ⟨rfl, hg4, -⟩; rw [HST.out] at hg4; have HG4 := Hid.out (p := Hid _) hg4; clear hg4))
        refine Calls.mono (HXR.out C _ _ _ _ rfl HG4.out) ?_
        intro e w5 hq
        have hRS := HRS.out
        cases hx : exprT C.E (m + 1) d r with
        | error f =>
          rw [hx] at hq hRS
          obtain ⟨rfl, hf⟩ := hq
          subst hRS
          exact ⟨rfl, rfl, hf⟩
        | ok y =>
          obtain ⟨y, q2⟩ := y
          rw [hx] at hq hRS
          obtain ⟨rfl, hg5⟩ := hq
          obtain ⟨v5, hv5⟩ : ∃ v5, v5 = (((rows ++ flat rows.length x).length + ndSize y : Nat) : Int) - 1 := ⟨_, rfl⟩
          rw [← hv5]
          have HV5 := Hid.out (p := Hid _) hv5
          have hsz2 := exprT_len (by omega) hx
          obtain ⟨hb5, hbP, hbl⟩ := hg5.bxc
          obtain ⟨b0, b1, b2, b3, bf⟩ := box4 hb5
          have HG5 := Hid.out (p := Hid _) hg5
          have HRR : Hid (restJ C.E j d (.mk 19 0 t.pos t.text [x, y]) q2 = R) := hRS
          clear hg5 hb5 hx hRS hv5
          have hfe : ((rows ++ flat rows.length x) ++ flat (rows ++ flat rows.length x).length y).length + 1 + q2.length ≤ C.T.length := by
            rw [List.length_append, List.length_append, flat_len, flat_len]
            have := hfw.1
            omega
          go_wp2_with fail
          refine Calls.mono (qadd (HG5.out.kids [u, v5] 2 rfl (by decide) #[.int .i64 u, .int .i64 v5] rfl (by decide) w5.heap.size rfl) 19 0 t.pos t.text [u, v5] _ _ _ (Or.inl (List.mem_cons_self ..)) hfe) ?_
          rintro e w6 ⟨rfl, hg6⟩
          obtain ⟨v6, hv6⟩ : ∃ v6, v6 = ((((rows ++ flat rows.length x) ++ flat (rows ++ flat rows.length x).length y).length : Nat) : Int) := ⟨_, rfl⟩
          rw [← hv6]
          have HNX : Hid (ExI C d j rows l.length R (gk - 1) v6 (.mk 19 0 t.pos t.text [x, y]) q2 w6) := by
            have hms := HJ.out.ms
            simp only [List.length_cons] at hms
            refine ⟨?_, ?_, HRR.out, by rw [size_two]; omega, by omega⟩
            · rw [hv6, List.length_append, List.length_append, flat_len, flat_len, size_two]
              omega
            · have h8 : rows ++ flat rows.length (.mk 19 0 t.pos t.text [x, y]) = ((rows ++ flat rows.length x) ++ flat (rows ++ flat rows.length x).length y) ++ [⟨19, 0, t.pos, t.text, [u, v5]⟩] := by
                rw [HJ.out.val, HV5.out]
                simp [flat, flats, idxs, flat_len]
              rw [h8]
              exact hg6.drop
          have hgk : 1 ≤ gk := by have := HJ.out.ms; omega
          clear hg6 hv6
          go_wp2_with fail
          go_roundg (gk - 1)
          case rel => exact ⟨v6, _, q2, rfl, HNX⟩
          case measure => omega
end
end

section
open Go.RowKit

section
variable {E : Int}
/-- Every expression: the program's parser reads it. -/
theorem qexpr_all : ∀ (N : Nat) (l : List Tok), l.length ≤ N → ∀ d, Cpr 165 [] E d l (unaryT E d l) ∧ ∀ k : Nat, k ≤ 5 → Cpr 152 [.int .i64 ((k : Int) + 1)] E d l (exprT E k d l) := by
  intro N
  induction N using Nat.strongRecOn with
  | _ N ih =>
    intro l hl d
    have IH : ∀ r : List Tok, r.length < l.length → ∀ d, Cpr 165 [] E d r (unaryT E d r) ∧ ∀ k : Nat, k ≤ 5 → Cpr 152 [.int .i64 ((k : Int) + 1)] E d r (exprT E k d r) := fun r hr d => ih r.length (by omega) r (Nat.le_refl _) d
    have hu := qahead (E := E) (l := l) (d := d) (fun r hr _ => (IH r hr (d + 1)).1) (fun r hr _ => (IH r hr (d + 1)).2 0 (by omega))
    exact ⟨hu, fun k hk => qexpr hk hu fun r m hr hm => (IH r hr d).2 m hm⟩
theorem qexpr0 (l : List Tok) (d : Nat) : Cpr 152 [.int .i64 1] E d l (exprT E 0 d l) := (qexpr_all l.length l (Nat.le_refl _) d).2 0 (by omega)
end
section
variable {C : Cx9} {w w' : World} {d : Nat} {bx : Option (Nat × Obj)} {ps : List (List Int × Value)} {l : List Tok} {rows : List Row}
/-- Two words or signs that are asked for. -/
theorem qword2 (h : GoP C w d bx ps l rows) (y z : ByteArray) (hy : isLit y.data.toList) (hz : isLit z.data.toList) (hsh : shOk d [y.data.toList, z.data.toList]) (R : Except (Int × Int) (Nat × List Tok)) (HR : wordsR C.E d [y.data.toList, z.data.toList] l = R) :
    Calls Tryz.prog 91 #[.pointer (some ⟨C.P, 0, none⟩), .slice (some ⟨w.heap.size, 0, none⟩) 2 2] (w.alloc (.cells #[.string y, .string z] 9)) fun e w' => WdQ C w bx ps rows R e w' := by
  have hA := (Below.refl w.heap.size w).alloc (Nat.le_refl _) (.cells #[.string y, .string z] 9)
  obtain ⟨i, -, -, -, hP⟩ := h.cells
  refine (qwords (h.below hA) w.heap.size 2 [y, z] rfl (by decide) (heap_alloc_new _ _) (by omega) (fun x hx => by simp at hx; rcases hx with rfl | rfl <;> assumption) hsh R HR).mono ?_
  intro e w' hq
  exact wdq_only hq (Only.of hA)
theorem words_two {E : Int} {y z : List UInt8} (h1 : ¬ opB y) (h2 : ¬ shB y) : wordsR E d [y, z] l = match takeT E y l with
    | .error q => .error q
    | .ok r => wordsR E d [z] r := by
  rw [wordsR, takeT]
  split
  · rw [if_neg (fun h => h1 h.1)]
    unfold stepD
    rw [if_neg h1, if_neg h2]
  · rfl
theorem lit_word {s : List UInt8} (h : isWord s = true) : isLit s := Or.inl h
end
end

end Go.Proofs.YtclnjhffcfkihaeGreatDoor
