/-
  Expressions read by how tight signs bind, from the left: the same as level by level.
  The program's tokens: signs.
  What a row's list of variables gives.
-/
import Derived.Test.YtclnjhffcfkihaeGreatDoorSynO
import Derived.Test.YtclnjhffcfkihaeGreatDoorLexA7
import Derived.Laws.Rows
import Derived.ProofKit
import Derived.OpenShut
import Derived.Lay
import Derived.Deep.DeepHandedRow
import Derived.Stop.LaidErr
import Derived.Lib.LaidTab
import Derived.Shelf.Vars
namespace Go.Proofs.YtclnjhffcfkihaeGreatDoor
section
section
variable {e : Int}
/-- More of the levels 4 down to 5 - j behind what stands. -/
noncomputable def restJ (e : Int) : Nat → Nat → Nd → List Tok → TRes Nd
  | 0, _, x, l => .ok (x, l)
  | j + 1, d, x, l => bindT (restJ e j d x l) (loopT e (4 - j) d)
theorem bindT_assoc {α β γ : Type} (x : TRes α) (f : α → List Tok → TRes β) (g : β → List Tok → TRes γ) : bindT (bindT x f) g = bindT x fun a l => bindT (f a l) g := by
  cases x with
  | error q => rfl
  | ok y => rfl
theorem expr_rest (d : Nat) (l : List Tok) : ∀ j k : Nat, k + j = 5 → exprT e k d l = bindT (unaryT e d l) (restJ e j d)
  | 0, k, hk => by
    obtain rfl : k = 5 := by omega
    rw [exprT_five]
    cases unaryT e d l with
    | error q => rfl
    | ok y => rfl
  | j + 1, k, hk => by
    rw [exprT_low (by omega), expr_rest d l j (k + 1) (by omega), bindT_assoc]
    have h4 : 4 - j = k := by omega
    congr 1
    funext x q
    rw [restJ, h4]
theorem sign_more {k : Nat} {l : List Tok} (h : NoSign (k + 1) l) (hs : signAt k l = none) : NoSign k l := by
  match l, h with
  | [], _ => trivial
  | t :: r, h =>
    intro h4
    have h1 := h h4
    rw [signAt] at hs
    split at hs
    · cases hs
    · rename_i hn
      have : lvl t.text ≠ (k : Int) := fun e => hn ⟨h4, e⟩
      omega
theorem loop_ns {k d : Nat} (hx : ∀ r y q, exprT e (k + 1) d r = .ok (y, q) → NoSign (k + 1) q ∧ q.length < r.length) : ∀ (N : Nat) (l : List Tok), l.length ≤ N → ∀ x y q, NoSign (k + 1) l → loopT e k d x l = .ok (y, q) → NoSign k q := by
  intro N
  induction N with
  | zero =>
    intro l hl x y q hn h
    have : l = [] := by cases l with
      | nil => rfl
      | cons a b => simp at hl
    subst this
    rw [loopT_is] at h
    have h1 := Except.ok.inj h
    simp only [Prod.mk.injEq] at h1
    rw [← h1.2]
    trivial
  | succ N ih =>
    intro l hl x y q hn h
    rw [loopT_is] at h
    cases hs : signAt k l with
    | none =>
      rw [hs] at h
      have h1 := Except.ok.inj h
      simp only [Prod.mk.injEq] at h1
      rw [← h1.2]
      exact sign_more hn hs
    | some p =>
      obtain ⟨t, r⟩ := p
      rw [hs] at h
      have hr := sign_tl hs
      simp only at h
      cases he : exprT e (k + 1) d r with
      | error f => rw [he] at h; cases h
      | ok z =>
        obtain ⟨z, q2⟩ := z
        rw [he] at h
        have h2 := hx r z q2 he
        exact ih q2 (by omega) _ y q h2.1 h
theorem exprT_len {k d : Nat} (hk : k ≤ 5) {l q : List Tok} {x : Nd} (h : exprT e k d l = .ok (x, q)) : q.length < l.length ∧ ndSize x + q.length ≤ l.length := by
  obtain ⟨n, y, hy⟩ := ex_tot (e := e) k d l hk
  have h3 := tld_is (ex_up k l) hy
  have h4 := hy.trans (congrArg some (h3.symm.trans h))
  exact ⟨(expr_len n).1 _ _ _ _ _ h4, (expr_size n).1 _ _ _ _ _ h4⟩
/-- Behind an expression of a level no sign of it stands. -/
theorem expr_ns : ∀ j k : Nat, k + j = 5 → ∀ d l x q, exprT e k d l = .ok (x, q) → NoSign k q
  | 0, k, hk, d, l, x, q, _ => by
    obtain rfl : k = 5 := by omega
    cases q with
    | nil => trivial
    | cons t r => exact fun _ => by have := lvl_le t.text; omega
  | j + 1, k, hk, d, l, x, q, h => by
    rw [exprT_low (by omega)] at h
    cases he : exprT e (k + 1) d l with
    | error f => rw [he] at h; cases h
    | ok z =>
      obtain ⟨z, q2⟩ := z
      rw [he] at h
      exact loop_ns (fun r y q hr => ⟨expr_ns j (k + 1) (by omega) d r y q hr, (exprT_len (by omega) hr).1⟩) q2.length q2 (Nat.le_refl _) z x q (expr_ns j (k + 1) (by omega) d l z q2 he) h
/-- No sign that binds so tight: nothing more. -/
theorem rest_none {d : Nat} {x : Nd} {l : List Tok} : ∀ j k : Nat, k + j = 5 → NoSign k l → restJ e j d x l = .ok (x, l)
  | 0, _, _, _ => rfl
  | j + 1, k, hk, h => by
    have h4 : 4 - j = k := by omega
    rw [restJ, rest_none j (k + 1) (by omega) (h.up (by omega)), h4]
    show loopT e k d x l = _
    rw [loopT_is, h.none (Nat.le_refl k)]
/-- A sign that binds so tight: what stands behind it, and more. -/
theorem rest_sign {d m : Nat} {x : Nd} {l r : List Tok} {t : Tok} (hs : signAt m l = some (t, r)) (hm : m ≤ 4) (hn : NoSign (m + 1) l) : ∀ i j k : Nat, k + j = 5 → k + i = m → restJ e j d x l = bindT (exprT e (m + 1) d r) fun y q => restJ e j d (.mk 19 0 t.pos t.text [x, y]) q
  | 0, j, k, hk, hi => by
    obtain rfl : k = m := by omega
    obtain ⟨j, rfl⟩ : ∃ j', j = j' + 1 := ⟨j - 1, by omega⟩
    have h4 : 4 - j = k := by omega
    rw [restJ, rest_none j (k + 1) (by omega) hn, h4]
    show loopT e k d x l = _
    rw [loopT_is, hs]
    simp only
    cases he : exprT e (k + 1) d r with
    | error f => rfl
    | ok z =>
      obtain ⟨y, q⟩ := z
      simp only [bindT]
      rw [restJ, rest_none j (k + 1) (by omega) (expr_ns j (k + 1) (by omega) d r y q he), h4]
      rfl
  | i + 1, j, k, hk, hi => by
    obtain ⟨j, rfl⟩ : ∃ j', j = j' + 1 := ⟨j - 1, by omega⟩
    rw [restJ, rest_sign hs hm hn i j (k + 1) (by omega) (by omega), bindT_assoc]
    rfl
end
end

section
open Go.RowKit

theorem LEnv.row {w : World} (h : LEnv w) : ∃ t fr, w.heap[0]? = some (.cells (signsL.map Value.string).toArray t fr) := by
  have h1 := h.sg
  unfold World.var? at h1
  rw [signsName] at h1
  simp only [Option.bind_some] at h1
  split at h1
  · rename_i cs t fr hh
    simp only [Option.some.injEq] at h1
    exact ⟨t, fr, by rw [hh, h1]⟩
  · cases h1
theorem idx_sign (W : World) : ∀ k : Nat, k < 19 → (Instr.index 125 (.agg (signsL.map Value.string).toArray) (.int .i64 (k : Int))).run Tryz.prog W = .ok (.string (signsL.getD k ⟨#[]⟩)) W
  | 0, _ => by kernel_rfl
  | 1, _ => by kernel_rfl
  | 2, _ => by kernel_rfl
  | 3, _ => by kernel_rfl
  | 4, _ => by kernel_rfl
  | 5, _ => by kernel_rfl
  | 6, _ => by kernel_rfl
  | 7, _ => by kernel_rfl
  | 8, _ => by kernel_rfl
  | 9, _ => by kernel_rfl
  | 10, _ => by kernel_rfl
  | 11, _ => by kernel_rfl
  | 12, _ => by kernel_rfl
  | 13, _ => by kernel_rfl
  | 14, _ => by kernel_rfl
  | 15, _ => by kernel_rfl
  | 16, _ => by kernel_rfl
  | 17, _ => by kernel_rfl
  | 18, _ => by kernel_rfl
  | _ + 19, h => absurd h (by omega)

/-- The first sign that can stand. -/
def findS (l : List UInt8) (gs : List ByteArray) : Option ByteArray := gs.find? fun g => Lib.hasPrefix l g.data.toList
theorem has_two (l : List UInt8) (x y : UInt8) : Lib.hasPrefix l [x, y] = decide (l.take 2 = [x, y]) := by
  match l with
  | [] => simp [Lib.hasPrefix]
  | [a] => simp [Lib.hasPrefix, List.isPrefixOf]
  | a :: b :: r =>
    rw [Bool.eq_iff_iff]
    simp only [Lib.hasPrefix, List.isPrefixOf, Bool.and_true, Bool.and_eq_true, beq_iff_eq, decide_eq_true_eq, List.take_succ_cons, List.take_zero, List.cons.injEq, and_true]
    exact ⟨fun h => ⟨h.1.symm, h.2.symm⟩, fun h => ⟨h.1.symm, h.2.symm⟩⟩
theorem has_one (l : List UInt8) (x : UInt8) : Lib.hasPrefix l [x] = decide (l.head? = some x) := by
  match l with
  | [] => simp [Lib.hasPrefix]
  | a :: r =>
    rw [Bool.eq_iff_iff]
    simp only [Lib.hasPrefix, List.isPrefixOf, Bool.and_true, beq_iff_eq, decide_eq_true_eq, List.head?_cons, Option.some.injEq]
    exact ⟨fun h => h.symm, fun h => h.symm⟩
theorem findS_all (b : UInt8) (r : List UInt8) : findS (b :: r) signsL = if signN (b :: r) = 0 then none else some ⟨⟨(b :: r).take (signN (b :: r))⟩⟩ := by
  unfold findS signsL
  simp only [List.find?_cons, List.find?_nil, has_two, has_one, List.head?_cons, Option.some.injEq]
  by_cases h : (b :: r).take 2 ∈ twoL
  · rw [signN_two h, if_neg (by decide)]
    simp only [twoL, List.mem_cons, List.not_mem_nil, or_false] at h
    rcases h with h | h | h | h | h | h <;> simp only [h] <;> rfl
  · have hn : signN (b :: r) = if b ∈ oneS then 1 else 0 := by unfold signN; rw [if_neg h]
    simp only [twoL, List.mem_cons, List.not_mem_nil, or_false, not_or] at h
    obtain ⟨h1, h2, h3, h4, h5, h6⟩ := h
    simp only [h1, h2, h3, h4, h5, h6, decide_false]
    rw [hn]
    by_cases hb : b ∈ oneS
    · simp only [if_pos hb, List.take_succ_cons, List.take_zero]
      rw [if_neg (by decide)]
      simp only [oneS, List.mem_cons, List.not_mem_nil, or_false] at hb
      rcases hb with rfl | rfl | rfl | rfl | rfl | rfl | rfl | rfl | rfl | rfl | rfl | rfl | rfl <;> rfl
    · simp only [if_neg hb, if_true]
      simp only [oneS, List.mem_cons, List.not_mem_nil, or_false, not_or] at hb
      simp [hb]


theorem signs_len : signsL.length = 19 := rfl
theorem findS_step {l : List UInt8} {j : Nat} (h : j < 19) : findS l (signsL.drop j) = if Lib.hasPrefix l (signsL.getD j ⟨#[]⟩).data.toList = true then some (signsL.getD j ⟨#[]⟩) else findS l (signsL.drop (j + 1)) := by
  have hl : j < signsL.length := by rw [signs_len]; exact h
  rw [List.drop_eq_getElem_cons hl]
  have e : signsL.getD j ⟨#[]⟩ = signsL[j] := by simp [List.getD, List.getElem?_eq_getElem hl]
  rw [e, findS, List.find?_cons]
  split
  · rename_i h1; rw [if_pos h1]
  · rename_i h1; rw [if_neg (by simp [h1])]; rfl
theorem sign_hit {s : ByteArray} {i : Nat} (hi : i < s.size) (hl : isLet s[i] = false) (hd : isDig s[i] = false) {g : ByteArray} (h : findS (s.data.toList.drop i) signsL = some g) :
    oneL (s.data.toList.drop i) = some (4, 0, g.size) ∧ i + g.size ≤ s.size ∧ s.extract i (i + g.size) = g := by
  have h1 := findS_all s[i] (s.data.toList.drop (i + 1))
  rw [← drop_at s i hi, h] at h1
  have hle := signN_le (s.data.toList.drop i)
  have hsl : s.data.toList.length = s.size := by simp
  rw [List.length_drop, hsl] at hle
  split at h1
  · cases h1
  · rename_i h2
    have h3 : g.data.toList = (s.data.toList.drop i).take (signN (s.data.toList.drop i)) := by
      have := Option.some.inj h1
      rw [this]
    have h4 : g.size = signN (s.data.toList.drop i) := by
      rw [Lib.size_eq, h3, List.length_take, List.length_drop, hsl]; omega
    refine ⟨?_, by rw [h4]; omega, ?_⟩
    · rw [oneL_sign hi hl hd, if_neg h2, h4]
    · apply ByteArray.ext
      apply Array.toList_inj.mp
      rw [ext_list, Nat.add_sub_cancel_left, h4, h3]
theorem sign_miss {s : ByteArray} {i : Nat} (hi : i < s.size) (hl : isLet s[i] = false) (hd : isDig s[i] = false) (h : findS (s.data.toList.drop i) signsL = none) : oneL (s.data.toList.drop i) = none := by
  have h1 := findS_all s[i] (s.data.toList.drop (i + 1))
  rw [← drop_at s i hi, h] at h1
  rw [oneL_sign hi hl hd]
  split at h1
  · rename_i h2; rw [if_pos h2]
  · cases h1

set_option maxRecDepth 100000 in
set_option maxHeartbeats 1600000 in
theorem lexSign_any (sb : Nat) (s : ByteArray) (hs : s.size ≤ 4000) (i : Nat) (hi : i < s.size) (hl : isLet s[i] = false) (hd : isDig s[i] = false) (w : World) (h : Sc w sb s i) (hE : LEnv w) :
    Calls Tryz.prog 86 #[.pointer (some ⟨sb, 0, none⟩)] w fun e w' => TokQ w sb s i e w' := by
  have hA : Below w.heap.size w (w.alloc (.cells #[.int .i64 0, .int .i64 0, .int .i64 0, .string ⟨#[]⟩] 66)) := (Below.refl _ _).alloc (Nat.le_refl _) _
  obtain ⟨gt, gf, hrow⟩ := (hE.below hA).row
  obtain ⟨V, hV⟩ : ∃ V, w.alloc (.cells #[.int .i64 0, .int .i64 0, .int .i64 0, .string ⟨#[]⟩] 66) = V := ⟨_, rfl⟩
  obtain ⟨A, hAe⟩ : ∃ A, (signsL.map Value.string).toArray = A := ⟨_, rfl⟩
  have hsz : A.size = 19 := by rw [← hAe]; rfl
  have hidx := idx_sign
  rw [hAe] at hrow hidx
  have hxV : V.heap[w.heap.size]? = some (.cells #[.int .i64 0, .int .i64 0, .int .i64 0, .string ⟨#[]⟩] 66) := by rw [← hV]; exact heap_alloc_new _ _
  have hSV : Sc V sb s i := by rw [← hV]; exact h.below hA
  rw [hV] at hA
  have HV : Hid (Below w.heap.size w V ∧ Sc V sb s i ∧ V.heap[w.heap.size]? = some (.cells #[.int .i64 0, .int .i64 0, .int .i64 0, .string ⟨#[]⟩] 66)) := ⟨hA, hSV, hxV⟩
  have HVE := Hid.out (p := Hid _) hV
  clear hA hSV hxV hV hAe
  go_enter Tryz.func86, Tryz.ntmps86
  go_wp2_with (refine wpList_load_row rfl 125 _ rfl 0 rfl gt _ gf _ hrow Tryz.underlying125 rfl (by rw [hsz]; kernel_rfl) ?_)
  rw [HVE.out]
  clear hrow
  go_loopw [6] (fun k wr => ∃ j : Nat, j ≤ 19 ∧ k = .int .i64 (j : Int) ∧ Hid (findS (s.data.toList.drop i) (signsL.drop j) = findS (s.data.toList.drop i) signsL) ∧ Hid (Below V.heap.size V wr)) (fun k _ => 19 - (intOf k).toNat)
  case atStart => exact ⟨0, by omega, rfl, (rfl : _ = _), Below.refl _ _⟩
  case round =>
    obtain ⟨j, hj, rfl, HF, HW⟩ := hrel
    have hSw : Sc wr sb s i := HV.out.2.1.below HW.out
    have h0 := hSw.c0
    have h1 := hSw.c1
    have hf := hSw.fr
    have HS : Hid (Sc wr sb s i) := hSw
    have hi' : (i : Int) ≤ (s.size : Int) := by omega
    have hi2 : i ≤ s.size := by omega
    clear hSw
    by_cases hlt : j < 19
    · have hlt' : (j : Int) < 19 := by omega
      have hix := fun W => hidx W j hlt
      obtain ⟨g, hg⟩ : ∃ g, signsL.getD j ⟨#[]⟩ = g := ⟨_, rfl⟩
      rw [hg] at hix
      have HST := Hid.out (p := Hid _) (findS_step (l := s.data.toList.drop i) hlt)
      rw [hg] at HST
      clear hidx hg
      cases hp : Lib.hasPrefix (s.extract i s.size).data.toList g.data.toList with
      | true =>
        obtain ⟨hq1, hq2, hq3⟩ := sign_hit hi hl hd (g := g) (by
          have h2 := HF.out
          rw [HST.out, ← rest_list, if_pos hp] at h2
          rw [← rest_list]; exact h2.symm)
        have HQ : Hid (∀ e w', w.grownBy w' (some sb) → e = .returned (.agg #[.int .i64 4, .int .i64 0, .int .i64 i, .string g]) → Sc w' sb s (i + g.size) → TokQ w sb s i e w') := fun e w' hg he hc => by
          unfold TokQ
          rw [hq1]
          refine ⟨hg, ?_, hc⟩
          rw [hq3]
          exact he
        have HS2 : Hid (Sc (wr.setCell ⟨sb, 1, none⟩ (.int .i64 ((i : Int) + (g.size : Int)))).drew sb s (i + g.size) ∧ w.grownBy (wr.setCell ⟨sb, 1, none⟩ (.int .i64 ((i : Int) + (g.size : Int)))).drew (some sb) ∧ (wr.setCell ⟨sb, 1, none⟩ (.int .i64 ((i : Int) + (g.size : Int)))).drew.heap[w.heap.size]? = some (.cells #[.int .i64 0, .int .i64 0, .int .i64 0, .string ⟨#[]⟩] 66) ∧ w.heap.size < (wr.setCell ⟨sb, 1, none⟩ (.int .i64 ((i : Int) + (g.size : Int)))).drew.heap.size) := by
          have e : ((i + g.size : Nat) : Int) = (i : Int) + (g.size : Int) := by omega
          have hS3 := HS.out.set (i + g.size)
          rw [e] at hS3
          have hlt2 : w.heap.size < V.heap.size := by
            rw [← HVE.out]; simp
          have hne : w.heap.size ≠ sb := by have := h.lt; omega
          refine ⟨hS3.below (Below.refl _ _).drew, ?_, ?_, ?_⟩
          · exact grown_then (grown_of_below HV.out.1 _) (grown_then (grown_of_below HW.out _) (grown_then (grown_set _ _ _ _) (grown_of_below (Below.refl _ _).drew _)))
          · exact (Below.heap_setCell _ _ _ _ hne).trans ((HW.out.block _ hlt2).trans HV.out.2.2)
          · have := HW.out.size
            show _ < (wr.setCell _ _).heap.size
            simp only [World.setCell, Array.size_modify]
            omega
        clear hq1 hq3
        go_wp2_with fail
        refine region_tail 10 (by kernel_rfl) (by kernel_rfl) ?_
        simp only [List.take_succ_cons, List.take_zero, List.drop_succ_cons, List.drop_zero]
        repeat still_step
        refine wpStill_nil ?_
        go_wp2_with fail
        refine Calls.mono (Tryz.strings_HasPrefix _ _ _) ?_
        rintro e w' ⟨rfl, rfl⟩
        rw [hp]
        go_wp2_with (first | (go_at_call 111; refine (taken_any sb s (i + g.size) (by omega) _ g (by omega) _ HS2.out.1).mono ?_; rintro e w2 ⟨rfl, hb2⟩; have hx2 := (hb2.block _ HS2.out.2.2.2).trans HS2.out.2.2.1; have p0 := box_cell (i := 0) hx2 rfl; have p1 := box_cell (i := 1) hx2 rfl; have p2 := box_cell (i := 2) hx2 rfl; have p3 := box_cell (i := 3) hx2 rfl; have pf := fun j => box_free (i := j) hx2; clear hx2))
        have hne : w.heap.size ≠ sb := by have := h.lt; omega
        have hg2 : w.grownBy w2 (some sb) := grown_then HS2.out.2.1 (grown_of_below hb2 _)
        refine bodyPost_ret (v := .agg #[.int .i64 4, .int .i64 0, .int .i64 i, .string g]) (by simp [results, Tryz.results86, go_sem, p0, p1, p2, p3]) rfl (HQ.out _ _ ?_ rfl ?_)
        · exact grown_high (grown_high (grown_high (grown_high hg2 (Nat.le_refl _) _) (Nat.le_refl _) _) (Nat.le_refl _) _) (Nat.le_refl _) _
        · exact ((((HS2.out.1.below hb2).far hne _).far hne _).far hne _).far hne _
      | false =>
        have HF2 : Hid (findS (s.data.toList.drop i) (signsL.drop (j + 1)) = findS (s.data.toList.drop i) signsL) := by
          show _ = _
          rw [← HF.out, HST.out, if_neg (by rw [← rest_list, hp]; simp)]
        go_wp2_with fail
        refine region_tail 10 (by kernel_rfl) (by kernel_rfl) ?_
        simp only [List.take_succ_cons, List.take_zero, List.drop_succ_cons, List.drop_zero]
        repeat still_step
        refine wpStill_nil ?_
        go_wp2_with fail
        refine Calls.mono (Tryz.strings_HasPrefix _ _ _) ?_
        rintro e w' ⟨rfl, rfl⟩
        rw [hp]
        go_wp2_with fail
        go_roundw
        case rel => exact ⟨j + 1, by omega, by go_num, HF2, HW.out.drew⟩
        case measure => simp [intOf]; omega
    · have hlt' : ¬ (j : Int) < 19 := by omega
      have hq1 := sign_miss hi hl hd (by
        have h2 := HF.out
        rw [show j = 19 by omega] at h2
        exact h2.symm)
      clear hidx
      go_wp2_with fail
      refine ⟨rfl, grown_then (grown_of_below HV.out.1 _) (grown_of_below HW.out _), ?_⟩
      rw [hq1]
      rfl
end

section
open Go.ChangeShapes Go.WideShapes Go.ChangeAt Go.RowKit
open Go.ChangeMaps (open_string shut_string)

theorem Tryz.own : ownKnob Tryz.prog.godebug = none := by kernel_rfl
theorem gRange : Tryz.prog.globalNamed "strconv.ErrRange" = some 3 := by kernel_rfl
theorem gRangeType : (Tryz.prog.globals[3]?).map (·.type) = some 102 := by kernel_rfl
theorem cellsErr : Tryz.prog.cellsOf 171 = 1 := by kernel_rfl
theorem cellsStr : Tryz.prog.cellsOf 9 = 1 := by kernel_rfl
theorem starErr : "*" ++ "errors.errorString" = "*errors.errorString" := by decide
theorem rowErr (u : TypeId) (h : Tryz.prog.typeName? 3 u = some "*errors.errorString") : u = 169 :=
  typeName_ptr_named (nm := "errors.errorString") (by rw [starErr]; kernel_rfl) (by kernel_rfl) (by decide) u (by rw [starErr]; exact h)

theorem gSignsType : (Tryz.prog.globals[0]?).map (·.type) = some 125 := by kernel_rfl
theorem cellsSigns : Tryz.prog.cellsOf 125 = 19 := by kernel_rfl

/-- An array of strings that reads as a list of texts holds just these. -/
theorem cells_of_strs {H : Type} {enc : TypeId × Value → H} {P : Program} {w : World} {base : Nat} {sp : Nat → Bool} {held : Bool} {fuel : Nat} {t e : TypeId} {n : Nat} {cs : List Value} {zs : List ByteArray} {p : List MemPlace}
    (ht : P.underlying t = some (.array n e)) (he : P.underlying e = some .string) (hce : P.cellsOf e = 1) (hct : P.cellsOf t = n)
    (h : DataW.trod enc P w base sp held fuel t cs = some (.agg (zs.map fun z => .lit (.string z.data.toList)), p)) : cs = zs.map Value.string := by
  cases fuel with
  | zero => simp [DataW.trod] at h
  | succ fuel =>
    simp only [DataW.trod, ht, hce, hct, Nat.mul_one] at h
    split at h
    · rename_i hl
      obtain ⟨xs, hm, hx⟩ := Option.map_eq_some_iff.1 h
      have hxs : xs.map (·.1) = zs.map fun z => (DataW.lit (.string z.data.toList) : DataW H) := by
        have := congrArg Prod.fst hx
        simpa using this
      have hxl : xs.length = n := by simpa using Lib.mapM_length hm
      have hzl : zs.length = n := by
        have := congrArg List.length hxs
        simp at this
        omega
      apply List.ext_getElem?
      intro i
      by_cases hi : i < n
      · obtain ⟨b, hb, hf⟩ := Lib.mapM_at hm i i (by simp [hi])
        obtain ⟨z, hc, rfl, _⟩ := DataW.trod_string he hf
        have h1 : cs[i]? = some (.string z) := by
          have := congrArg (·[0]?) hc
          simpa [List.getElem?_take, List.getElem?_drop] using this
        have h2 : (xs.map (·.1))[i]? = some (DataW.lit (.string z.data.toList) : DataW H) := by simp [hb]
        rw [hxs] at h2
        simp only [List.getElem?_map, Option.map_eq_some_iff, DataW.lit.injEq, Lit.string.injEq] at h2
        obtain ⟨z', hz', e⟩ := h2
        have : z' = z := by
          apply ByteArray.ext
          exact Array.toList_inj.mp e
        subst this
        simp [h1, hz']
      · rw [List.getElem?_eq_none (by omega), List.getElem?_eq_none (by simp; omega)]
    · cases h
theorem strs_of_head {P : Program} {W : World} {name : String} {zs : List ByteArray} {rest : List (String × DataW Unit)} {g : Nat} {t e : TypeId} {n : Nat}
    (hg : P.globalNamed name = some g) (hty : (P.globals[g]?).map (·.type) = some t) (ht : P.underlying t = some (.array n e)) (he : P.underlying e = some .string) (hce : P.cellsOf e = 1) (hct : P.cellsOf t = n)
    (h : laidMet P ((name, .agg (zs.map fun z => .lit (.string z.data.toList))) :: rest) W) : W.var? P name = some (zs.map Value.string).toArray := by
  obtain ⟨ps, ⟨g', t', cs, fuel, p, q, hg', ht', hvar, hd, _, _⟩, _⟩ := h
  obtain rfl := Option.some.inj (hg.symm.trans hg')
  obtain rfl := Option.some.inj (hty.symm.trans ht')
  rw [hvar, ← cells_of_strs ht he hce hct hd]

theorem shaped_size {P : Program} {W : World} (h : W.ShapedOpen P) (g : Nat) (hg : g < P.globals.size) (hs : (((begin P (fun _ _ => 0) default).world.heap[g]?).bind Obj.row?).isSome = true) : g < W.heap.size := by
  obtain ⟨⟨zero, t⟩, hz⟩ := Option.isSome_iff_exists.1 hs
  obtain ⟨cs, h1, _⟩ := h.1 g zero t hg hz
  rcases Nat.lt_or_ge g W.heap.size with h2 | h2
  · exact h2
  · rw [Array.getElem?_eq_none h2] at h1; cases h1
end

end Go.Proofs.YtclnjhffcfkihaeGreatDoor
