/-
  Outcomes that are being written can be read; the first numbers of a list.
  Outcomes in order, each once; by the laws.
  Orders of one's own, to be put behind others.
  What the program finds for colours.
  Colours that were found, read.
-/
import Derived.Test.YtocfocjnnjdcgaaDoorZPut
import Derived.Test.YtocfocjnnjdcgaaDoorCOkP
import Derived.BigRegion
import Derived.Test.YtocfocjnnjdcgaaDoorFam
import Derived.Test.YtocfocjnnjdcgaaDoorLivM
import Derived.Test.YtocfocjnnjdcgaaDoorAlcI
namespace Go.Proofs.YtocfocjnnjdcgaaDoor
section
open Go.RowKit

theorem iso_ein {w : World} {B : Nat} {a : Option Addr} {len c : Nat} {es : List En} (h : IsO w B a len c es) : EIn w a es := fun i hi => by
  obtain ⟨g, cap, h1, h2, _, _⟩ := fam_block h.own (by have := h.is; omega)
  simp only [Value.slice.injEq] at h1
  have hc := fun j hj => fam_cell h.own h2 (i := i * 3 + j) (u := enC (es.getD i default) j) (rows3_get hi hj)
  refine ⟨g, 0, h1.1, ?_, ?_, ?_⟩
  · have := hc 0 (by omega)
    rw [show 0 + i * 3 = i * 3 + 0 by omega]
    exact this
  · have := hc 1 (by omega)
    rw [show 0 + i * 3 + 1 = i * 3 + 1 by omega]
    exact this
  · have := hc 2 (by omega)
    rw [show 0 + i * 3 + 2 = i * 3 + 2 by omega]
    exact this

theorem slice_ints (wa : Option Addr) (len wc n : Nat) (h : n ≤ wc) (V : World) : (Instr.slice 23 (.slice wa len wc) none (some (.int .i64 (n : Int))) none).run Tryd.prog V = .ok (.slice wa n wc) V := by
  rw [run_slice_h (P := Tryd.prog) V 23 wa len wc (by kernel_rfl) .i64 (n : Int) (by omega) (by omega)]
  have e1 : (sizeOf (Tryd.prog.elem 23)).run Tryd.prog V = .ok 1 V := by kernel_rfl
  rw [e1]
  simp only [Result.andThen, sliced, Int.toNat_natCast]
  cases wa <;> simp [Addr.add]
end

section
open Go.RowKit

/-- Outcomes in order, each once. -/
def onceL (l : List Oc) : List Oc := l.foldl (fun r o => insO o r) []
theorem once_snoc (l : List Oc) (o : Oc) : onceL (l ++ [o]) = insO o (onceL l) := by unfold onceL; rw [List.foldl_append]; rfl
theorem once_sorted_rev : ∀ r : List Oc, SortedO (onceL r.reverse)
  | [] => List.Pairwise.nil
  | o :: r => by
    rw [List.reverse_cons, once_snoc]
    exact sorted_insO (once_sorted_rev r)
theorem once_sorted (l : List Oc) : SortedO (onceL l) := by have := once_sorted_rev l.reverse; rwa [List.reverse_reverse] at this
theorem once_mem_rev {x : Oc} : ∀ r : List Oc, x ∈ onceL r.reverse ↔ x ∈ r
  | [] => Iff.rfl
  | o :: r => by
    rw [List.reverse_cons, once_snoc, mem_insO, once_mem_rev r, List.mem_cons]
theorem once_mem {x : Oc} (l : List Oc) : x ∈ onceL l ↔ x ∈ l := by
  have := once_mem_rev (x := x) l.reverse
  rwa [List.reverse_reverse, List.mem_reverse] at this
/-- Where an outcome belongs. -/
theorem ins_at {o : Oc} {l : List Oc} {j : Nat} (hj : j ≤ l.length) (h : ∀ y, y ∈ l.take j → aheadO y o = true) (h1 : j < l.length → aheadO (l.getD j default) o = false) :
    (j < l.length → aheadO o (l.getD j default) = false → insO o l = l) ∧ ((j < l.length → aheadO o (l.getD j default) = true) → insO o l = l.take j ++ [o] ++ l.drop j) := by
  have key : j < l.length → l = l.take j ++ l.getD j default :: l.drop (j + 1) := fun hlt => by
    have e : l.getD j default = l[j] := by rw [List.getD_eq_getElem?_getD, List.getElem?_eq_getElem hlt]; rfl
    rw [e, ← List.drop_eq_getElem_cons hlt, List.take_append_drop]
  refine ⟨fun hlt ha => ?_, fun ha => ?_⟩
  · have e : o = l.getD j default := ahead_tri ha (h1 hlt)
    have k := key hlt
    rw [← e] at k
    rw [k]
    exact ins_in h
  · rcases Nat.lt_or_ge j l.length with hlt | hge
    · have k := key hlt
      have e2 : l.drop j = l.getD j default :: l.drop (j + 1) := by
        have e : l.getD j default = l[j] := by rw [List.getD_eq_getElem?_getD, List.getElem?_eq_getElem hlt]; rfl
        rw [e, ← List.drop_eq_getElem_cons hlt]
      rw [e2]
      have := ins_mid (r := l.drop (j + 1)) (ha hlt) h
      rw [← k] at this
      rw [this]
      simp
    · have hjl : j = l.length := by omega
      rw [hjl, List.take_length] at h ⊢
      rw [ins_end h, List.drop_length]
      simp
theorem ensV_flat_rev : ∀ r : List En, ensV r.reverse = r.reverse.flatMap fun e => [.int .i64 e.o.st, .slice e.wa e.o.ws.length e.wc, .slice e.pa e.o.pr.length e.pc]
  | [] => rfl
  | e :: r => by
    rw [List.reverse_cons, ensV_snoc, ensV_flat_rev r, List.flatMap_append]
    simp
theorem ensV_flat (es : List En) : ensV es = es.flatMap fun e => [.int .i64 e.o.st, .slice e.wa e.o.ws.length e.wc, .slice e.pa e.o.pr.length e.pc] := by
  have := ensV_flat_rev es.reverse
  rwa [List.reverse_reverse] at this
theorem ensV_append (es fs : List En) : ensV (es ++ fs) = ensV es ++ ensV fs := by rw [ensV_flat, ensV_flat, ensV_flat, List.flatMap_append]
theorem ensV_len3 (es : List En) : (ensV es).length = es.length * 3 := by
  rw [ensV_flat]
  induction es with
  | nil => rfl
  | cons e es ih => rw [List.flatMap_cons, List.length_append, ih, List.length_cons]; simp; omega
theorem ensV_one (es : List En) : ∀ u ∈ ensV es, u.oneCell' = true := fun u hu => by
  rw [ensV_flat, List.mem_flatMap] at hu
  obtain ⟨e, _, he⟩ := hu
  simp only [List.mem_cons, List.not_mem_nil, or_false] at he
  rcases he with rfl | rfl | rfl <;> rfl
/-- Outcomes in a row, as what is to be put behind others: the first of them, those behind. -/
theorem iso_src {w : World} {B : Nat} {a : Option Addr} {len c : Nat} {es : List En} (h : IsO w B a len c es) : SrcL w a (ensV es) := fun k u hu => by
  have hk : k < len * 3 := by
    rw [← h.is, ← ensV_len3]
    rcases Nat.lt_or_ge k (ensV es).length with h1 | h1
    · exact h1
    · rw [List.getElem?_eq_none h1] at hu; cases hu
  obtain ⟨g, cap, e, hg, _⟩ := fam_block h.own (by omega)
  simp only [Value.slice.injEq] at e
  refine ⟨g, 0, e.1, ?_⟩
  rw [Nat.zero_add]
  exact fam_cell h.own hg hu
theorem src_take {w : World} {a : Option Addr} {es : List En} (h : SrcL w a (ensV es)) (j : Nat) : SrcL w a (ensV (es.take j)) := fun k u hu => by
  refine h k u ?_
  have e : ensV es = ensV (es.take j) ++ ensV (es.drop j) := by rw [← ensV_append, List.take_append_drop]
  rw [e, List.getElem?_append_left]
  · exact hu
  · rcases Nat.lt_or_ge k (ensV (es.take j)).length with h1 | h1
    · exact h1
    · rw [List.getElem?_eq_none h1] at hu; cases hu
theorem src_drop {w : World} {a : Option Addr} {es : List En} (h : SrcL w a (ensV es)) (j cap : Nat) (hc : es.length ≤ cap) (hj : j ≤ es.length) : SrcL w (if cap = j then a else a.map fun x => x.add (j * 3)) (ensV (es.drop j)) := fun k u hu => by
  have hk : k < (ensV (es.drop j)).length := by
    rcases Nat.lt_or_ge k (ensV (es.drop j)).length with h1 | h1
    · exact h1
    · rw [List.getElem?_eq_none h1] at hu; cases hu
  rw [ensV_len3, List.length_drop] at hk
  rw [if_neg (by omega)]
  have e : ensV es = ensV (es.take j) ++ ensV (es.drop j) := by rw [← ensV_append, List.take_append_drop]
  have hl : (ensV (es.take j)).length = j * 3 := by rw [ensV_len3, List.length_take]; congr 1; omega
  obtain ⟨b, o, e1, h1⟩ := h (j * 3 + k) u (by rw [e, List.getElem?_append_right (by omega), hl, show j * 3 + k - j * 3 = k by omega]; exact hu)
  refine ⟨b, o + j * 3, ?_, ?_⟩
  · rw [e1]
    simp only [Option.map_some, Addr.add]
    split
    · rename_i h0
      simp only [Option.some.injEq, Addr.mk.injEq, true_and, and_true]
      omega
    · rfl
  · rw [show o + j * 3 + k = o + (j * 3 + k) by omega]
    exact h1
/-- More outcomes behind others. -/
theorem IsO.app {w0 w W : World} {B : Nat} {a : Option Addr} {len c : Nat} {es : List En} (h : IsO w B a len c es) (hb : Below w.heap.size w W) (hB : B ≤ w.heap.size) (fs : List En) (sa : Option Addr) (sc : Nat) (hs : SrcL W sa (ensV fs)) (hl : len + fs.length ≤ 1000000) (h0 : Below B w0 W) :
    ∃ b d w3, (AppS #[51, 51] 51 #[.slice a len c, .slice sa fs.length sc]).run Tryd.prog W = .ok (.slice b (len + fs.length) d) w3 ∧ Hid (IsO w3 B b (len + fs.length) d (es ++ fs) ∧ Below B w0 w3) := by
  have h1 := h.below hb
  have hBW := Nat.le_trans hB hb.size
  obtain ⟨v, w3, r1, r2, r3, _⟩ := app_lie (T := 51) Tryd.underlying51 infoOutcome rfl (by omega) h1.own hBW sa fs.length sc (ensV fs) (ensV_len3 fs) hs (ensV_one fs) hl (by omega)
  obtain ⟨b, d, rfl⟩ := fam_form r2
  exact ⟨b, d, w3, r1, ⟨by rw [List.length_append, h.is], by rw [ensV_append]; exact r2⟩, h0.grown r3 hBW (fun k hk => (h1.own.lt k hk).1)⟩
theorem slice_upto (a : Option Addr) (len c n : Nat) (h : n ≤ c) (V : World) : (Instr.slice 51 (.slice a len c) none (some (.int .i64 (n : Int))) none).run Tryd.prog V = .ok (.slice a n c) V := by
  rw [run_slice_h (P := Tryd.prog) V 51 a len c (by kernel_rfl) .i64 (n : Int) (by omega) (by omega)]
  have e1 : (sizeOf (Tryd.prog.elem 51)).run Tryd.prog V = .ok 3 V := by kernel_rfl
  rw [e1]
  simp only [Result.andThen, sliced, Int.toNat_natCast]
  cases a <;> simp [Addr.add]
theorem slice_from (a : Option Addr) (len c n : Nat) (h : n ≤ len) (V : World) : (Instr.slice 51 (.slice a len c) (some (.int .i64 (n : Int))) none none).run Tryd.prog V = .ok (.slice (if c = n then a else a.map fun x => x.add (n * 3)) (len - n) (c - n)) V := by
  rw [run_slice_l (P := Tryd.prog) V 51 a len c (by kernel_rfl) .i64 (n : Int) (by omega) (by omega)]
  have e1 : (sizeOf (Tryd.prog.elem 51)).run Tryd.prog V = .ok 3 V := by kernel_rfl
  rw [e1]
  simp only [Result.andThen, sliced, Int.toNat_natCast]
theorem iso_cap {w : World} {B : Nat} {a : Option Addr} {len c : Nat} {es : List En} (h : IsO w B a len c es) : len ≤ c := by
  rcases h.own.2 with ⟨h1, _⟩ | ⟨g, cap, cur, h1, _, _, h3, _⟩
  · simp only [Value.slice.injEq] at h1
    omega
  · simp only [Value.slice.injEq] at h1
    omega
end

section
open Go.RowKit

theorem own_src {W : World} {B : Nat} {a : Option Addr} {c : Nat} {l : List I4} (h : OwnC W B (.slice a l.length c) l) : SrcL W a (cellsT l) := fun k u hu => by
  have hk : k < l.length * 4 := by
    rw [← cellsT_len]
    rcases Nat.lt_or_ge k (cellsT l).length with h1 | h1
    · exact h1
    · rw [List.getElem?_eq_none h1] at hu; cases hu
  obtain ⟨g, cap, e, hg, _⟩ := fam_block h (by omega)
  simp only [Value.slice.injEq] at e
  refine ⟨g, 0, e.1, ?_⟩
  rw [Nat.zero_add]
  exact fam_cell h hg hu
end

section
open Go.RowKit

theorem O2.keepN {w w' : World} {B : Nat} {u : Value} {yss : List (List Int)} (h : O2 w B u yss) (hb : ∀ b, B ≤ b → w'.heap[b]? = w.heap[b]?) : O2 w' B u yss := by
  obtain ⟨xs, h1, h2⟩ := h
  exact ⟨xs, fam_keeps h1 fun b hb2 => hb b (h1.lt b hb2).1, fun k hk => fam_keeps (h2 k hk) fun b hb2 => hb b ((h2 k hk).lt b hb2).1⟩
theorem told_tld {X : Nat → Nat → Int} {l rg m lk : Nat} (hrg : rg ≤ 200) (hok : ∀ i, i < l → ordE rg m lk l (X i 0) (X i 1) (X i 2) (X i 3) = 0) {Sx : Nat → Nat → Nat} (h : ∀ a b, has (Sx a) b = true ↔ Cl X l a b) : TldC (tellS Sx rg) rg (Cl X l) := ⟨tellS_len _ _, fun _ hr => told_cl hrg hok h hr⟩
/-- What Colours tells, where the program may be. -/
def AcoQ (w : World) (n : Nat) (L : Nat → Nat) (X : Nat → Nat → Nat → Int) (rg : Nat) (e : Ending) (w' : World) : Prop := ∃ (K : List (List Int)) (ua : Option Addr) (uc : Nat), e = .returned (.tuple #[.slice ua n uc, ints3 0 0 0]) ∧ O2 w' w.heap.size (.slice ua n uc) K ∧ ColP K n L X rg ∧ Below w.heap.size w w'

set_option maxRecDepth 100000 in
set_option maxHeartbeats 3200000 in
theorem acolours_no (w : World) (ca : Option Addr) (n cc : Nat) (wa : Option Addr) (m wc : Nat) (lk rg x y z : Int) (hx : x ≠ 0) (HC : Hid (∀ W, Below w.heap.size w W → Calls Tryd.prog 41 #[prgV ca n cc wa m wc lk rg] W fun e w' => e = .returned (ints3 x y z) ∧ Below W.heap.size W w')) :
    Calls Tryd.prog 23 #[prgV ca n cc wa m wc lk rg] w fun e w' => e = .returned (.tuple #[nilV, ints3 x y z]) ∧ Below w.heap.size w w' := by
  obtain ⟨hS, hP, hF⟩ := two_at w (.cells #[.slice ca n cc, .slice wa m wc, .int .i64 lk, .int .i64 rg] 25) (.cells #[.int .i64 0, .int .i64 0, .int .i64 0] 30)
  obtain ⟨S, hSS⟩ : ∃ V, (w.alloc (.cells #[.slice ca n cc, .slice wa m wc, .int .i64 lk, .int .i64 rg] 25)).alloc (.cells #[.int .i64 0, .int .i64 0, .int .i64 0] 30) = V := ⟨_, rfl⟩
  rw [hSS] at hS hP hF
  have HSS := Hid.out (p := Hid _) hSS
  have HCL := Hid.out (p := Hid _) (clashP_no S ca n cc wa m wc lk rg x y z hx (fun W hW => HC.out W (hS.trans (hW.mono hS.size))))
  have HF := Hid.out (p := Hid _) (And.intro hS hF)
  have hx' : (x != 0) = true := by simpa using hx
  clear hS hP hF hSS HC hx
  go_enter Tryd.func23, Tryd.ntmps23
  go_wp2_with fail
  rw [HSS.out]
  refine Calls.mono HCL.out ?_
  rintro e w1 ⟨rfl, hb1⟩
  have hF1 := blk hb1 HF.out.2
  have hl1 : w.heap.size + 1 < w1.heap.size := box_lt hF1
  have u0 : w1.cell? ⟨w.heap.size + 1, 0, none⟩ = some (.int .i64 0) := box_cell hF1 rfl
  have u1 : w1.cell? ⟨w.heap.size + 1, 1, none⟩ = some (.int .i64 0) := box_cell hF1 rfl
  have u2 : w1.cell? ⟨w.heap.size + 1, 2, none⟩ = some (.int .i64 0) := box_cell hF1 rfl
  have uf : ∀ i, w1.frozen? ⟨w.heap.size + 1, i, none⟩ = false := fun i => box_free hF1
  have HB1 := Hid.out (p := Hid _) (HF.out.1.trans (hb1.mono HF.out.1.size))
  have HR := Hid.out (p := Hid _) (set3_all (HF.out.1.trans (hb1.mono HF.out.1.size)) (g := w.heap.size + 1) (by omega) hF1 (.int .i64 x) (.int .i64 y) (.int .i64 z) (.cells #[.int .i64 x, .int .i64 y, .int .i64 z] 30))
  have n1 : w1.heap.size ≠ w.heap.size + 1 := by omega
  have n2 : w.heap.size + 1 ≠ w1.heap.size := by omega
  clear hF1 hb1 HSS HF HCL
  go_wp2_with fail
  go_region
  all_goals go_wp2
  all_goals refine bodyPost_ret (v := .tuple #[nilV, ints3 x y z]) (by simp [results, Tryd.results23, go_sem, HR.out.2.1, HR.out.2.2.1, HR.out.2.2.2]) rfl ⟨rfl, ?_⟩
  all_goals exact HR.out.1.drew


attribute [local go_sem ↓] appS_eq in
set_option maxRecDepth 100000 in
set_option maxHeartbeats 3200000 in
theorem acolours_yes (w : World) (ca : Option Addr) (n cc : Nat) (wa : Option Addr) (m wc lk rg : Nat) (A : Nat → Option Addr) (L C : Nat → Nat) (X : Nat → Nat → Nat → Int) (hp : PIn w ca n A L C X) (hn0 : 0 < n) (hc : COk n L X m lk rg) (hT : TabZ w)
    (HC : Hid (∀ W, Below w.heap.size w W → Calls Tryd.prog 41 #[prgV ca n cc wa m wc lk rg] W fun e w' => e = .returned (ints3 0 0 0) ∧ Below W.heap.size W w')) :
    Calls Tryd.prog 23 #[prgV ca n cc wa m wc lk rg] w (AcoQ w n L X rg) := by
  obtain ⟨hS, hP, hF⟩ := two_at w (.cells #[.slice ca n cc, .slice wa m wc, .int .i64 lk, .int .i64 rg] 25) (.cells #[.int .i64 0, .int .i64 0, .int .i64 0] 30)
  obtain ⟨S, hSS⟩ : ∃ V, (w.alloc (.cells #[.slice ca n cc, .slice wa m wc, .int .i64 lk, .int .i64 rg] 25)).alloc (.cells #[.int .i64 0, .int .i64 0, .int .i64 0] 30) = V := ⟨_, rfl⟩
  rw [hSS] at hS hP hF
  have HSS := Hid.out (p := Hid _) hSS
  have HCL : Hid (Calls Tryd.prog 9 #[prgV ca n cc wa m wc lk rg] S fun e w' => ∃ u ysss, e = .returned (.tuple #[u, ints3 0 0 0]) ∧ Hid (O3 w' S.heap.size u ysss ∧ ysss.length = n ∧ (∀ t, t < n → ∃ S, (∀ a b, has (S a) b = true ↔ Cl (X t) (L t) a b) ∧ ysss.getD t [] = tellS S (rg)) ∧ Below S.heap.size S w')) := (clashP_yes S ca n cc wa m wc lk rg A L C X (hp.below hS) hc (hT.below hS) (fun W hW => HC.out W (hS.trans (hW.mono hS.size)))).mono fun e w' ⟨u, ysss, h1, h2⟩ => ⟨u, ysss, h1, h2⟩
  have HF := Hid.out (p := Hid _) (And.intro hS (And.intro hP hF))
  have HPI : Hid (PIn w ca n A L C X) := hp
  have HCO := Hid.out (p := Hid _) hc
  have hrg := hc.rg2
  have hn4 := hc.n4
  clear hS hP hF hSS HC hp hc hT
  go_enter Tryd.func23, Tryd.ntmps23
  go_wp2_with fail
  rw [HSS.out]
  refine Calls.mono HCL.out ?_
  rintro e w1 ⟨u, ysss, rfl, H1⟩
  obtain ⟨ua, uc, rfl⟩ := H1.out.1.form
  have hb1 := H1.out.2.2.2
  have hu : Below w1.heap.size w1 (w1.alloc (.cells #[.int .i64 0, .int .i64 0, .int .i64 0] 30)) := below_one _ _
  have hbS := hb1.trans (hu.mono hb1.size)
  obtain ⟨yn, hyn⟩ : ∃ q, ysss.length = q := ⟨_, rfl⟩
  have HYN := Hid.out (p := Hid _) hyn
  obtain rfl : yn = n := by rw [← hyn]; exact H1.out.2.1
  rw [hyn]
  have hP1 := blk hbS HF.out.2.1
  have hF1 := blk hb1 HF.out.2.2
  have hFW := blk hbS HF.out.2.2
  have p0 := box_cell (i := 0) hP1 rfl
  have hsz : w.heap.size + 1 < w1.heap.size := box_lt hF1
  clear hyn
  obtain ⟨W1, hW1⟩ : ∃ V, w1.alloc (.cells #[.int .i64 0, .int .i64 0, .int .i64 0] 30) = V := ⟨_, rfl⟩
  have HW1 := Hid.out (p := Hid _) hW1
  rw [hW1] at hu hbS hP1 hFW
  have HAT1 : Hid (∀ V, Below W1.heap.size W1 V → Below w.heap.size w V ∧ V.heap[w.heap.size]? = some (.cells #[.slice ca yn cc, .slice wa m wc, .int .i64 lk, .int .i64 rg] 25) ∧ V.heap[w.heap.size + 1]? = some (.cells #[.int .i64 0, .int .i64 0, .int .i64 0] 30) ∧ O3 V S.heap.size (.slice ua yn uc) ysss) := fun V hV => by
    have hO := H1.out.1
    rw [HYN.out] at hO
    exact ⟨HF.out.1.trans ((hbS.trans (hV.mono hbS.size)).mono HF.out.1.size), blk hV hP1, blk hV hFW, hO.below (hu.trans (hV.mono hu.size))⟩
  have HZ : Hid (w.heap.size + 1 < W1.heap.size) := box_lt hFW
  clear hb1 hu hbS hF1 hFW hP1 hW1 hsz HCL HSS
  go_wp2_with fail
  rw [HW1.out]
  clear p0 HW1
  go_loopw [6, 21] (fun kv iv wr => ∃ (t : Nat) (K : List (List Int)), t ≤ yn ∧ iv = .int .i64 t ∧ Hid (O2 wr W1.heap.size kv K ∧ K.length = t ∧ (∀ q, q < t → ColT (K.getD q []) (Cl (X q) (L q)) rg) ∧ Below W1.heap.size W1 wr)) (fun _ iv _ => yn - (intOf iv).toNat)
  case atStart => exact ⟨0, [], Nat.zero_le _, rfl, o2_nil _ _, rfl, fun q hq => absurd hq (Nat.not_lt_zero _), Below.refl _ _⟩
  case round =>
    obtain ⟨t, K, ht, rfl, HI⟩ := hrel
    obtain ⟨hwV, hPV, hFV, hOV⟩ := HAT1.out wr HI.out.2.2.2
    by_cases htn : t < yn
    · have htI : (t : Int) < (yn : Int) := by omega
      obtain ⟨cb, co, rfl, hcell⟩ := (HPI.out.below hwV).code t htn
      obtain ⟨ub, x, rfl, -, hux, hxO⟩ := hOV.at (k := t) (by rw [HYN.out]; exact htn)
      obtain ⟨Sx, hSx, hyt⟩ := H1.out.2.2.1 t htn
      rw [hyt] at hxO
      obtain ⟨xa, xc, rfl⟩ := hxO.form
      rw [tellS_len] at hux hxO
      obtain ⟨l, hl⟩ : ∃ l, L t = l := ⟨_, rfl⟩
      have hl4 : l ≤ 1000 := by rw [← hl]; exact HCO.out.L4 t htn
      obtain ⟨ak, hak⟩ : ∃ a, A t = a := ⟨_, rfl⟩
      rw [hl, hak] at hcell
      have HOK : Hid (∀ j, j < l → ordE rg m lk l (X t j 0) (X t j 1) (X t j 2) (X t j 3) = 0) := fun j hj => by
        have := HCO.out.ord t j htn (by rw [hl]; exact hj)
        rw [hl] at this
        exact this
      have HNG := Hid.out (p := Hid _) (ngraph_any wr xa xc S.heap.size (tellS Sx rg) ak l (C t) (X t) rg m lk HCO.out.rg0 hrg hl4 hxO (tellS_len _ _) (fun i hi => by
        obtain ⟨ab, ao, e1, c⟩ := (HPI.out.below hwV).ord t i htn (by rw [hl]; exact hi)
        exact ⟨ab, ao, by rw [← hak, e1], c⟩) HOK.out)
      have HXO : Hid (O2 wr S.heap.size (.slice xa rg xc) (tellS Sx rg)) := hxO
      have HTL := Hid.out (p := Hid _) (told_tld hrg HOK.out (by rw [hl] at hSx; exact hSx))
      have HLT := Hid.out (p := Hid _) hl
      obtain ⟨ka, kc, hkv⟩ := HI.out.1.form
      have hkl := HI.out.2.1
      rw [hkl] at hkv
      subst hkv
      clear hxO hSx hyt hwV hPV hFV hOV hl hak
      go_wp2_with fail
      refine Calls.mono HNG.out ?_
      rintro e w5 ⟨gb, ub2, rb, rc, ab, rfl, hG⟩
      have HGC := Hid.out (p := Hid _) (gcolours_any wr w5 gb ub2 rb rc ab rg xa xc S.heap.size (tellS Sx rg) (Cl (X t) l) hG HXO.out HTL.out HCO.out.rg0 hrg (fun a b h => h.symm) (fun a h => h.1 rfl))
      have HLW := Hid.out (p := Hid _) hG.low
      clear hG HNG hux hcell
      go_wp2_with fail
      refine Calls.mono HGC.out ?_
      rintro e w6 ⟨k, fb, fc, rfl, hko, hkl2, hkc, hb6⟩
      have hs5 := HLW.out.size
      have hW1s := HI.out.2.2.2.size
      obtain ⟨g7, cap7, w7, hrun7, hO7, hlow7⟩ := app_lst HI.out.1 hb6 hW1s (hko.low (by omega)) (by rw [hkl]; omega)
      rw [hkl] at hrun7 hO7
      have HN : Hid (O2 w7 W1.heap.size (.slice (some ⟨g7, 0, none⟩) (t + 1) cap7) (K ++ [k]) ∧ (K ++ [k]).length = t + 1 ∧ (∀ q, q < t + 1 → ColT ((K ++ [k]).getD q []) (Cl (X q) (L q)) rg) ∧ Below W1.heap.size W1 w7) := by
        refine ⟨hO7, by simp [hkl], fun q hq => ?_, hlow7 W1 (HI.out.2.2.2.trans (hb6.mono hW1s))⟩
        rw [getD_snoc, hkl]
        by_cases e : q < t
        · rw [if_pos e]
          exact HI.out.2.2.1 q e
        · obtain rfl : q = t := by omega
          rw [if_neg e, if_pos rfl, HLT.out]
          exact ⟨hkl2, hkc⟩
      clear hko hkl2 hkc hb6 hO7 hlow7 hs5 hW1s HGC
      go_wp2_with fail
      go_roundw
      case rel => exact ⟨t + 1, _, by omega, by go_num, HN.out⟩
      case measure => simp [intOf]; omega
    · obtain rfl : t = yn := by omega
      obtain ⟨ka, kc, hkv⟩ := HI.out.1.form
      rw [HI.out.2.1] at hkv
      subst hkv
      have u0 := box_cell (i := 0) hFV rfl
      have u1 := box_cell (i := 1) hFV rfl
      have u2 := box_cell (i := 2) hFV rfl
      have uf : ∀ i, wr.frozen? ⟨w.heap.size + 1, i, none⟩ = false := fun i => box_free hFV
      have HR := Hid.out (p := Hid _) (And.intro (set3_low hwV (F := w.heap.size + 1) (by omega) (.int .i64 0) (.int .i64 0) (.int .i64 0)) (set3_is hFV (.int .i64 0) (.int .i64 0) (.int .i64 0)))
      have r0 := Hid.out (p := Hid _) (box_cell (i := 0) HR.out.2 rfl)
      have r1 := Hid.out (p := Hid _) (box_cell (i := 1) HR.out.2 rfl)
      have r2 := Hid.out (p := Hid _) (box_cell (i := 2) HR.out.2 rfl)
      clear hwV hPV hFV hOV
      go_wp2_with fail
      refine bodyPost_ret (v := .tuple #[.slice ka t kc, ints3 0 0 0]) (by simp [results, Tryd.results23, go_sem, r0.out, r1.out, r2.out]) rfl ⟨K, ka, kc, rfl, (HI.out.1.keepN fun b hb => set3_far (by have := HZ.out; omega) _ _ _).low (by have := HZ.out; omega), ⟨HI.out.2.1, HI.out.2.2.1⟩, ?_⟩
      exact HR.out.1
end

section
open Go.RowKit

/-- Lists that are our own can be read. -/
theorem cin_own {w : World} {B : Nat} {a : Option Addr} {m c : Nat} {K : List (List Int)} (h : O2 w B (.slice a m c) K) : CIn w a K := fun t ht => by
  obtain ⟨g, x, rfl, rfl, hx, hxs⟩ := h.at ht
  obtain ⟨xa, xc, rfl⟩ := hxs.form
  exact ⟨g, 0, xa, xc, rfl, by rw [Nat.zero_add]; exact hx, hxs.sis⟩
end

end Go.Proofs.YtocfocjnnjdcgaaDoor
